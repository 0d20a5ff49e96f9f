import PyProof.Rows.All
import Wide.All
import OpenK.AllK
import Wide.FinOn
import HandS.ForMost
import HandS.AnyAll
import HandS.Zip
import HandS.RevRange
import KE.GoesNew
import HandS.Rev
import HandS.GenList
import PyProof.TupleOfGen
import HandS.TupAny
import HandS.IsInst
import HandS.Small
import HandS.DeepEq
import HandS.TupLe
import HandS.SortKw
import KE.SortData
import PyProof.TupleOfSeq
import HandS.HeadWalk
import HandS.HeadHook2
import KE.KNestM
import HandS.Flow
import HandS.Style
import HandS.Conv
import HandS.TupSets
import PyProof.SetRoads
import HandS.SetBool
import KE.DatumOrd
import HandS.GenOver
import HandS.TupMul
import PyProof.ListMulAny
import HandS.Deep
import KE.KStateDown
import HandS.Head0
import HandS.Head1
import HandS.Head2
import PySem.Challenge.RW_laytogether_k17_whole_shortest_fixed_lay
set_option Elab.async false
set_option linter.all false
set_option maxRecDepth 100000
section
set_option Elab.async false
set_option linter.all false
set_option maxRecDepth 100000
namespace Zz
open PySem PySem.Spec PyProof.Rows L2

/-- what a program's defs share: what the names of the top hold, where the code objects' tables lie -/
structure GG where
  mg : Str → Option Value
  ts : List Addr

/-- plain data -/
inductive Dat where
  | non | bl (b : Bool) | int (i : Int) | str (x : Str)
  | tup (l : List Dat) | lst (l : List Dat) | dct (ks vs : List Dat) | set (l : List Dat)
  | fn (x : Str) | ty (n : String)

/-- what a slot holds: something shared, or an object of its own -/
inductive Sl where
  | sh (d : Dat) | ow (d : Dat)
abbrev En := List (Option Sl)

/-- what an expression gives -/
inductive R where
  | val (d : Dat) | fresh (d : Dat) | bor (i : Nat)

/-- a tuple of the written part -/
def KTup (K : PySem.W.Frag) (a : Addr) (xs : List V) : Prop :=
  ∃ (o : Obj) (its : Array Value) (n : Nat), K.lookup a = some o ∧ o.cls = .type "tuple" ∧ o.data = .seq its n ∧ its.size ≤ sizeLine ∧ Vals xs its.toList
def KLst (K : PySem.W.Frag) (a : Addr) (xs : List V) : Prop :=
  ∃ (o : Obj) (its : Array Value) (n : Nat), K.lookup a = some o ∧ o.cls = .type "list" ∧ o.dict = none ∧ o.data = .seq its n ∧ its.size ≤ sizeLine ∧ Vals xs its.toList
/-- read outside N -/
def RdN (N : Addr → Prop) (H : Hp) (a : Addr) (u : HO) : Prop := Rd H a u ∧ ¬ N a

/-- a dict as it lies, by its entries -/
def DRaw (a : Addr) (vk vx : List V) : Heap → Prop := fun h => ∃ (o : Obj) (es : Array DictEntry) (ep : Nat) (uk ux : List Value),
  h.get? a = some o ∧ o.ExactDict ∧ o.data = .dict es ep ∧ es.toList.map (·.key) = uk ∧ es.toList.map (·.val) = ux ∧ Vals vk uk ∧ Vals vx ux
def SRaw (a : Addr) (vs : List V) : Heap → Prop := fun _ => False
abbrev hoD (a : Addr) (vk vx : List V) : HO := .ext (DRaw a vk vx)
abbrev hoS (a : Addr) (vs : List V) : HO := .ext (SRaw a vs)

section
variable (K : PySem.W.Frag) (G : GG)
mutual
/-- v is the datum, by what H has outside N -/
def RelD (N : Addr → Prop) (H : Hp) : V → Dat → Prop
  | v, .non => v = .non
  | v, .bl b => v = .bl b
  | v, .int i => v = .int i
  | v, .str x => v = .str x
  | v, .tup ds => ∃ a vs, v = .ref a ∧ (RdN N H a (.tup vs) ∨ KTup K a vs) ∧ RelDs N H vs ds
  | v, .lst ds => ∃ a vs, v = .ref a ∧ (RdN N H a (.lst vs) ∨ KLst K a vs) ∧ RelDs N H vs ds
  | v, .dct ks xs => ∃ a vk vx, v = .ref a ∧ RdN N H a (hoD a vk vx) ∧ RelDs N H vk ks ∧ RelDs N H vx xs
  | v, .set l => ∃ a vs, v = .ref a ∧ RdN N H a (hoS a vs) ∧ RelDs N H vs l
  | v, .fn x => ∃ f, v = .ref f ∧ G.mg x = some (.ref f)
  | v, .ty n => v = .ty n
def RelDs (N : Addr → Prop) (H : Hp) : List V → List Dat → Prop
  | vs, [] => vs = []
  | vs, d :: ds => ∃ v r, vs = v :: r ∧ RelD N H v d ∧ RelDs N H r ds
end
end

section
variable {K : PySem.W.Frag} {G : GG} {N N' : Addr → Prop} {H H' : Hp}
theorem relDs_nil : RelDs K G N H [] [] := rfl
theorem relDs_cons {v : V} {vs : List V} {d : Dat} {ds : List Dat} : RelDs K G N H (v :: vs) (d :: ds) ↔ RelD K G N H v d ∧ RelDs K G N H vs ds := by
  constructor
  · rintro ⟨v', r, e, h1, h2⟩
    cases e
    exact ⟨h1, h2⟩
  · rintro ⟨h1, h2⟩
    exact ⟨v, vs, rfl, h1, h2⟩
theorem relDs_len : ∀ {ds : List Dat} {vs : List V}, RelDs K G N H vs ds → vs.length = ds.length
  | [], vs, h => by
    have e : vs = [] := h
    subst e
    rfl
  | d :: ds, vs, h => by
    obtain ⟨v, r, rfl, _, h2⟩ := h
    simp [relDs_len h2]
theorem relDs_get : ∀ {ds : List Dat} {vs : List V} {i : Nat} {d : Dat}, RelDs K G N H vs ds → ds[i]? = some d → ∃ v, vs[i]? = some v ∧ RelD K G N H v d
  | [], _, _, _, _, e => by simp at e
  | d :: ds, vs, 0, d', h, e => by
    obtain ⟨v, r, rfl, h1, _⟩ := h
    simp at e
    subst e
    exact ⟨v, rfl, h1⟩
  | d :: ds, vs, i + 1, d', h, e => by
    obtain ⟨v, r, rfl, _, h2⟩ := h
    obtain ⟨w, h3, h4⟩ := relDs_get (i := i) h2 (by simpa using e)
    exact ⟨w, by simpa using h3, h4⟩
theorem relDs_get' {ds : List Dat} {vs : List V} {i : Nat} {v : V} (h : RelDs K G N H vs ds) (e : vs[i]? = some v) : ∃ d, ds[i]? = some d ∧ RelD K G N H v d := by
  have hl := relDs_len h
  have hi : i < vs.length := (List.getElem?_eq_some_iff.mp e).1
  have e2 : ds[i]? = some (ds[i]'(by omega)) := List.getElem?_eq_getElem (by omega)
  obtain ⟨w, h1, h2⟩ := relDs_get h e2
  rw [e] at h1
  cases h1
  exact ⟨_, e2, h2⟩
theorem relDs_append : ∀ {ds ds' : List Dat} {vs vs' : List V}, RelDs K G N H vs ds → RelDs K G N H vs' ds' → RelDs K G N H (vs ++ vs') (ds ++ ds')
  | [], _, vs, _, h, h' => by
    have e : vs = [] := h
    subst e
    exact h'
  | d :: ds, _, vs, _, h, h' => by
    obtain ⟨v, r, rfl, h1, h2⟩ := h
    exact ⟨v, _, rfl, h1, relDs_append h2 h'⟩
theorem relDs_take : ∀ (n : Nat) {ds : List Dat} {vs : List V}, RelDs K G N H vs ds → RelDs K G N H (vs.take n) (ds.take n)
  | 0, _, _, _ => by simp [RelDs]
  | n + 1, [], vs, h => by
    have e : vs = [] := h
    subst e
    simp [RelDs]
  | n + 1, d :: ds, vs, h => by
    obtain ⟨v, r, rfl, h1, h2⟩ := h
    exact ⟨v, _, rfl, h1, relDs_take n h2⟩
theorem relDs_drop : ∀ (n : Nat) {ds : List Dat} {vs : List V}, RelDs K G N H vs ds → RelDs K G N H (vs.drop n) (ds.drop n)
  | 0, _, _, h => by simpa using h
  | n + 1, [], vs, h => by
    have e : vs = [] := h
    subst e
    simp [RelDs]
  | n + 1, d :: ds, vs, h => by
    obtain ⟨v, r, rfl, h1, h2⟩ := h
    simpa using relDs_drop n h2
theorem relDs_set : ∀ {ds : List Dat} {vs : List V} (i : Nat) {v : V} {d : Dat}, RelD K G N H v d → RelDs K G N H vs ds → RelDs K G N H (vs.set i v) (ds.set i d)
  | [], vs, i, v, d, _, h => by
    have e : vs = [] := h
    subst e
    simp [RelDs]
  | d' :: ds, vs, 0, v, d, h0, h => by
    obtain ⟨w, r, rfl, h1, h2⟩ := h
    exact ⟨v, _, rfl, h0, h2⟩
  | d' :: ds, vs, i + 1, v, d, h0, h => by
    obtain ⟨w, r, rfl, h1, h2⟩ := h
    exact ⟨w, _, rfl, h1, relDs_set i h0 h2⟩

/-- what H says outside N, H' says outside N' -/
def NT (o : HO) : Prop := ∀ ps, o ≠ .tbl ps
theorem NT.tup {xs : List V} : NT (.tup xs) := fun _ h => by cases h
theorem NT.lst {xs : List V} : NT (.lst xs) := fun _ h => by cases h
theorem NT.ext {p : Heap → Prop} : NT (.ext p) := fun _ h => by cases h
theorem NT.frz {o : Obj} {u : HO} : NT (.frz o u) := fun _ h => by cases h
abbrev Up (N : Addr → Prop) (H : Hp) (N' : Addr → Prop) (H' : Hp) : Prop := ∀ b u, NT u → Rd H b u → ¬ N b → Rd H' b u ∧ ¬ N' b
theorem RdN.up {a : Addr} {u : HO} (h : RdN N H a u) (hu : NT u) (k : Up N H N' H') : RdN N' H' a u := k a u hu h.1 h.2
mutual
theorem RelD.up (k : Up N H N' H') : ∀ {d : Dat} {v : V}, RelD K G N H v d → RelD K G N' H' v d
  | .non, _, h => h
  | .bl _, _, h => h
  | .int _, _, h => h
  | .str _, _, h => h
  | .tup ds, _, ⟨a, vs, e, h1, h2⟩ => ⟨a, vs, e, h1.imp (fun q => q.up .tup k) id, RelDs.up k h2⟩
  | .lst ds, _, ⟨a, vs, e, h1, h2⟩ => ⟨a, vs, e, h1.imp (fun q => q.up .lst k) id, RelDs.up k h2⟩
  | .dct ks xs, _, ⟨a, vk, vx, e, h1, h2, h3⟩ => ⟨a, vk, vx, e, h1.up .ext k, RelDs.up k h2, RelDs.up k h3⟩
  | .set l, _, ⟨a, vs, e, h1, h2⟩ => ⟨a, vs, e, h1.up .ext k, RelDs.up k h2⟩
  | .fn _, _, h => h
  | .ty _, _, h => h
theorem RelDs.up (k : Up N H N' H') : ∀ {ds : List Dat} {vs : List V}, RelDs K G N H vs ds → RelDs K G N' H' vs ds
  | [], _, h => h
  | _ :: _, _, ⟨v, r, e, h1, h2⟩ => ⟨v, r, e, RelD.up k h1, RelDs.up k h2⟩
end

/-- an object of one's own, at a -/
def OwnAt (K : PySem.W.Frag) (G : GG) (N : Addr → Prop) (H : Hp) (a : Addr) : Dat → Prop
  | .lst ds => ∃ vs, H a = some (.lst vs) ∧ RelDs K G N H vs ds
  | .dct ks xs => ∃ vk vx, H a = some (hoD a vk vx) ∧ RelDs K G N H vk ks ∧ RelDs K G N H vx xs
  | .set l => ∃ vs, H a = some (hoS a vs) ∧ RelDs K G N H vs l
  | _ => False
theorem OwnAt.up {a : Addr} {d : Dat} (h : OwnAt K G N H a d) (ha : ∀ o, NT o → H a = some o → H' a = some o) (k : Up N H N' H') : OwnAt K G N' H' a d := by
  cases d with
  | lst ds =>
    obtain ⟨vs, h1, h2⟩ := h
    exact ⟨vs, ha _ .lst h1, h2.up k⟩
  | dct ks xs =>
    obtain ⟨vk, vx, h1, h2, h3⟩ := h
    exact ⟨vk, vx, ha _ .ext h1, h2.up k, h3.up k⟩
  | set l =>
    obtain ⟨vs, h1, h2⟩ := h
    exact ⟨vs, ha _ .ext h1, h2.up k⟩
  | _ => exact h.elim
theorem OwnAt.some {a : Addr} {d : Dat} (h : OwnAt K G N H a d) : ∃ o, H a = some o := by
  cases d with
  | lst ds =>
    obtain ⟨vs, h1, h2⟩ := h
    exact ⟨_, h1⟩
  | dct ks xs =>
    obtain ⟨vk, vx, h1, h2, h3⟩ := h
    exact ⟨_, h1⟩
  | set l =>
    obtain ⟨vs, h1, h2⟩ := h
    exact ⟨_, h1⟩
  | _ => exact h.elim
/-- given away -/
theorem OwnAt.shared {a : Addr} {d : Dat} (h : OwnAt K G N H a d) (ha : ¬ N' a) (k : ∀ b, N' b → N b) : RelD K G N' H (.ref a) d := by
  have up : Up N H N' H := fun b u _ q n => ⟨q, fun z => n (k b z)⟩
  cases d with
  | lst ds =>
    obtain ⟨vs, h1, h2⟩ := h
    exact ⟨a, vs, rfl, .inl ⟨.inl h1, ha⟩, h2.up up⟩
  | dct ks xs =>
    obtain ⟨vk, vx, h1, h2, h3⟩ := h
    exact ⟨a, vk, vx, rfl, ⟨.inl h1, ha⟩, h2.up up, h3.up up⟩
  | set l =>
    obtain ⟨vs, h1, h2⟩ := h
    exact ⟨a, vs, rfl, ⟨.inl h1, ha⟩, h2.up up⟩
  | _ => exact h.elim
end

/-! ### a frame's slots -/
def Own (σ : L2.St) (env : En) (b : Addr) : Prop := ∃ (i : Nat) (d : Dat), env[i]? = some (some (Sl.ow d)) ∧ σ[i]? = some (some (V.ref b))
def NN (M : Addr → Prop) (σ : L2.St) (env : En) (b : Addr) : Prop := M b ∨ Own σ env b
structure REnv (K : PySem.W.Frag) (G : GG) (M : Addr → Prop) (σ : L2.St) (H : Hp) (env : En) : Prop where
  len : σ.length = env.length
  sh : ∀ (i : Nat) (d : Dat), env[i]? = some (some (Sl.sh d)) → ∃ v, σ[i]? = some (some v) ∧ RelD K G (NN M σ env) H v d
  ow : ∀ (i : Nat) (d : Dat), env[i]? = some (some (Sl.ow d)) → ∃ a, σ[i]? = some (some (V.ref a)) ∧ ¬ M a ∧ OwnAt K G (NN M σ env) H a d
  inj : ∀ (i j : Nat) (d d' : Dat) (a : Addr), env[i]? = some (some (Sl.ow d)) → env[j]? = some (some (Sl.ow d')) → σ[i]? = some (some (V.ref a)) → σ[j]? = some (some (V.ref a)) → i = j
  live : ∀ b, M b → H b ≠ none
  tab : ∀ P ∈ G.ts, GxR.TabG H P
section
variable {K : PySem.W.Frag} {G : GG} {M : Addr → Prop} {σ : L2.St} {H H' : Hp} {env env' : En}
theorem REnv.liveN (r : REnv K G M σ H env) {b : Addr} (h : NN M σ env b) : H b ≠ none := by
  rcases h with h | ⟨i, d, h1, h2⟩
  · exact r.live b h
  · obtain ⟨a, h3, _, h4⟩ := r.ow i d h1
    rw [h2] at h3
    cases h3
    obtain ⟨o, e⟩ := h4.some
    rw [e]
    exact fun z => by cases z
theorem rd_some {H : Hp} {a : Addr} {u : HO} (h : Rd H a u) : H a ≠ none := by
  rcases h with h | ⟨o, h⟩ <;> (rw [h]; exact fun z => by cases z)
theorem rd_same {H H' : Hp} {a : Addr} {u : HO} (hu : NT u) (h : Rd H a u) (k : ∀ o, NT o → H a = some o → H' a = some o) : Rd H' a u := by
  rcases h with h | ⟨o, h⟩
  · exact .inl (k _ hu h)
  · exact .inr ⟨o, k _ .frz h⟩
/-- all that H says, H' says -/
structure Sam (H H' : Hp) : Prop where
  k : ∀ b o, NT o → H b = some o → H' b = some o
  live : ∀ {b}, H b ≠ none → H' b ≠ none
  t : ∀ b, GxR.TabG H b → GxR.TabG H' b
theorem Sam.refl (H : Hp) : Sam H H := ⟨fun _ _ _ e => e, fun h => h, fun _ h => h⟩
theorem Sam.trans {H H1 H2 : Hp} (a : Sam H H1) (b : Sam H1 H2) : Sam H H2 := ⟨fun c o n e => b.k c o n (a.k c o n e), fun h => b.live (a.live h), fun c h => b.t c (a.t c h)⟩
theorem Sam.of {H H' : Hp} (k : ∀ b o, H b = some o → H' b = some o) : Sam H H' where
  k := fun b o _ e => k b o e
  live := fun {b} h z => by
    cases q : H b with
    | none => exact h q
    | some o => rw [k b o q] at z; cases z
  t := fun b ⟨ps, h1, h2⟩ => ⟨ps, k b _ h1, h2⟩
theorem Sam.new {p : Addr} {o : HO} (hp : H p = none) : Sam H (upd H p o) := .of fun b u e => by rw [upd_ne (ne_of_none e hp)]; exact e
theorem Sam.up {N : Addr → Prop} (k : Sam H H') : Up N H N H' := fun b u hu q n => ⟨rd_same hu q (k.k b), n⟩
/-- everything stays; a is kept away -/
theorem REnv.more (r : REnv K G M σ H env) (k : Sam H H') {a : Addr} (ha : H a = none) (ha' : H' a ≠ none) : REnv K G (fun b => M b ∨ b = a) σ H' env := by
  have up : Up (NN M σ env) H (NN (fun b => M b ∨ b = a) σ env) H' := fun b u hu q n => ⟨rd_same hu q (k.k b), fun z => by
    rcases z with (z | z) | z
    · exact n (.inl z)
    · subst z; exact rd_some q ha
    · exact n (.inr z)⟩
  refine ⟨r.len, fun i d e => ?_, fun i d e => ?_, r.inj, fun b hb => ?_, fun P hP => k.t P (r.tab P hP)⟩
  · obtain ⟨v, h1, h2⟩ := r.sh i d e
    exact ⟨v, h1, h2.up up⟩
  · obtain ⟨b, h1, h2, h3⟩ := r.ow i d e
    refine ⟨b, h1, fun z => ?_, h3.up (fun o => k.k b o) up⟩
    rcases z with z | z
    · exact h2 z
    · subst z
      obtain ⟨o, e⟩ := h3.some
      rw [ha] at e
      cases e
  · rcases hb with hb | hb
    · exact k.live (r.live b hb)
    · rw [hb]; exact ha'
theorem REnv.sam (r : REnv K G M σ H env) (k : Sam H H') : REnv K G M σ H' env := by
  have up : Up (NN M σ env) H (NN M σ env) H' := k.up
  refine ⟨r.len, fun i d e => ?_, fun i d e => ?_, r.inj, fun b hb => k.live (r.live b hb), fun P hP => k.t P (r.tab P hP)⟩
  · obtain ⟨v, h1, h2⟩ := r.sh i d e
    exact ⟨v, h1, h2.up up⟩
  · obtain ⟨b, h1, h2, h3⟩ := r.ow i d e
    exact ⟨b, h1, h2, h3.up (fun o => k.k b o) up⟩
/-- fewer are kept away -/
theorem REnv.less (r : REnv K G M σ H env) {M' : Addr → Prop} (k : ∀ b, M' b → M b) : REnv K G M' σ H env := by
  have up : Up (NN M σ env) H (NN M' σ env) H := fun b u _ q n => ⟨q, fun z => n (z.imp (k b) id)⟩
  refine ⟨r.len, fun i d e => ?_, fun i d e => ?_, r.inj, fun b hb => r.live b (k b hb), r.tab⟩
  · obtain ⟨v, h1, h2⟩ := r.sh i d e
    exact ⟨v, h1, h2.up up⟩
  · obtain ⟨b, h1, h2, h3⟩ := r.ow i d e
    exact ⟨b, h1, fun z => h2 (k b z), h3.up (fun _ _ e => e) up⟩

/-- what an expression's value is -/
def ResOk (K : PySem.W.Frag) (G : GG) (M : Addr → Prop) (σ : L2.St) (H : Hp) (env : En) (v : V) : R → Prop
  | .val d => RelD K G (NN M σ env) H v d
  | .fresh d => ∃ a, v = .ref a ∧ ¬ NN M σ env a ∧ REnv K G (fun b => M b ∨ b = a) σ H env ∧ OwnAt K G (NN (fun b => M b ∨ b = a) σ env) H a d
  | .bor i => σ[i]? = some (some v) ∧ ∃ s, env[i]? = some (some s)
/-- what stood, stands, but for what one owns -/
structure Fr (W : Addr → Prop) (H H' : Hp) : Prop where
  k : ∀ b o, NT o → H b = some o → ¬ W b → H' b = some o
  l : ∀ b, H b ≠ none → H' b ≠ none
  t : ∀ b, GxR.TabG H b → GxR.TabG H' b
theorem Sam.fr {W : Addr → Prop} {H H' : Hp} (k : Sam H H') : Fr W H H' := ⟨fun b o n e _ => k.k b o n e, fun _ h => k.live h, k.t⟩
theorem Fr.refl {W : Addr → Prop} {H : Hp} : Fr W H H := (Sam.refl H).fr
/-- something new is new -/
def New (H : Hp) (v : V) : R → Prop
  | .fresh _ => ∃ a, v = .ref a ∧ H a = none
  | _ => True
theorem New.nrm {H : Hp} {v : V} {r : R} : New H v (match r with | .fresh d => .val d | r => r) := by cases r <;> trivial
/-- slots of one's own may be given away or changed; nothing else -/
structure Shp (env env' : En) : Prop where
  len : env'.length = env.length
  ow : ∀ (i : Nat) (d : Dat), env'[i]? = some (some (Sl.ow d)) → ∃ d', env[i]? = some (some (Sl.ow d'))
  has : ∀ (i : Nat) (s : Sl), env[i]? = some (some s) → ∃ s', env'[i]? = some (some s')
theorem Shp.refl (env : En) : Shp env env := ⟨rfl, fun i d e => ⟨d, e⟩, fun i s e => ⟨s, e⟩⟩
theorem Shp.trans {a b c : En} (x : Shp a b) (y : Shp b c) : Shp a c := ⟨y.len.trans x.len, fun i d e => let ⟨d', e'⟩ := y.ow i d e; x.ow i d' e', fun i s e => let ⟨s', e'⟩ := x.has i s e; y.has i s' e'⟩
theorem Shp.own {b : Addr} (x : Shp env env') (h : Own σ env' b) : Own σ env b := let ⟨i, d, h1, h2⟩ := h; let ⟨d', e⟩ := x.ow i d h1; ⟨i, d', e, h2⟩
theorem Shp.nn {b : Addr} (x : Shp env env') (h : NN M σ env' b) : NN M σ env b := h.imp id x.own
structure Post (K : PySem.W.Frag) (G : GG) (M : Addr → Prop) (σ : L2.St) (H : Hp) (env : En) (H' : Hp) (env' : En) : Prop where
  fr : Fr (Own σ env) H H'
  shp : Shp env env'
  env : REnv K G M σ H' env'
theorem Post.refl (r : REnv K G M σ H env) : Post K G M σ H env H env := ⟨Fr.refl, Shp.refl _, r⟩
theorem Post.trans {H1 H2 : Hp} {e1 e2 : En} (x : Post K G M σ H env H1 e1) (y : Post K G M σ H1 e1 H2 e2) : Post K G M σ H env H2 e2 :=
  ⟨⟨fun b o nt e n => y.fr.k b o nt (x.fr.k b o nt e n) fun z => n (x.shp.own z), fun b h => y.fr.l b (x.fr.l b h), fun b h => y.fr.t b (x.fr.t b h)⟩, x.shp.trans y.shp, y.env⟩
theorem Post.up (x : Post K G M σ H env H' env') : Up (NN M σ env) H (NN M σ env') H' := fun b u hu q n =>
  ⟨rd_same hu q fun o nt e => x.fr.k b o nt e fun z => n (.inr z), fun z => n (x.shp.nn z)⟩
theorem Post.rel (x : Post K G M σ H env H' env') {v : V} {d : Dat} (h : RelD K G (NN M σ env) H v d) : RelD K G (NN M σ env') H' v d := h.up x.up
theorem Post.sam (r : REnv K G M σ H env) (k : Sam H H') : Post K G M σ H env H' env := ⟨k.fr, Shp.refl _, r.sam k⟩
theorem New.back {H1 : Hp} {e1 : En} {v : V} {r : R} (x : Post K G M σ H env H1 e1) (n : New H1 v r) : New H v r := by
  cases r with
  | fresh d =>
    obtain ⟨a, e, h⟩ := n
    refine ⟨a, e, ?_⟩
    cases q : H a with
    | none => rfl
    | some o => exact absurd h (x.fr.l a (by rw [q]; exact fun z => by cases z))
  | _ => trivial
end
end Zz
end

section
set_option Elab.async false
set_option linter.all false
set_option maxRecDepth 100000
namespace Zz
open PySem PySem.Spec PyProof.Rows L2

abbrev SE := En → Option (R × En)
abbrev SA := En → Option (List R × En)
abbrev ST := En → Option (Bool × En)

theorem PE.imp {X : Cx} {e : Expr} {t t' : TE} (h : PE X e t) (k : ∀ σ H Q, t' σ H Q → t σ H Q) : PE X e t' := ⟨fun pins s σ H Q I q => h.run pins s σ H Q I (k σ H Q q)⟩
theorem PT.imp {X : Cx} {e : Expr} {t t' : TT} (h : PT X e t) (k : ∀ σ H Q, t' σ H Q → t σ H Q) : PT X e t' := ⟨fun pins s σ H Q I q => h.run pins s σ H Q I (k σ H Q q)⟩
theorem PW.imp {X : Cx} {e : Expr} {t t' : TT} (h : PW X e t) (k : ∀ σ H Q, t' σ H Q → t σ H Q) : PW X e t' := ⟨fun w pins s σ H Q I q => h.run w pins s σ H Q I (k σ H Q q)⟩
theorem PA.imp {X : Cx} {e : List Expr} {t t' : TA} (h : PA X e t) (k : ∀ σ H Q, t' σ H Q → t σ H Q) : PA X e t' := ⟨fun pos pins s σ H Q I q => h.run pos pins s σ H Q I (k σ H Q q)⟩
theorem PS.imp {X : Cx} {e : Stmt} {t t' : TS} (h : PS X e t) (k : ∀ D σ H, t' D σ H → t D σ H) : PS X e t' := ⟨fun pins s σ H D I q => h.run pins s σ H D I (k D σ H q)⟩
theorem PSs.imp {X : Cx} {e : List Stmt} {t t' : TS} (h : PSs X e t) (k : ∀ D σ H, t' D σ H → t D σ H) : PSs X e t' := ⟨fun pins s σ H D I q => h.run pins s σ H D I (k D σ H q)⟩

section
variable (K : PySem.W.Frag) (G : GG)
/-- the reading of a meaning -/
def tEv (f : SE) : TE := fun σ H Q => ∃ (M : Addr → Prop) (env : En) (r : R) (env' : En), REnv K G M σ H env ∧ f env = some (r, env') ∧ ∀ v H', Post K G M σ H env H' env' → ResOk K G M σ H' env' v r → New H v r → Q v H'
def tTv (f : ST) : TT := fun σ H Q => ∃ (M : Addr → Prop) (env : En) (b : Bool) (env' : En), REnv K G M σ H env ∧ f env = some (b, env') ∧ ∀ H', Post K G M σ H env H' env' → Q b H'
def ResOks (M : Addr → Prop) (σ : L2.St) (H : Hp) (env : En) : List V → List R → Prop
  | vs, [] => vs = []
  | vs, r :: rs => ∃ v ws, vs = v :: ws ∧ ResOk K G M σ H env v r ∧ ResOks M σ H env ws rs
def tAv (f : SA) : TA := fun σ H Q => ∃ (M : Addr → Prop) (env : En) (rs : List R) (env' : En), REnv K G M σ H env ∧ f env = some (rs, env') ∧ ∀ vs H', Post K G M σ H env H' env' → ResOks K G M σ H' env' vs rs → Q vs H'
end

/-- read, not taken -/
def rdv (env : En) : R → Option Dat
  | .val d => some d
  | .fresh d => some d
  | .bor i => match env[i]? with
    | some (some (.sh d)) => some d
    | some (some (.ow d)) => some d
    | _ => none
/-- a waiting value -/
def nrm : R → R
  | .fresh d => .val d
  | r => r
/-- taken: what is one's own is given away -/
def esc (env : En) : R → Option (Dat × En)
  | .val d => some (d, env)
  | .fresh d => some (d, env)
  | .bor i => match env[i]? with
    | some (some (.sh d)) => some (d, env)
    | some (some (.ow d)) => some (d, env.set i (some (.sh d)))
    | _ => none
def escs (env : En) : List R → Option (List Dat × En)
  | [] => some ([], env)
  | r :: rs => match esc env r with
    | some (d, e1) => match escs e1 rs with
      | some (ds, e2) => some (d :: ds, e2)
      | none => none
    | none => none
def rdvs (env : En) : List R → Option (List Dat)
  | [] => some []
  | r :: rs => match rdv env r with
    | some d => match rdvs env rs with
      | some ds => some (d :: ds)
      | none => none
    | none => none

section
variable {K : PySem.W.Frag} {G : GG} {M N : Addr → Prop} {σ : L2.St} {H H' : Hp} {env env' : En}
/-- the datum, or an object of one's own that is the datum -/
def RelT (K : PySem.W.Frag) (G : GG) (N : Addr → Prop) (H : Hp) (v : V) (d : Dat) : Prop := RelD K G N H v d ∨ ∃ a, v = .ref a ∧ OwnAt K G N H a d
theorem less_up {N N' : Addr → Prop} (k : ∀ b, N' b → N b) : Up N H N' H := fun b u _ q n => ⟨q, fun z => n (k b z)⟩
theorem ResOk.nrm {v : V} {r : R} (h : ResOk K G M σ H env v r) : ResOk K G M σ H env v (nrm r) := by
  cases r with
  | val d => exact h
  | bor i => exact h
  | fresh d =>
    obtain ⟨a, rfl, n, _, o⟩ := h
    exact o.shared n fun b z => z.imp .inl id
theorem ResOk.keep {v : V} {r : R} {H1 : Hp} {e1 : En} (h : ResOk K G M σ H env v (Zz.nrm r)) (p : Post K G M σ H env H1 e1) : ResOk K G M σ H1 e1 v (Zz.nrm r) := by
  cases r with
  | val d => exact p.rel h
  | fresh d => exact p.rel h
  | bor i =>
    obtain ⟨h1, s, h2⟩ := h
    obtain ⟨s', h3⟩ := p.shp.has i s h2
    exact ⟨h1, s', h3⟩
theorem rdv_ok {v : V} {r : R} {d : Dat} (e : REnv K G M σ H env) (h : ResOk K G M σ H env v r) (q : rdv env r = some d) : RelT K G (NN M σ env) H v d := by
  cases r with
  | val d' =>
    cases q
    exact .inl h
  | fresh d' =>
    cases q
    obtain ⟨a, rfl, n, _, o⟩ := h
    exact .inr ⟨a, rfl, o.up (fun _ _ e => e) (less_up fun b z => z.imp .inl id)⟩
  | bor i =>
    obtain ⟨h1, s, h2⟩ := h
    unfold rdv at q
    cases s with
    | sh d' =>
      simp only [h2] at q
      cases q
      obtain ⟨w, h3, h4⟩ := e.sh i d h2
      rw [h1] at h3
      cases h3
      exact .inl h4
    | ow d' =>
      simp only [h2] at q
      cases q
      obtain ⟨a, h3, _, h4⟩ := e.ow i d h2
      rw [h1] at h3
      cases h3
      exact .inr ⟨a, rfl, h4⟩
/-- a slot is given away -/
theorem REnv.give {i : Nat} {d : Dat} (e : REnv K G M σ H env) (h : env[i]? = some (some (Sl.ow d))) : Post K G M σ H env H (env.set i (some (.sh d))) ∧ ∃ v, σ[i]? = some (some v) ∧ RelD K G (NN M σ (env.set i (some (.sh d)))) H v d := by
  have hi : i < env.length := (List.getElem?_eq_some_iff.mp h).1
  obtain ⟨a, h1, h2, h3⟩ := e.ow i d h
  have self : (env.set i (some (Sl.sh d)))[i]? = some (some (Sl.sh d)) := List.getElem?_set_self hi
  have other : ∀ (j : Nat), j ≠ i → (env.set i (some (Sl.sh d)))[j]? = env[j]? := fun j hj => List.getElem?_set_ne (Ne.symm hj)
  have owd : ∀ (j : Nat) (d' : Dat), (env.set i (some (Sl.sh d)))[j]? = some (some (Sl.ow d')) → j ≠ i ∧ env[j]? = some (some (Sl.ow d')) := fun j d' q => by
    by_cases hj : j = i
    · rw [hj, self] at q
      cases q
    · rw [other j hj] at q
      exact ⟨hj, q⟩
  have sub : ∀ b, NN M σ (env.set i (some (Sl.sh d))) b → NN M σ env b := fun b z => z.imp id fun ⟨j, d', q1, q2⟩ => ⟨j, d', (owd j d' q1).2, q2⟩
  have up : Up (NN M σ env) H (NN M σ (env.set i (some (Sl.sh d)))) H := less_up sub
  have na : ¬ NN M σ (env.set i (some (Sl.sh d))) a := fun z => by
    rcases z with z | ⟨j, d', q1, q2⟩
    · exact h2 z
    · obtain ⟨hj, q3⟩ := owd j d' q1
      exact hj (e.inj j i d' d a q3 h q2 h1)
  have rel : RelD K G (NN M σ (env.set i (some (Sl.sh d)))) H (.ref a) d := h3.shared na sub
  refine ⟨⟨Fr.refl, ⟨by simp, fun j d' q => ⟨d', (owd j d' q).2⟩, fun j s q => ?_⟩, ⟨by simpa using e.len, fun j d' q => ?_, fun j d' q => ?_, fun j k d1 d2 b q1 q2 => e.inj j k d1 d2 b (owd j d1 q1).2 (owd k d2 q2).2, e.live, e.tab⟩⟩, _, h1, rel⟩
  · by_cases hj : j = i
    · rw [hj]
      exact ⟨_, self⟩
    · exact ⟨s, by rw [other j hj]; exact q⟩
  · by_cases hj : j = i
    · rw [hj, self] at q
      cases q
      rw [hj]
      exact ⟨_, h1, rel⟩
    · rw [other j hj] at q
      obtain ⟨w, q1, q2⟩ := e.sh j d' q
      exact ⟨w, q1, q2.up up⟩
  · obtain ⟨hj, q'⟩ := owd j d' q
    obtain ⟨b, q1, q2, q3⟩ := e.ow j d' q'
    exact ⟨b, q1, q2, q3.up (fun _ _ e => e) up⟩
theorem esc_ok {v : V} {r : R} {d : Dat} (e : REnv K G M σ H env) (h : ResOk K G M σ H env v r) (q : esc env r = some (d, env')) : Post K G M σ H env H env' ∧ RelD K G (NN M σ env') H v d := by
  cases r with
  | val d' =>
    cases q
    exact ⟨.refl e, h⟩
  | fresh d' =>
    cases q
    exact ⟨.refl e, h.nrm⟩
  | bor i =>
    obtain ⟨h1, s, h2⟩ := h
    unfold esc at q
    cases s with
    | sh d' =>
      simp only [h2] at q
      cases q
      obtain ⟨w, h3, h4⟩ := e.sh i d h2
      rw [h1] at h3
      cases h3
      exact ⟨.refl e, h4⟩
    | ow d' =>
      simp only [h2] at q
      cases q
      obtain ⟨p, w, h3, h4⟩ := e.give h2
      rw [h1] at h3
      cases h3
      exact ⟨p, h4⟩

/-- what an operation on values gives, over what stood -/
def Res0 (K : PySem.W.Frag) (G : GG) (N : Addr → Prop) (H : Hp) (v : V) (H' : Hp) : R → Prop
  | .val d => RelD K G N H' v d
  | .fresh d => ∃ a, v = .ref a ∧ H a = none ∧ OwnAt K G (fun b => N b ∨ b = a) H' a d
  | .bor _ => False
theorem res0_ok {v : V} {r : R} (e : REnv K G M σ H env) (k : Sam H H') (h : Res0 K G (NN M σ env) H v H' r) : Post K G M σ H env H' env ∧ ResOk K G M σ H' env v r ∧ New H v r := by
  refine ⟨.sam e k, ?_⟩
  cases r with
  | val d => exact ⟨h, trivial⟩
  | bor i => exact h.elim
  | fresh d =>
    obtain ⟨a, rfl, n, o⟩ := h
    have h' : H' a ≠ none := by
      obtain ⟨u, q⟩ := o.some
      rw [q]
      exact fun z => by cases z
    refine ⟨⟨a, rfl, fun z => e.liveN z n, e.more k n h', o.up (fun _ _ e => e) (less_up fun b z => ?_)⟩, a, rfl, n⟩
    rcases z with (z | z) | z
    · exact .inl (.inl z)
    · exact .inr z
    · exact .inl (.inr z)
end

/-! ### combinators -/
def zC (d : Dat) : SE := fun env => some (.val d, env)
def zVar (i : Nat) : SE := fun env => match env[i]? with
  | some (some (.sh d)) => some (.val d, env)
  | some (some (.ow _)) => some (.bor i, env)
  | _ => none
def zBin (g : Dat → Dat → Option R) (fa fb : SE) : SE := fun env => match fa env with
  | some (r1, e1) => match fb e1 with
    | some (r2, e2) => match rdv e2 (nrm r1), rdv e2 (nrm r2) with
      | some d1, some d2 => match g d1 d2 with
        | some r => some (r, e2)
        | none => none
      | _, _ => none
    | none => none
  | none => none
def zUn (g : Dat → Option R) (fa : SE) : SE := fun env => match fa env with
  | some (r1, e1) => match rdv e1 (nrm r1) with
    | some d1 => match g d1 with
      | some r => some (r, e1)
      | none => none
    | none => none
  | none => none

section
variable {X : Cx} {G : GG}
/-- an operation on two values, on one, on a list -/
def OpZ (X : Cx) (G : GG) (f : Value → Value → Sem Value) (g : Dat → Dat → Option R) : Prop := ∃ rr, OpR X f rr ∧ ∀ N x y d1 d2 r H Q, (∀ b, N b → H b ≠ none) → RelT X.K G N H x d1 → RelT X.K G N H y d2 → g d1 d2 = some r →
  (∀ v H', Sam H H' → Res0 X.K G N H v H' r → Q v H') → rr x y H Q
theorem tEv_run {f : SE} {M : Addr → Prop} {σ : L2.St} {H : Hp} {env env' : En} {r : R} {Q : VK} (e : REnv X.K G M σ H env) (h : f env = some (r, env'))
    (k : ∀ v H', Post X.K G M σ H env H' env' → ResOk X.K G M σ H' env' v r → New H v r → Q v H') : tEv X.K G f σ H Q := ⟨M, env, r, env', e, h, k⟩
/-- two in a row -/
theorem two_ok {fa fb : SE} {R' : V → V → Hp → Prop} {M : Addr → Prop} {σ : L2.St} {H : Hp} {env e1 e2 : En} {r1 r2 : R} (e : REnv X.K G M σ H env) (ha : fa env = some (r1, e1)) (hb : fb e1 = some (r2, e2))
    (k : ∀ x y H', Post X.K G M σ H env H' e2 → ResOk X.K G M σ H' e2 x (nrm r1) → ResOk X.K G M σ H' e2 y r2 → R' x y H') :
    tEv X.K G fa σ H fun x H1 => tEv X.K G fb σ H1 fun y H2 => R' x y H2 :=
  tEv_run e ha fun x H1 p1 q1 _ => tEv_run p1.env hb fun y H2 p2 q2 _ => k x y H2 (p1.trans p2) (q1.nrm.keep p2) q2
theorem pz_bin {a b : Expr} {op : Operator} {pos : Pos} {fa fb : SE} {g : Dat → Dat → Option R} (ho : OpZ X G (binaryOp op) g) (ha : PE X a (tEv X.K G fa)) (hb : PE X b (tEv X.K G fb)) :
    PE X (.BinOp a op b pos) (tEv X.K G (zBin g fa fb)) := by
  obtain ⟨rr, h1, h2⟩ := ho
  refine PE.imp (pe_op h1 ha hb) ?_
  rintro σ H Q ⟨M, env, r, env', e, q, k⟩
  unfold zBin at q
  split at q <;> try cases q
  rename_i r1 e1 q1
  split at q <;> try cases q
  rename_i r2 e2 q2
  split at q <;> try cases q
  rename_i d1 d2 q3 q4
  split at q <;> try cases q
  rename_i r0 q5
  refine two_ok e q1 q2 fun x y H' p ex ey => ?_
  refine h2 (NN M σ env') x y d1 d2 r H' Q (fun b => p.env.liveN) (rdv_ok p.env ex q3) (rdv_ok p.env ey.nrm q4) q5 fun v H2 s z => ?_
  obtain ⟨p2, z2, n2⟩ := res0_ok p.env s z
  exact k v H2 (p.trans p2) z2 (n2.back p)
theorem pz_cmp {a b : Expr} {op : CmpOp} {pos : Pos} {fa fb : SE} {g : Dat → Dat → Option R} (ho : OpZ X G (compareOp op) g) (hm : behindInMarks op b = false) (ha : PE X a (tEv X.K G fa)) (hb : PE X b (tEv X.K G fb)) :
    PE X (.Compare a [op] [b] pos) (tEv X.K G (zBin g fa fb)) := by
  obtain ⟨rr, h1, h2⟩ := ho
  refine PE.imp (pe_cmpR h1 ha hb hm) ?_
  rintro σ H Q ⟨M, env, r, env', e, q, k⟩
  unfold zBin at q
  split at q <;> try cases q
  rename_i r1 e1 q1
  split at q <;> try cases q
  rename_i r2 e2 q2
  split at q <;> try cases q
  rename_i d1 d2 q3 q4
  split at q <;> try cases q
  rename_i r0 q5
  refine two_ok e q1 q2 fun x y H' p ex ey => ?_
  refine h2 (NN M σ env') x y d1 d2 r H' Q (fun b => p.env.liveN) (rdv_ok p.env ex q3) (rdv_ok p.env ey.nrm q4) q5 fun v H2 s z => ?_
  obtain ⟨p2, z2, n2⟩ := res0_ok p.env s z
  exact k v H2 (p.trans p2) z2 (n2.back p)
theorem pz_const_int {i j pos} : PE X (.Constant (.int i) j pos) (tEv X.K G (zC (.int i))) := by
  refine PE.imp pe_int ?_
  rintro σ H Q ⟨M, env, r, env', e, q, k⟩
  cases q
  exact k _ H (.refl e) rfl trivial
theorem pz_const_bl {b j pos} : PE X (.Constant (.bool b) j pos) (tEv X.K G (zC (.bl b))) := by
  refine PE.imp pe_bl ?_
  rintro σ H Q ⟨M, env, r, env', e, q, k⟩
  cases q
  exact k _ H (.refl e) rfl trivial
theorem pz_const_non {j pos} : PE X (.Constant .none j pos) (tEv X.K G (zC .non)) := by
  refine PE.imp pe_non ?_
  rintro σ H Q ⟨M, env, r, env', e, q, k⟩
  cases q
  exact k _ H (.refl e) rfl trivial
theorem pz_const_str {x j pos} : PE X (.Constant (.str x) j pos) (tEv X.K G (zC (.str x))) := by
  refine PE.imp pe_str ?_
  rintro σ H Q ⟨M, env, r, env', e, q, k⟩
  cases q
  exact k _ H (.refl e) rfl trivial
theorem pz_var {i : Nat} {x : Str} {pos : Pos} (hN : X.N[i]? = some x) (hv : Vis X.env.scope x) (hd : (x == ("__debug__" : Str)) = false) (hcd : (x == ("__classdict__" : Str)) = false) : PE X (.Name x pos) (tEv X.K G (zVar i)) := by
  refine PE.imp (pe_var hN hv hd hcd) ?_
  rintro σ H Q ⟨M, env, r, env', e, q, k⟩
  unfold zVar at q
  split at q
  · rename_i d h
    cases q
    obtain ⟨v, h1, h2⟩ := e.sh i d h
    exact ⟨v, h1, k v H (.refl e) h2 trivial⟩
  · rename_i d h
    cases q
    obtain ⟨a, h1, h2, h3⟩ := e.ow i d h
    exact ⟨_, h1, k _ H (.refl e) ⟨h1, _, h⟩ trivial⟩
  · cases q
end
end Zz
end

section
set_option Elab.async false
set_option linter.all false
set_option maxRecDepth 100000
namespace Zz
open PySem PySem.Spec PyProof.Rows L2

/-! ### tests, and, or, not -/
def truD : Dat → Option Bool
  | .non => some false
  | .bl b => some b
  | .int i => some (i != 0)
  | .str y => if y.length ≤ sizeLine then some ((y.length : Int) != 0) else none
  | .tup l => some (!l.isEmpty)
  | .lst l => some (!l.isEmpty)
  | _ => none
/-- an expression as a test, by truth -/
def zTru (fa : SE) : ST := fun env => match fa env with
  | some (r, e1) => match rdv e1 r with
    | some d => match truD d with
      | some b => some (b, e1)
      | none => none
    | none => none
  | none => none
def zTNot (t : ST) : ST := fun env => match t env with
  | some (b, e1) => some (!b, e1)
  | none => none
def zTAnd (t u : ST) : ST := fun env => match t env with
  | some (true, e1) => u e1
  | some (false, e1) => some (false, e1)
  | none => none
def zTOr (t u : ST) : ST := fun env => match t env with
  | some (true, e1) => some (true, e1)
  | some (false, e1) => u e1
  | none => none
def zTIf (c t u : ST) : ST := fun env => match c env with
  | some (true, e1) => t e1
  | some (false, e1) => u e1
  | none => none
/-- a and b, a or b, not a, as values: bools but for the last -/
def zAndV (fa fb : SE) : SE := fun env => match fa env with
  | some (.val (.bl true), e1) => fb e1
  | some (.val (.bl false), e1) => some (.val (.bl false), e1)
  | _ => none
def zOrV (fa fb : SE) : SE := fun env => match fa env with
  | some (.val (.bl true), e1) => some (.val (.bl true), e1)
  | some (.val (.bl false), e1) => fb e1
  | _ => none
def zIf (c : ST) (fa fb : SE) : SE := fun env => match c env with
  | some (true, e1) => fa e1
  | some (false, e1) => fb e1
  | none => none
/-- not e, of any e, by truth -/
def zOfT (t : ST) : SE := fun env => match t env with
  | some (b, e1) => some (.val (.bl b), e1)
  | none => none

section
variable {X : Cx} {G : GG}
theorem tTv_run {f : ST} {M : Addr → Prop} {σ : L2.St} {H : Hp} {env env' : En} {b : Bool} {Q : Bool → Hp → Prop} (e : REnv X.K G M σ H env) (h : f env = some (b, env'))
    (k : ∀ H', Post X.K G M σ H env H' env' → Q b H') : tTv X.K G f σ H Q := ⟨M, env, b, env', e, h, k⟩
theorem relT_tru {N : Addr → Prop} {H : Hp} {v : V} {d : Dat} {b : Bool} (h : RelT X.K G N H v d) (q : truD d = some b) : TruV X.K v H b := by
  cases d with
  | non =>
    rcases h with h | ⟨a, _, h⟩
    · cases h
      cases q
      rfl
    · exact h.elim
  | bl c =>
    rcases h with h | ⟨a, _, h⟩
    · cases h
      cases q
      rfl
    · exact h.elim
  | int i =>
    rcases h with h | ⟨a, _, h⟩
    · cases h
      cases q
      rfl
    · exact h.elim
  | str y =>
    rcases h with h | ⟨a, _, h⟩
    · cases h
      simp only [truD] at q
      by_cases hz : y.length ≤ sizeLine
      · rw [if_pos hz] at q
        cases q
        exact ⟨hz, rfl⟩
      · rw [if_neg hz] at q
        cases q
    · exact h.elim
  | tup l =>
    rcases h with h | ⟨a, _, h⟩
    · obtain ⟨a, vs, rfl, h1, h2⟩ := h
      cases q
      have hl := relDs_len h2
      refine .inr (.inl ⟨vs, h1.imp (fun z => z.1) id, ?_⟩)
      cases vs <;> cases l <;> first | rfl | (simp at hl)
    · exact h.elim
  | lst l =>
    have key : ∀ a vs, SqL X.K H a vs → RelDs X.K G N H vs l → TruV X.K (.ref a) H b := fun a vs h1 h2 => by
      cases q
      have hl := relDs_len h2
      refine .inl ⟨vs, h1, ?_⟩
      cases vs <;> cases l <;> first | rfl | (simp at hl)
    rcases h with h | ⟨a, rfl, h⟩
    · obtain ⟨a, vs, rfl, h1, h2⟩ := h
      exact key a vs (h1.imp (fun z => z.1) id) h2
    · obtain ⟨vs, h1, h2⟩ := h
      exact key a vs (.inl (.inl h1)) h2
  | _ => cases q
theorem pz_tru {e : Expr} {fa : SE} (ha : PE X e (tEv X.K G fa)) (he : ∀ whole, isTrue e X.env whole = (do let v ← whole; standAt e.pos; holding [v] (truthy v))) : PT X e (tTv X.K G (zTru fa)) := by
  refine PT.imp (pt_truth ha he) ?_
  rintro σ H Q ⟨M, env, b, env', e, q, k⟩
  unfold zTru at q
  split at q <;> try cases q
  rename_i r e1 q1
  split at q <;> try cases q
  rename_i d q2
  split at q <;> try cases q
  rename_i q3
  exact tEv_run e q1 fun v H' p z _ => ⟨_, relT_tru (rdv_ok p.env z q2) q3, k H' p⟩
theorem pz_tnot {a : Expr} {pos : Pos} {t : ST} (h : PT X a (tTv X.K G t)) : PT X (.UnaryOp .Not a pos) (tTv X.K G (zTNot t)) := by
  refine PT.imp (pt_not h) ?_
  rintro σ H Q ⟨M, env, b, env', e, q, k⟩
  unfold zTNot at q
  split at q <;> try cases q
  rename_i b e1 q1
  exact tTv_run e q1 k
theorem pz_and1 {a : Expr} {pos : Pos} {t : ST} (h : PT X a (tTv X.K G t)) : PW X (.BoolOp .And [a] pos) (tTv X.K G t) := pw_and1 h
theorem pz_or1 {a : Expr} {pos : Pos} {t : ST} (h : PT X a (tTv X.K G t)) : PW X (.BoolOp .Or [a] pos) (tTv X.K G t) := pw_or1 h
theorem pz_andc {a b : Expr} {rest : List Expr} {pos : Pos} {t u : ST} (h : PT X a (tTv X.K G t)) (h2 : PW X (.BoolOp .And (b :: rest) pos) (tTv X.K G u)) : PW X (.BoolOp .And (a :: b :: rest) pos) (tTv X.K G (zTAnd t u)) := by
  refine PW.imp (pw_and h h2) ?_
  rintro σ H Q ⟨M, env, b, env', e, q, k⟩
  unfold zTAnd at q
  split at q
  · rename_i e1 q1
    refine tTv_run e q1 fun H1 p1 => ?_
    rw [if_pos rfl]
    exact tTv_run p1.env q fun H2 p2 => k H2 (p1.trans p2)
  · rename_i e1 q1
    cases q
    refine tTv_run e q1 fun H1 p1 => ?_
    rw [if_neg Bool.false_ne_true]
    exact k H1 p1
  · cases q
theorem pz_orc {a b : Expr} {rest : List Expr} {pos : Pos} {t u : ST} (h : PT X a (tTv X.K G t)) (h2 : PW X (.BoolOp .Or (b :: rest) pos) (tTv X.K G u)) : PW X (.BoolOp .Or (a :: b :: rest) pos) (tTv X.K G (zTOr t u)) := by
  refine PW.imp (pw_or h h2) ?_
  rintro σ H Q ⟨M, env, b, env', e, q, k⟩
  unfold zTOr at q
  split at q
  · rename_i e1 q1
    cases q
    refine tTv_run e q1 fun H1 p1 => ?_
    rw [if_pos rfl]
    exact k H1 p1
  · rename_i e1 q1
    refine tTv_run e q1 fun H1 p1 => ?_
    rw [if_neg Bool.false_ne_true]
    exact tTv_run p1.env q fun H2 p2 => k H2 (p1.trans p2)
  · cases q
theorem pz_andV {a b : Expr} {rest : List Expr} {pos : Pos} {fa fb : SE} (ha : PE X a (tEv X.K G fa)) (hb : PE X (.BoolOp .And (b :: rest) pos) (tEv X.K G fb)) : PE X (.BoolOp .And (a :: b :: rest) pos) (tEv X.K G (zAndV fa fb)) := by
  refine PE.imp (pe_and ha hb) ?_
  rintro σ H Q ⟨M, env, r, env', e, q, k⟩
  unfold zAndV at q
  split at q
  · rename_i e1 q1
    refine tEv_run e q1 fun v H1 p1 z _ => ⟨true, z, ?_⟩
    rw [if_pos rfl]
    exact tEv_run p1.env q fun w H2 p2 z2 n2 => k w H2 (p1.trans p2) z2 (n2.back p1)
  · rename_i e1 q1
    cases q
    refine tEv_run e q1 fun v H1 p1 z _ => ⟨false, z, ?_⟩
    rw [if_neg Bool.false_ne_true]
    exact k _ H1 p1 rfl trivial
  · cases q
theorem pz_orV {a b : Expr} {rest : List Expr} {pos : Pos} {fa fb : SE} (ha : PE X a (tEv X.K G fa)) (hb : PE X (.BoolOp .Or (b :: rest) pos) (tEv X.K G fb)) : PE X (.BoolOp .Or (a :: b :: rest) pos) (tEv X.K G (zOrV fa fb)) := by
  refine PE.imp (pe_or ha hb) ?_
  rintro σ H Q ⟨M, env, r, env', e, q, k⟩
  unfold zOrV at q
  split at q
  · rename_i e1 q1
    cases q
    refine tEv_run e q1 fun v H1 p1 z _ => ⟨true, z, ?_⟩
    rw [if_pos rfl]
    exact k _ H1 p1 rfl trivial
  · rename_i e1 q1
    refine tEv_run e q1 fun v H1 p1 z _ => ⟨false, z, ?_⟩
    rw [if_neg Bool.false_ne_true]
    exact tEv_run p1.env q fun w H2 p2 z2 n2 => k w H2 (p1.trans p2) z2 (n2.back p1)
  · cases q
theorem pz_one {a : Expr} {op : BoolOp} {pos : Pos} {fa : SE} (ha : PE X a (tEv X.K G fa)) : PE X (.BoolOp op [a] pos) (tEv X.K G fa) := pe_one ha
/-- not a, by the test of a -/
theorem pz_notV {a : Expr} {pos : Pos} {t : ST} (h : PT X a (tTv X.K G t)) (he : ∀ M A Q E s, wpAny M A (isTrue a X.env (eval a X.env)) (fun b s' => Q (.bool (!b)) s') E s → wpAny M A (eval (.UnaryOp .Not a pos) X.env) Q E s) :
    PE X (.UnaryOp .Not a pos) (tEv X.K G (zOfT (zTNot t))) := by
  refine ⟨fun pins s σ H Q I hq => he _ _ _ _ _ ?_⟩
  obtain ⟨M, env, r, env', e, q, k⟩ := hq
  unfold zOfT zTNot at q
  split at q <;> try cases q
  rename_i b e1 q1
  split at q1 <;> try cases q1
  rename_i b0 e0 q0
  refine thn (h.run pins s σ H (fun c H' => Q (.bl (!c)) H') I (tTv_run e q0 fun H' p => k _ H' p rfl trivial)) fun c s' ⟨H', I', q'⟩ => ⟨.bl (!c), H', I', rfl, q'⟩
theorem pz_if {c a b : Expr} {pos : Pos} {t : ST} {fa fb : SE} (hc : PT X c (tTv X.K G t)) (ha : PE X a (tEv X.K G fa)) (hb : PE X b (tEv X.K G fb)) : PE X (.IfExp c a b pos) (tEv X.K G (zIf t fa fb)) := by
  refine PE.imp (pe_ifExp hc ha hb) ?_
  rintro σ H Q ⟨M, env, r, env', e, q, k⟩
  unfold zIf at q
  split at q
  · rename_i e1 q1
    refine tTv_run e q1 fun H1 p1 => ?_
    rw [if_pos rfl]
    exact tEv_run p1.env q fun w H2 p2 z2 n2 => k w H2 (p1.trans p2) z2 (n2.back p1)
  · rename_i e1 q1
    refine tTv_run e q1 fun H1 p1 => ?_
    rw [if_neg Bool.false_ne_true]
    exact tEv_run p1.env q fun w H2 p2 z2 n2 => k w H2 (p1.trans p2) z2 (n2.back p1)
  · cases q

/-! ### arguments, displays -/
def zNil : SA := fun env => some ([], env)
def zCons (fa : SE) (fs : SA) : SA := fun env => match fa env with
  | some (r, e1) => match fs e1 with
    | some (rs, e2) => some (nrm r :: rs, e2)
    | none => none
  | none => none
theorem tAv_run {f : SA} {M : Addr → Prop} {σ : L2.St} {H : Hp} {env env' : En} {rs : List R} {Q : List V → Hp → Prop} (e : REnv X.K G M σ H env) (h : f env = some (rs, env'))
    (k : ∀ vs H', Post X.K G M σ H env H' env' → ResOks X.K G M σ H' env' vs rs → Q vs H') : tAv X.K G f σ H Q := ⟨M, env, rs, env', e, h, k⟩
theorem pz_nil : PA X [] (tAv X.K G zNil) := by
  refine PA.imp pa_nil ?_
  rintro σ H Q ⟨M, env, rs, env', e, q, k⟩
  cases q
  exact k [] H (.refl e) rfl
theorem pz_cons {e : Expr} {es : List Expr} {fa : SE} {fs : SA} (ha : PE X e (tEv X.K G fa)) (hs : PA X es (tAv X.K G fs)) (he : starEach (e :: es) X.env = (false, eval e X.env) :: starEach es X.env) :
    PA X (e :: es) (tAv X.K G (zCons fa fs)) := by
  refine PA.imp (pa_cons ha hs he) ?_
  rintro σ H Q ⟨M, env, rs, env', e, q, k⟩
  unfold zCons at q
  split at q <;> try cases q
  rename_i r e1 q1
  split at q <;> try cases q
  rename_i rs e2 q2
  refine tEv_run e q1 fun v H1 p1 z1 _ => tAv_run p1.env q2 fun vs H2 p2 z2 => k _ H2 (p1.trans p2) ⟨v, vs, rfl, z1.nrm.keep p2, z2⟩
/-- a waiting argument -/
def nrmd : R → Prop
  | .fresh _ => False
  | _ => True
theorem escs_ok {M : Addr → Prop} {σ : L2.St} : ∀ {rs : List R} {vs : List V} {H : Hp} {env env' : En} {ds : List Dat}, REnv X.K G M σ H env → (∀ r ∈ rs, Zz.nrm r = r) → ResOks X.K G M σ H env vs rs → escs env rs = some (ds, env') →
    Post X.K G M σ H env H env' ∧ RelDs X.K G (NN M σ env') H vs ds
  | [], vs, H, env, env', ds, e, hn, h, q => by
    have e1 : vs = [] := h
    subst e1
    cases q
    exact ⟨.refl e, rfl⟩
  | r :: rs, vs, H, env, env', ds, e, hn, h, q => by
    obtain ⟨v, ws, rfl, h1, h2⟩ := h
    unfold escs at q
    split at q <;> try cases q
    rename_i d e1 q1
    split at q <;> try cases q
    rename_i ds' e2 q2
    obtain ⟨p1, z1⟩ := esc_ok e h1 q1
    have keep : ∀ (rs : List R) (ws : List V), (∀ r ∈ rs, Zz.nrm r = r) → ResOks X.K G M σ H env ws rs → ResOks X.K G M σ H e1 ws rs := by
      intro rs
      induction rs with
      | nil => intro ws _ h; exact h
      | cons r rs ih =>
        intro ws hn ⟨v, us, e0, a, b⟩
        refine ⟨v, us, e0, ?_, ih us (fun r h => hn r (List.mem_cons_of_mem _ h)) b⟩
        have := hn r List.mem_cons_self
        rw [← this] at a ⊢
        exact a.keep p1
    obtain ⟨p2, z2⟩ := escs_ok p1.env (fun r h => hn r (List.mem_cons_of_mem _ h)) (keep rs ws (fun r h => hn r (List.mem_cons_of_mem _ h)) h2) q2
    exact ⟨p1.trans p2, v, ws, rfl, p2.rel z1, z2⟩
theorem rdvs_ok {M : Addr → Prop} {σ : L2.St} {H : Hp} {env : En} (e : REnv X.K G M σ H env) : ∀ {rs : List R} {vs : List V} {ds : List Dat}, ResOks X.K G M σ H env vs rs → rdvs env rs = some ds →
    Paired (fun v d => RelT X.K G (NN M σ env) H v d) vs ds
  | [], vs, ds, h, q => by
    have e1 : vs = [] := h
    subst e1
    cases q
    exact .nil
  | r :: rs, vs, ds, h, q => by
    obtain ⟨v, ws, rfl, h1, h2⟩ := h
    unfold rdvs at q
    split at q <;> try cases q
    rename_i d q1
    split at q <;> try cases q
    rename_i ds' q2
    exact .cons (rdv_ok e h1 q1) (rdvs_ok e h2 q2)
/-- every meaning of arguments gives waiting values -/
def Nrm (f : SA) : Prop := ∀ env rs env', f env = some (rs, env') → ∀ r ∈ rs, nrm r = r
theorem nrm_nil : Nrm zNil := by
  intro env rs env' q r hr
  cases q
  cases hr
theorem nrm_nrm (r : R) : nrm (nrm r) = nrm r := by cases r <;> rfl
theorem nrm_cons {fa : SE} {fs : SA} (h : Nrm fs) : Nrm (zCons fa fs) := by
  intro env rs env' q r hr
  unfold zCons at q
  split at q <;> try cases q
  split at q <;> try cases q
  rename_i r0 e1 q1 _ rs' e2 q2
  rcases List.mem_cons.mp hr with z | z
  · rw [z]; exact nrm_nrm _
  · exact h _ _ _ q2 r z
def sizeOk (n : Nat) : Bool := decide (n ≤ 16777216)
theorem sizeOk_le {n : Nat} (h : sizeOk n = true) : n ≤ sizeLine := by
  have := of_decide_eq_true h
  rw [sizeLine_eq]
  exact this
/-- (a, b, ..), [a, b, ..] -/
def zTup (fs : SA) : SE := fun env => match fs env with
  | some (rs, e1) => match escs e1 rs with
    | some (ds, e2) => if sizeOk ds.length then some (.val (.tup ds), e2) else none
    | none => none
  | none => none
def zLst (fs : SA) : SE := fun env => match fs env with
  | some (rs, e1) => match escs e1 rs with
    | some (ds, e2) => if sizeOk ds.length then some (.fresh (.lst ds), e2) else none
    | none => none
  | none => none
theorem new_up {N : Addr → Prop} {H : Hp} {p : Addr} {o : HO} (hp : H p = none) : Up N H (fun b => N b ∨ b = p) (upd H p o) := fun b u hu q n => ⟨rd_same hu q fun o nt e => (Sam.new hp).k b o nt e, fun z => by
  rcases z with z | z
  · exact n z
  · subst z; exact rd_some q hp⟩
theorem pz_tup {es : List Expr} {x1 : Nat} {pos : Pos} {fs : SA} (hs : PA X es (tAv X.K G fs)) (hn : Nrm fs) : PE X (.Tuple es x1 pos) (tEv X.K G (zTup fs)) := by
  refine PE.imp (pe_tup hs) ?_
  rintro σ H Q ⟨M, env, r, env', e, q, k⟩
  unfold zTup at q
  split at q <;> try cases q
  rename_i rs e1 q1
  split at q <;> try cases q
  rename_i ds e2 q2
  split at q <;> try cases q
  rename_i hz
  refine tAv_run e q1 fun vs H1 p1 z1 => ?_
  obtain ⟨p2, z2⟩ := escs_ok p1.env (hn _ _ _ q1) z1 q2
  refine ⟨by rw [relDs_len z2]; exact sizeOk_le hz, fun p hp => ?_⟩
  obtain ⟨p3, z3, n3⟩ := res0_ok (r := .val (.tup ds)) (v := .ref p) p2.env (Sam.new (o := .tup vs) hp) (show RelD X.K G _ _ _ _ from ⟨p, vs, rfl, .inl ⟨.inl upd_same, fun z => p2.env.liveN z hp⟩, z2.up (Sam.new hp).up⟩)
  exact k _ _ ((p1.trans p2).trans p3) z3 (n3.back (p1.trans p2))
theorem pz_lst {es : List Expr} {pos : Pos} {fs : SA} (hs : PA X es (tAv X.K G fs)) (hn : Nrm fs) : PE X (.List es pos) (tEv X.K G (zLst fs)) := by
  refine PE.imp (pe_lst hs) ?_
  rintro σ H Q ⟨M, env, r, env', e, q, k⟩
  unfold zLst at q
  split at q <;> try cases q
  rename_i rs e1 q1
  split at q <;> try cases q
  rename_i ds e2 q2
  split at q <;> try cases q
  rename_i hz
  refine tAv_run e q1 fun vs H1 p1 z1 => ?_
  obtain ⟨p2, z2⟩ := escs_ok p1.env (hn _ _ _ q1) z1 q2
  refine ⟨by rw [relDs_len z2]; exact sizeOk_le hz, fun p hp => ?_⟩
  obtain ⟨p3, z3, n3⟩ := res0_ok (r := .fresh (.lst ds)) (v := .ref p) p2.env (Sam.new (o := .lst vs) hp) (show Res0 X.K G _ _ _ _ _ from ⟨p, rfl, hp, vs, upd_same, z2.up (new_up hp)⟩)
  exact k _ _ ((p1.trans p2).trans p3) z3 (n3.back (p1.trans p2))

/-! ### a call of a built-in by values -/
def CallZ (X : Cx) (G : GG) (f : Value) (g : List Dat → Option R) : Prop := ∃ rr, CallR X f rr ∧ ∀ N vs ds r H Q, (∀ b, N b → H b ≠ none) → Paired (fun v d => RelT X.K G N H v d) vs ds → g ds = some r →
  (∀ v H', Sam H H' → Res0 X.K G N H v H' r → Q v H') → rr vs H Q
def zCallB (g : List Dat → Option R) (fs : SA) : SE := fun env => match fs env with
  | some (rs, e1) => match rdvs e1 rs with
    | some ds => match g ds with
      | some r => some (r, e1)
      | none => none
    | none => none
  | none => none
theorem callB_imp {fs : SA} {g : List Dat → Option R} {rr : List V → Hp → VK → Prop} (h2 : ∀ N vs ds r H Q, (∀ b, N b → H b ≠ none) → Paired (fun v d => RelT X.K G N H v d) vs ds → g ds = some r →
    (∀ v H', Sam H H' → Res0 X.K G N H v H' r → Q v H') → rr vs H Q) (σ : L2.St) (H : Hp) (Q : VK) (h : tEv X.K G (zCallB g fs) σ H Q) : tAv X.K G fs σ H fun vs H1 => rr vs H1 Q := by
  obtain ⟨M, env, r, env', e, q, k⟩ := h
  unfold zCallB at q
  split at q <;> try cases q
  rename_i rs e1 q1
  split at q <;> try cases q
  rename_i ds q2
  split at q <;> try cases q
  rename_i r0 q3
  refine tAv_run e q1 fun vs H1 p1 z1 => ?_
  refine h2 (NN M σ env') vs ds r H1 Q (fun b => p1.env.liveN) (rdvs_ok p1.env z1 q2) q3 fun v H2 s z => ?_
  obtain ⟨p2, z2, n2⟩ := res0_ok p1.env s z
  exact k v H2 (p1.trans p2) z2 (n2.back p1)
theorem pz_callB {x : Str} {p pos : Pos} {e : Expr} {es : List Expr} {id : String} {g : List Dat → Option R} {fs : SA} (hc : CallZ X G (.builtin id) g) (hg : Gl X x) (hm : X.mg x = none) (hv : bootBuiltins x = some (.builtin id))
    (hn : x ≠ "__name__") (hdb : (x == ("__debug__" : Str)) = false) (ha : PA X (e :: es) (tAv X.K G fs))
    (he : starEach (e :: es) X.env = (false, eval e X.env) :: starEach es X.env) (hpl : (backTo pos (starEach es X.env)).any (·.1) = false) : PE X (.Call (.Name x p) (e :: es) [] pos) (tEv X.K G (zCallB g fs)) := by
  obtain ⟨rr, h1, h2⟩ := hc
  exact PE.imp (pe_callB h1 hg hm hv ha hn hdb he hpl) (callB_imp h2)
theorem pz_callTy {x : Str} {p pos : Pos} {e : Expr} {es : List Expr} {id : String} {g : List Dat → Option R} {fs : SA} (hc : CallZ X G (.type id) g) (hg : Gl X x) (hm : X.mg x = none) (hv : bootBuiltins x = some (.type id))
    (hn : x ≠ "__name__") (hdb : (x == ("__debug__" : Str)) = false) (ha : PA X (e :: es) (tAv X.K G fs))
    (he : starEach (e :: es) X.env = (false, eval e X.env) :: starEach es X.env) (hpl : (backTo pos (starEach es X.env)).any (·.1) = false) : PE X (.Call (.Name x p) (e :: es) [] pos) (tEv X.K G (zCallB g fs)) := by
  obtain ⟨rr, h1, h2⟩ := hc
  exact PE.imp (pe_callTy h1 hg hm hv ha hn hdb he hpl) (callB_imp h2)
end
end Zz
end

section
set_option Elab.async false
set_option linter.all false
set_option maxRecDepth 100000
namespace Zz
open PySem PySem.Spec PyProof.Rows L2

/-! ### defs as meanings -/
/-- a def's meaning: how many arguments; whether it changes the first one; from the arguments its value, whether that is a new object, the first argument behind it -/
structure FS where
  ar : Nat
  io : Bool
  run : List Dat → Option (Dat × Bool × Dat)
def argEnv (io : Bool) : List Dat → En
  | [] => []
  | d :: ds => some (if io then .ow d else .sh d) :: ds.map fun d => some (.sh d)
def outEnv (io : Bool) (l : Dat) : En := if io then [some (.ow l)] else []
def resOf (d : Dat) (fr : Bool) : R := if fr then .fresh d else .val d
/-- the promise that a def has such a meaning -/
def SpF (K : PySem.W.Frag) (G : GG) (fs : FS) : Sp := fun vs H Q _ => ∃ (M : Addr → Prop) (ds : List Dat) (d : Dat) (fr : Bool) (l : Dat), ds.length = fs.ar ∧ REnv K G M (vs.map some) H (argEnv fs.io ds) ∧ fs.run ds = some (d, fr, l) ∧
  ∀ v H', Fr (Own (vs.map some) (argEnv fs.io ds)) H H' → REnv K G M ((vs.map some).take (outEnv fs.io l).length) H' (outEnv fs.io l) →
    ResOk K G M ((vs.map some).take (outEnv fs.io l).length) H' (outEnv fs.io l) v (resOf d fr) → New H v (resOf d fr) → Q v H'
/-- f(..) -/
def zCall (fs : FS) (fa : SA) : SE := fun env => match fa env with
  | some (rs, e1) => match fs.io with
    | false => match escs e1 rs with
      | some (ds, e2) => if ds.length = fs.ar then match fs.run ds with
        | some (d, fr, _) => some (resOf d fr, e2)
        | none => none
        else none
      | none => none
    | true => match rs with
      | .bor i :: rs' => match escs e1 rs' with
        | some (ds, e2) => match e2[i]? with
          | some (some (.ow l)) => if ds.length + 1 = fs.ar then match fs.run (l :: ds) with
            | some (d, fr, l') => some (resOf d fr, e2.set i (some (.ow l')))
            | none => none
            else none
          | _ => none
        | none => none
      | _ => none
  | none => none

section
variable {K : PySem.W.Frag} {G : GG} {N M : Addr → Prop} {H H' : Hp} {σ : L2.St}
theorem argEnv_len {io : Bool} {ds : List Dat} : (argEnv io ds).length = ds.length := by
  cases ds <;> simp [argEnv]
theorem argEnv_f {ds : List Dat} : argEnv false ds = ds.map fun d => some (.sh d) := by
  cases ds <;> simp [argEnv]
theorem own_f {ds : List Dat} {b : Addr} : ¬ Own σ (argEnv false ds) b := by
  rintro ⟨i, d, h, _⟩
  rw [argEnv_f, List.getElem?_map] at h
  cases q : ds[i]? with
  | none => rw [q] at h; cases h
  | some d' => rw [q] at h; cases h
theorem own_nil {b : Addr} : ¬ Own σ [] b := by
  rintro ⟨i, d, h, _⟩
  simp at h
theorem args_env {vs : List V} {ds : List Dat} (h : RelDs K G N H vs ds) (hl : ∀ b, N b → H b ≠ none) (ht : ∀ P ∈ G.ts, GxR.TabG H P) : REnv K G N (vs.map some) H (argEnv false ds) := by
  refine ⟨by rw [List.length_map, argEnv_len, relDs_len h], fun i d e => ?_, fun i d e => ?_, fun i j d d' a e => ?_, hl, ht⟩
  · rw [argEnv_f, List.getElem?_map] at e
    cases q : ds[i]? with
    | none => rw [q] at e; cases e
    | some d' =>
      rw [q] at e
      cases e
      obtain ⟨v, h1, h2⟩ := relDs_get h q
      exact ⟨v, by rw [List.getElem?_map, h1]; rfl, h2.up fun b u _ r n => ⟨r, fun z => z.elim n own_f⟩⟩
  all_goals
    rw [argEnv_f, List.getElem?_map] at e
    cases q : ds[i]? with
    | none => rw [q] at e; cases e
    | some d' => rw [q] at e; cases e
theorem args_env_io {vs : List V} {a : Addr} {l : Dat} {ds : List Dat} (ho : OwnAt K G (fun b => N b ∨ b = a) H a l) (na : ¬ N a) (h : RelDs K G (fun b => N b ∨ b = a) H vs ds) (hl : ∀ b, N b → H b ≠ none) (ht : ∀ P ∈ G.ts, GxR.TabG H P) :
    REnv K G N ((V.ref a :: vs).map some) H (argEnv true (l :: ds)) ∧ ∀ b, Own ((V.ref a :: vs).map some) (argEnv true (l :: ds)) b ↔ b = a := by
  have own : ∀ b, Own ((V.ref a :: vs).map some) (argEnv true (l :: ds)) b ↔ b = a := fun b => by
    constructor
    · rintro ⟨i, d, h1, h2⟩
      cases i with
      | zero =>
        simp at h2
        exact h2.symm
      | succ i =>
        simp [argEnv] at h1
    · rintro rfl
      exact ⟨0, l, by simp [argEnv], by simp⟩
  have up : Up (fun b => N b ∨ b = a) H (NN N ((V.ref a :: vs).map some) (argEnv true (l :: ds))) H := fun b u _ r n => ⟨r, fun z => z.elim (fun z => n (.inl z)) fun z => n (.inr ((own b).mp z))⟩
  refine ⟨⟨by rw [List.length_map, argEnv_len, List.length_cons, List.length_cons, relDs_len h], fun i d e => ?_, fun i d e => ?_, fun i j d d' c e e' q q' => ?_, hl, ht⟩, own⟩
  · cases i with
    | zero => simp [argEnv] at e
    | succ i =>
      simp only [argEnv, List.getElem?_cons_succ, List.getElem?_map] at e
      cases q : ds[i]? with
      | none => rw [q] at e; cases e
      | some d' =>
        rw [q] at e
        cases e
        obtain ⟨v, h1, h2⟩ := relDs_get h q
        exact ⟨v, by simp [h1], h2.up up⟩
  · cases i with
    | zero =>
      simp [argEnv] at e
      subst e
      exact ⟨a, by simp, na, ho.up (fun _ _ e => e) up⟩
    | succ i => simp [argEnv] at e
  · cases i with
    | zero =>
      cases j with
      | zero => rfl
      | succ j => simp [argEnv] at e'
    | succ i => simp [argEnv] at e
end

section
variable {X : Cx} {G : GG}
theorem call_imp {fs : FS} {fa : SA} (hn : Nrm fa) (σ : L2.St) (H : Hp) (Q : VK) (h : tEv X.K G (zCall fs fa) σ H Q) : tCall (SpF X.K G fs) [] E0 (tAv X.K G fa) σ H Q := by
  obtain ⟨M, env, r, env', e, q, k⟩ := h
  unfold zCall at q
  split at q <;> try cases q
  rename_i rs e1 q1
  refine tAv_run e q1 fun vs H1 p1 z1 => ?_
  rw [List.append_nil]
  have nr := hn _ _ _ q1
  cases hio : fs.io with
  | false =>
    simp only [hio] at q
    split at q <;> try cases q
    rename_i ds e2 q2
    split at q <;> try cases q
    rename_i har
    split at q <;> try cases q
    rename_i d fr l q3
    obtain ⟨p2, z2⟩ := escs_ok p1.env nr z1 q2
    refine ⟨NN M σ env', ds, d, fr, l, har, by rw [hio]; exact args_env z2 (fun b => p2.env.liveN) p2.env.tab, q3, fun v H2 f2 r2 z3 n3 => ?_⟩
    rw [hio] at f2 r2 z3
    have s2 : Sam H1 H2 := ⟨fun b o nt e => f2.k b o nt e own_f, fun {b} h => f2.l b h, f2.t⟩
    obtain ⟨p3, z4, n4⟩ := res0_ok (r := resOf d fr) (v := v) p2.env s2 (by
      cases fr with
      | false =>
        have z : RelD X.K G _ H2 v d := z3
        exact z.up fun b u _ q n => ⟨q, fun z => n (.inl z)⟩
      | true =>
        obtain ⟨a, rfl, n5, r5, o5⟩ := z3
        obtain ⟨a', e', h5⟩ := n3
        cases e'
        exact ⟨a, rfl, h5, o5.up (fun _ _ e => e) (less_up fun b z => .inl z)⟩)
    exact k v H2 ((p1.trans p2).trans p3) z4 (n4.back (p1.trans p2))
  | true =>
    simp only [hio] at q
    split at q <;> try cases q
    rename_i i rs'
    split at q <;> try cases q
    rename_i ds e2 q2
    split at q <;> try cases q
    rename_i l q3
    split at q <;> try cases q
    rename_i har
    split at q <;> try cases q
    rename_i d fr l' q4
    obtain ⟨v0, ws, rfl, zb, zr⟩ := z1
    obtain ⟨p2, z2⟩ := escs_ok p1.env (fun r h => nr r (List.mem_cons_of_mem _ h)) zr q2
    obtain ⟨hb, _⟩ := zb
    obtain ⟨a, ha, nMa, oa⟩ := p2.env.ow i l q3
    rw [hb] at ha
    cases ha
    have hil : i < e2.length := (List.getElem?_eq_some_iff.mp q3).1
    have self : (e2.set i (some (Sl.ow l')))[i]? = some (some (Sl.ow l')) := List.getElem?_set_self hil
    have other : ∀ (j : Nat), j ≠ i → (e2.set i (some (Sl.ow l')))[j]? = e2[j]? := fun j hj => List.getElem?_set_ne (Ne.symm hj)
    have ownA : Own σ e2 a := ⟨i, l, q3, hb⟩
    have ownEq : ∀ b, Own σ (e2.set i (some (Sl.ow l'))) b ↔ Own σ e2 b := fun b => by
      constructor
      · rintro ⟨j, d', h1, h2⟩
        by_cases hj : j = i
        · subst hj
          exact ⟨j, l, q3, h2⟩
        · rw [other j hj] at h1
          exact ⟨j, d', h1, h2⟩
      · rintro ⟨j, d', h1, h2⟩
        by_cases hj : j = i
        · subst hj
          exact ⟨j, l', self, h2⟩
        · exact ⟨j, d', by rw [other j hj]; exact h1, h2⟩
    -- what the callee is to leave alone
    have hM : ∀ b, (M b ∨ (Own σ e2 b ∧ b ≠ a)) ∨ b = a ↔ NN M σ e2 b := fun b => by
      constructor
      · rintro ((z | z) | z)
        · exact .inl z
        · exact .inr z.1
        · subst z; exact .inr ownA
      · rintro (z | z)
        · exact .inl (.inl z)
        · by_cases hba : b = a
          · exact .inr hba
          · exact .inl (.inr ⟨z, hba⟩)
    have hMe : (fun b => (M b ∨ (Own σ e2 b ∧ b ≠ a)) ∨ b = a) = NN M σ e2 := by
      funext b
      exact propext (hM b)
    obtain ⟨ra, owa⟩ := args_env_io (N := fun b => M b ∨ (Own σ e2 b ∧ b ≠ a)) (vs := ws) (a := a) (l := l) (ds := ds) (by rw [hMe]; exact oa)
      (by rintro (z | z); exact nMa z; exact z.2 rfl) (by rw [hMe]; exact z2) (fun b z => p2.env.liveN ((hM b).mp (.inl z))) p2.env.tab
    refine ⟨fun b => M b ∨ (Own σ e2 b ∧ b ≠ a), l :: ds, d, fr, l', by simpa using har, by rw [hio]; exact ra, q4, fun v H2 f2 r2 z3 n3 => ?_⟩
    rw [hio] at f2 r2 z3
    have f2k : ∀ b o, NT o → H1 b = some o → b ≠ a → H2 b = some o := fun b o nt e n => f2.k b o nt e fun z => n ((owa b).mp z)
    have own1 : ∀ b, Own (List.take (outEnv true l').length (List.map some (V.ref a :: ws))) (outEnv true l') b ↔ b = a := fun b => by
      constructor
      · rintro ⟨j, d', h1, h2⟩
        cases j with
        | zero =>
          simp [outEnv] at h2
          exact h2.symm
        | succ j => simp [outEnv] at h1
      · rintro rfl
        exact ⟨0, l', by simp [outEnv], by simp [outEnv]⟩
    obtain ⟨a', ha', _, oa'⟩ := r2.ow 0 l' (by simp [outEnv])
    have ea : a' = a := by
      simp [outEnv] at ha'
      exact ha'.symm
    subst ea
    have upN : ∀ {M1 : Addr → Prop}, (∀ b, M1 b → M b ∨ b = a' ∨ (Own σ e2 b) ∨ H1 b = none) → Up (NN M σ e2) H1 (fun b => M1 b) H2 := fun {M1} hm b u hu q n => by
      refine ⟨rd_same hu q fun o nt e => f2k b o nt e fun z => n (by rw [z]; exact .inr ownA), fun z => ?_⟩
      rcases hm b z with z | z | z | z
      · exact n (.inl z)
      · exact n (by rw [z]; exact .inr ownA)
      · exact n (.inr z)
      · exact rd_some q z
    -- the caller's slots behind the call, with more kept away
    have renv : ∀ (M1 : Addr → Prop), (∀ b, M1 b → M b ∨ H1 b = none) → (∀ b, M b → M1 b) → (∀ b, M1 b → H2 b ≠ none) → OwnAt X.K G (NN M1 σ (e2.set i (some (Sl.ow l')))) H2 a' l' → REnv X.K G M1 σ H2 (e2.set i (some (Sl.ow l'))) := fun M1 hm hm' hl ho => by
      have up : Up (NN M σ e2) H1 (NN M1 σ (e2.set i (some (Sl.ow l')))) H2 := upN fun b z => by
        rcases z with z | z
        · rcases hm b z with z | z
          · exact .inl z
          · exact .inr (.inr (.inr z))
        · exact .inr (.inr (.inl ((ownEq b).mp z)))
      refine ⟨by simpa using p2.env.len, fun j d' h => ?_, fun j d' h => ?_, fun j k' d1 d2 b h1 h2 h3 h4 => ?_, hl, r2.tab⟩
      · by_cases hj : j = i
        · rw [hj, self] at h
          cases h
        · rw [other j hj] at h
          obtain ⟨w, h1, h2⟩ := p2.env.sh j d' h
          exact ⟨w, h1, h2.up up⟩
      · by_cases hj : j = i
        · rw [hj, self] at h
          cases h
          rw [hj]
          refine ⟨a', hb, fun z => ?_, ho⟩
          rcases hm _ z with z | z
          · exact nMa z
          · exact p2.env.liveN (.inr ownA) z
        · rw [other j hj] at h
          obtain ⟨b, h1, h2, h3⟩ := p2.env.ow j d' h
          have hba : b ≠ a' := fun z => hj (p2.env.inj j i d' l a' h q3 (by rw [← z]; exact h1) hb)
          refine ⟨b, h1, fun z => ?_, h3.up (fun o nt e => f2k b o nt e hba) up⟩
          rcases hm _ z with z | z
          · exact h2 z
          · exact p2.env.liveN (.inr ⟨j, d', h, h1⟩) z
      · have g : ∀ (j : Nat) (d' : Dat), (e2.set i (some (Sl.ow l')))[j]? = some (some (Sl.ow d')) → ∃ d'', e2[j]? = some (some (Sl.ow d'')) := fun j d' h => by
          by_cases hj : j = i
          · rw [hj]; exact ⟨l, q3⟩
          · rw [other j hj] at h; exact ⟨d', h⟩
        obtain ⟨_, g1⟩ := g j d1 h1
        obtain ⟨_, g2⟩ := g k' d2 h2
        exact p2.env.inj j k' _ _ b g1 g2 h3 h4
    have nnE : ∀ b, NN (fun b => M b ∨ (Own σ e2 b ∧ b ≠ a')) (List.take (outEnv true l').length (List.map some (V.ref a' :: ws))) (outEnv true l') b ↔ NN M σ (e2.set i (some (Sl.ow l'))) b := fun b => by
      constructor
      · rintro (z | z)
        · rcases z with z | z
          · exact .inl z
          · exact .inr ((ownEq b).mpr z.1)
        · rw [(own1 b).mp z]
          exact .inr ((ownEq _).mpr ownA)
      · rintro (z | z)
        · exact .inl (.inl z)
        · by_cases hba : b = a'
          · exact .inr ((own1 b).mpr hba)
          · exact .inl (.inr ⟨(ownEq b).mp z, hba⟩)
    have er := renv M (fun b z => .inl z) (fun b z => z) (fun b z => f2.l b (p2.env.live b z)) (oa'.up (fun _ _ e => e) (less_up fun b z => (nnE b).mpr z))
    have p3 : Post X.K G M σ H1 e2 H2 (e2.set i (some (Sl.ow l'))) := ⟨⟨fun b o nt e n => f2k b o nt e fun z => n (by rw [z]; exact ownA), f2.l, f2.t⟩,
      ⟨by simp, fun j d' h => by
        by_cases hj : j = i
        · rw [hj]; exact ⟨l, q3⟩
        · rw [other j hj] at h; exact ⟨d', h⟩, fun j s h => by
        by_cases hj : j = i
        · rw [hj]; exact ⟨_, self⟩
        · exact ⟨s, by rw [other j hj]; exact h⟩⟩, er⟩
    refine k v H2 ((p1.trans p2).trans p3) ?_ (n3.back (p1.trans p2))
    cases fr with
    | false =>
      have z : RelD X.K G _ H2 v d := z3
      exact z.up (less_up fun b z => (nnE b).mpr z)
    | true =>
      obtain ⟨p, rfl, n5, r5, o5⟩ := z3
      obtain ⟨p', e', h5⟩ := n3
      cases e'
      have nnE2 : ∀ b, NN (fun b => M b ∨ b = p) σ (e2.set i (some (Sl.ow l'))) b → NN (fun b => (M b ∨ (Own σ e2 b ∧ b ≠ a')) ∨ b = p) (List.take (outEnv true l').length (List.map some (V.ref a' :: ws))) (outEnv true l') b := fun b z => by
        rcases z with (z | z) | z
        · exact .inl (.inl (.inl z))
        · exact .inl (.inr z)
        · rcases (nnE b).mpr (.inr z) with z | z
          · exact .inl (.inl z)
          · exact .inr z
      obtain ⟨b2, hb2, _, ob2⟩ := r5.ow 0 l' (by simp [outEnv])
      have eb2 : b2 = a' := by
        simp [outEnv] at hb2
        exact hb2.symm
      subst eb2
      have h2p : H2 p ≠ none := by
        obtain ⟨o, e⟩ := o5.some
        rw [e]
        exact fun z => by cases z
      exact ⟨p, rfl, fun z => n5 ((nnE p).mpr z), renv (fun b => M b ∨ b = p) (fun b z => z.imp id fun z => by rw [z]; exact h5) (fun b z => .inl z) (fun b z => z.elim (fun z => f2.l b (p2.env.live b z)) fun z => by rw [z]; exact h2p)
        (ob2.up (fun _ _ e => e) (less_up nnE2)), o5.up (fun _ _ e => e) (less_up nnE2)⟩
end
end Zz
end

section
set_option Elab.async false
set_option linter.all false
set_option maxRecDepth 100000
namespace Zz
open PySem PySem.Spec PyProof.Rows L2

/-! ### statements -/
inductive Fl where
  | next (e : En) | brk (e : En) | cnt (e : En) | ret (r : R) (e : En)
abbrev SS := En → Option Fl
structure PostS (K : PySem.W.Frag) (G : GG) (io : Bool) (M : Addr → Prop) (σ : L2.St) (H : Hp) (env : En) (σ' : L2.St) (H' : Hp) (env' : En) : Prop where
  fr : Fr (Own σ env) H H'
  own : ∀ b, Own σ' env' b → Own σ env b ∨ H b = none
  env : REnv K G M σ' H' env'
  pin : io = true → σ'[0]? = σ[0]? ∧ ∃ d, env'[0]? = some (some (Sl.ow d))
section
variable {K : PySem.W.Frag} {G : GG} {io : Bool} {M : Addr → Prop} {σ σ1 σ2 : L2.St} {H H1 H2 : Hp} {env e1 e2 : En}
theorem PostS.trans (x : PostS K G io M σ H env σ1 H1 e1) (y : PostS K G io M σ1 H1 e1 σ2 H2 e2) : PostS K G io M σ H env σ2 H2 e2 :=
  ⟨⟨fun b o nt e n => y.fr.k b o nt (x.fr.k b o nt e n) fun z => (x.own b z).elim n fun z => (by rw [e] at z; cases z), fun b h => y.fr.l b (x.fr.l b h), fun b h => y.fr.t b (x.fr.t b h)⟩,
   fun b z => (y.own b z).elim (x.own b) fun z => .inr (by
    cases q : H b with
    | none => rfl
    | some o => exact absurd z (x.fr.l b (by rw [q]; exact fun z => by cases z))),
   y.env, fun h => ⟨(y.pin h).1.trans (x.pin h).1, (y.pin h).2⟩⟩
/-- slot 0 is kept, where it is the caller's -/
def PinOk (io : Bool) (env : En) : Prop := io = true → ∃ d, env[0]? = some (some (Sl.ow d))
theorem Post.st {H' : Hp} {env' : En} (x : Post K G M σ H env H' env') (h : PinOk io env') : PostS K G io M σ H env σ H' env' := ⟨x.fr, fun b z => .inl (x.shp.own z), x.env, fun z => ⟨rfl, h z⟩⟩
end
/-- the frame's first slot is still the caller's -/
def pinB (io : Bool) (env : En) : Bool := !io || (match env[0]? with
  | some (some (Sl.ow _)) => true
  | _ => false)
theorem pinB_ok {io : Bool} {env : En} (h : pinB io env = true) : PinOk io env := by
  intro e
  subst e
  unfold pinB at h
  simp only [Bool.not_true, Bool.false_or] at h
  split at h
  · rename_i d e
    exact ⟨d, e⟩
  · cases h

def Cnt (K : PySem.W.Frag) (G : GG) (io : Bool) (M : Addr → Prop) (σ : L2.St) (H : Hp) (env : En) (D : Ends) : Fl → Prop
  | .next e' => ∀ σ' H', PostS K G io M σ H env σ' H' e' → D.nx σ' H'
  | .brk e' => ∀ σ' H', PostS K G io M σ H env σ' H' e' → D.bk σ' H'
  | .cnt e' => ∀ σ' H', PostS K G io M σ H env σ' H' e' → D.ct σ' H'
  | .ret r e' => ∀ v σ' H', PostS K G io M σ H env σ' H' e' → ResOk K G M σ' H' e' v r → New H v r → D.rt v H'
def tSv (K : PySem.W.Frag) (G : GG) (io : Bool) (f : SS) : TS := fun D σ H => ∃ (M : Addr → Prop) (env : En) (fl : Fl), REnv K G M σ H env ∧ PinOk io env ∧ f env = some fl ∧ Cnt K G io M σ H env D fl
section
variable {K : PySem.W.Frag} {G : GG} {io : Bool} {M : Addr → Prop} {σ σ1 : L2.St} {H H1 : Hp} {env e1 : En} {D : Ends} {fl : Fl}
theorem Cnt.back (p : PostS K G io M σ H env σ1 H1 e1) (c : Cnt K G io M σ H env D fl) : Cnt K G io M σ1 H1 e1 D fl := by
  cases fl with
  | next e' => exact fun σ' H' q => c σ' H' (p.trans q)
  | brk e' => exact fun σ' H' q => c σ' H' (p.trans q)
  | cnt e' => exact fun σ' H' q => c σ' H' (p.trans q)
  | ret r e' =>
    intro v σ' H' q z n
    refine c v σ' H' (p.trans q) z ?_
    cases r with
    | fresh d =>
      obtain ⟨a, e, h⟩ := n
      refine ⟨a, e, ?_⟩
      cases q : H a with
      | none => rfl
      | some o => exact absurd h (p.fr.l a (by rw [q]; exact fun z => by cases z))
    | _ => trivial
theorem PinOk.of (p : PostS K G io M σ H env σ1 H1 e1) : PinOk io e1 := fun h => (p.pin h).2
theorem PinOk.of' (p : PostS K G io M σ H env σ1 H1 e1) (h : PinOk io e1) : True := trivial
end
def zNext : SS := fun env => some (.next env)
def zSeq (f g : SS) : SS := fun env => match f env with
  | some (.next e1) => g e1
  | o => o
def zNever : SS := fun _ => none
def zPass : SS := fun env => some (.next env)
def zBrk : SS := fun env => some (.brk env)
def zCnt : SS := fun env => some (.cnt env)
def zRet (io : Bool) (fa : SE) : SS := fun env => match fa env with
  | some (r, e1) => if pinB io e1 then some (.ret r e1) else none
  | none => none
def zRetN : SS := fun env => some (.ret (.val .non) env)
def zDrop (io : Bool) (fa : SE) : SS := fun env => match fa env with
  | some (_, e1) => if pinB io e1 then some (.next e1) else none
  | none => none
def zIfS (io : Bool) (c : ST) (f g : SS) : SS := fun env => match c env with
  | some (true, e1) => if pinB io e1 then f e1 else none
  | some (false, e1) => if pinB io e1 then g e1 else none
  | none => none
/-- a value to a slot -/
def put (io : Bool) (i : Nat) (r : R) (env : En) : Option En :=
  if (io && i == 0) || !(decide (i < env.length)) then none else
  match r with
  | .val d => some (env.set i (some (.sh d)))
  | .fresh d => some (env.set i (some (.ow d)))
  | .bor _ => match esc env r with
    | some (d, e1) => if pinB io e1 then some (e1.set i (some (.sh d))) else none
    | none => none
def zSet (io : Bool) (i : Nat) (fa : SE) : SS := fun env => match fa env with
  | some (r, e1) => if pinB io e1 then match put io i r e1 with
    | some e2 => some (.next e2)
    | none => none
    else none
  | none => none

section
variable {X : Cx} {G : GG} {io : Bool}
theorem tSv_run {f : SS} {M : Addr → Prop} {σ : L2.St} {H : Hp} {env : En} {fl : Fl} {D : Ends} (e : REnv X.K G M σ H env) (hp : PinOk io env) (h : f env = some fl) (k : Cnt X.K G io M σ H env D fl) : tSv X.K G io f D σ H := ⟨M, env, fl, e, hp, h, k⟩
theorem pzs_nil : PSs X [] (tSv X.K G io zNext) := by
  refine PSs.imp pss_nil ?_
  rintro D σ H ⟨M, env, fl, e, hp, q, k⟩
  cases q
  exact k σ H ((Post.refl e).st hp)
theorem seq_imp {f g : SS} {t : TS} (D : Ends) (σ : L2.St) (H : Hp) (h : tSv X.K G io (zSeq f g) D σ H) : tSv X.K G io f { D with nx := tSv X.K G io g D } σ H := by
  obtain ⟨M, env, fl, e, hp, q, k⟩ := h
  unfold zSeq at q
  split at q
  · rename_i e1 q1
    exact tSv_run e hp q1 fun σ' H' p => tSv_run p.env (PinOk.of p) q (Cnt.back p k)
  · rename_i hne
    refine tSv_run e hp q ?_
    cases fl with
    | next e' => exact absurd q (fun z => hne e' z)
    | brk e' => exact k
    | cnt e' => exact k
    | ret r e' => exact k
theorem pzs_cons {st : Stmt} {rest : List Stmt} {f g : SS} (h : PS X st (tSv X.K G io f)) (h2 : PSs X rest (tSv X.K G io g)) : PSs X (st :: rest) (tSv X.K G io (zSeq f g)) :=
  PSs.imp (pss_cons h h2) fun D σ H q => seq_imp (t := tNext) D σ H q
theorem pz_never {st : Stmt} : PS X st (tSv X.K G io zNever) := by
  refine PS.imp ps_never ?_
  rintro D σ H ⟨M, env, fl, e, hp, q, k⟩
  cases q
theorem pz_pass {pos : Pos} : PS X (.Pass pos) (tSv X.K G io zPass) := by
  refine PS.imp ps_pass ?_
  rintro D σ H ⟨M, env, fl, e, hp, q, k⟩
  cases q
  exact k σ H ((Post.refl e).st hp)
theorem pz_break {pos : Pos} : PS X (.Break pos) (tSv X.K G io zBrk) := by
  refine PS.imp ps_break ?_
  rintro D σ H ⟨M, env, fl, e, hp, q, k⟩
  cases q
  exact k σ H ((Post.refl e).st hp)
theorem pz_continue {pos : Pos} : PS X (.Continue pos) (tSv X.K G io zCnt) := by
  refine PS.imp ps_continue ?_
  rintro D σ H ⟨M, env, fl, e, hp, q, k⟩
  cases q
  exact k σ H ((Post.refl e).st hp)
theorem pz_ret {a : Expr} {pos : Pos} {fa : SE} (ha : PE X a (tEv X.K G fa)) : PS X (.Return (some a) pos) (tSv X.K G io (zRet io fa)) := by
  refine PS.imp (ps_ret ha) ?_
  rintro D σ H ⟨M, env, fl, e, hp, q, k⟩
  unfold zRet at q
  split at q <;> try cases q
  rename_i r e1 q1
  split at q <;> try cases q
  rename_i hb
  exact tEv_run e q1 fun v H' p z n => k v σ H' (p.st (pinB_ok hb)) z n
theorem pz_retN {pos : Pos} : PS X (.Return none pos) (tSv X.K G io zRetN) := by
  refine PS.imp ps_retN ?_
  rintro D σ H ⟨M, env, fl, e, hp, q, k⟩
  cases q
  exact k .non σ H ((Post.refl e).st hp) rfl trivial
theorem pz_expr {a : Expr} {pos : Pos} {fa : SE} (ha : PE X a (tEv X.K G fa)) (hs : swapsWith a none pos.line X.env = pure false) : PS X (.Expr a pos) (tSv X.K G io (zDrop io fa)) := by
  refine PS.imp (ps_expr ha hs) ?_
  rintro D σ H ⟨M, env, fl, e, hp, q, k⟩
  unfold zDrop at q
  split at q <;> try cases q
  rename_i r e1 q1
  split at q <;> try cases q
  rename_i hb
  exact tEv_run e q1 fun v H' p z n => k σ H' (p.st (pinB_ok hb))
theorem pz_ifS {c : Expr} {a b : List Stmt} {pos : Pos} {t : ST} {f g : SS} (hc : PT X c (tTv X.K G t)) (ha : PSs X a (tSv X.K G io f)) (hb : PSs X b (tSv X.K G io g)) : PS X (.If c a b pos) (tSv X.K G io (zIfS io t f g)) := by
  refine PS.imp (ps_if hc ha hb) ?_
  rintro D σ H ⟨M, env, fl, e, hp, q, k⟩
  unfold zIfS at q
  split at q <;> try cases q
  · rename_i e1 q1
    split at q <;> try cases q
    rename_i hb
    refine tTv_run e q1 fun H1 p => ?_
    rw [if_pos rfl]
    exact tSv_run p.env (pinB_ok hb) q (Cnt.back (p.st (pinB_ok hb)) k)
  · rename_i e1 q1
    split at q <;> try cases q
    rename_i hb
    refine tTv_run e q1 fun H1 p => ?_
    rw [if_neg Bool.false_ne_true]
    exact tSv_run p.env (pinB_ok hb) q (Cnt.back (p.st (pinB_ok hb)) k)

/-- a shared value to a slot -/
theorem set_sh {M : Addr → Prop} {σ : L2.St} {H : Hp} {env : En} {i : Nat} {v : V} {d : Dat} (e : REnv X.K G M σ H env) (hi : i < env.length) (hp : PinOk io env) (h0 : io = true → i ≠ 0) (h : RelD X.K G (NN M σ env) H v d) :
    PostS X.K G io M σ H env (σ.set i (some v)) H (env.set i (some (.sh d))) := by
  have hi' : i < σ.length := by rw [e.len]; exact hi
  have self : (env.set i (some (Sl.sh d)))[i]? = some (some (Sl.sh d)) := List.getElem?_set_self hi
  have other : ∀ (j : Nat), j ≠ i → (env.set i (some (Sl.sh d)))[j]? = env[j]? := fun j hj => List.getElem?_set_ne (Ne.symm hj)
  have selfσ : (σ.set i (some v))[i]? = some (some v) := List.getElem?_set_self hi'
  have otherσ : ∀ (j : Nat), j ≠ i → (σ.set i (some v))[j]? = σ[j]? := fun j hj => List.getElem?_set_ne (Ne.symm hj)
  have owd : ∀ (j : Nat) (d' : Dat), (env.set i (some (Sl.sh d)))[j]? = some (some (Sl.ow d')) → j ≠ i ∧ env[j]? = some (some (Sl.ow d')) := fun j d' q => by
    by_cases hj : j = i
    · rw [hj, self] at q
      cases q
    · rw [other j hj] at q
      exact ⟨hj, q⟩
  have own : ∀ b, Own (σ.set i (some v)) (env.set i (some (Sl.sh d))) b → Own σ env b := fun b ⟨j, d', q1, q2⟩ => by
    obtain ⟨hj, q3⟩ := owd j d' q1
    rw [otherσ j hj] at q2
    exact ⟨j, d', q3, q2⟩
  have up : Up (NN M σ env) H (NN M (σ.set i (some v)) (env.set i (some (Sl.sh d)))) H := less_up fun b z => z.imp id (own b)
  refine ⟨(Sam.refl H).fr, fun b z => .inl (own b z), ⟨by simpa using e.len, fun j d' q => ?_, fun j d' q => ?_, fun j k d1 d2 b q1 q2 q3 q4 => ?_, e.live, e.tab⟩, fun hio => ⟨otherσ 0 (Ne.symm (h0 hio)), by rw [other 0 (Ne.symm (h0 hio))]; exact hp hio⟩⟩
  · by_cases hj : j = i
    · rw [hj, self] at q
      cases q
      rw [hj]
      exact ⟨v, selfσ, h.up up⟩
    · rw [other j hj] at q
      obtain ⟨w, q1, q2⟩ := e.sh j d' q
      exact ⟨w, by rw [otherσ j hj]; exact q1, q2.up up⟩
  · obtain ⟨hj, q'⟩ := owd j d' q
    obtain ⟨b, q1, q2, q3⟩ := e.ow j d' q'
    exact ⟨b, by rw [otherσ j hj]; exact q1, q2, q3.up (fun _ _ e => e) up⟩
  · obtain ⟨hj, g1⟩ := owd j d1 q1
    obtain ⟨hk, g2⟩ := owd k d2 q2
    rw [otherσ j hj] at q3
    rw [otherσ k hk] at q4
    exact e.inj j k d1 d2 b g1 g2 q3 q4
/-- an object of one's own to a slot -/
theorem set_ow {M : Addr → Prop} {σ σ0 : L2.St} {H0 H : Hp} {env env0 : En} {i : Nat} {v : V} {d : Dat} (p : PostS X.K G io M σ0 H0 env0 σ H env) (hi : i < env.length) (h0 : io = true → i ≠ 0) (h : ResOk X.K G M σ H env v (.fresh d)) (n : New H0 v (.fresh d)) :
    PostS X.K G io M σ0 H0 env0 (σ.set i (some v)) H (env.set i (some (.ow d))) := by
  have e := p.env
  obtain ⟨a, rfl, na, er, oa⟩ := h
  obtain ⟨a', e', n0⟩ := n
  cases e'
  have hi' : i < σ.length := by rw [e.len]; exact hi
  have self : (env.set i (some (Sl.ow d)))[i]? = some (some (Sl.ow d)) := List.getElem?_set_self hi
  have other : ∀ (j : Nat), j ≠ i → (env.set i (some (Sl.ow d)))[j]? = env[j]? := fun j hj => List.getElem?_set_ne (Ne.symm hj)
  have selfσ : (σ.set i (some (V.ref a)))[i]? = some (some (V.ref a)) := List.getElem?_set_self hi'
  have otherσ : ∀ (j : Nat), j ≠ i → (σ.set i (some (V.ref a)))[j]? = σ[j]? := fun j hj => List.getElem?_set_ne (Ne.symm hj)
  have own : ∀ b, Own (σ.set i (some (V.ref a))) (env.set i (some (Sl.ow d))) b → Own σ env b ∨ b = a := fun b ⟨j, d', q1, q2⟩ => by
    by_cases hj : j = i
    · rw [hj, selfσ] at q2
      cases q2
      exact .inr rfl
    · rw [other j hj] at q1
      rw [otherσ j hj] at q2
      exact .inl ⟨j, d', q1, q2⟩
  have up : Up (NN (fun b => M b ∨ b = a) σ env) H (NN M (σ.set i (some (V.ref a))) (env.set i (some (Sl.ow d)))) H := less_up fun b z => by
    rcases z with z | z
    · exact .inl (.inl z)
    · rcases own b z with z | z
      · exact .inr z
      · exact .inl (.inr z)
  have naO : ¬ Own σ env a := fun z => na (.inr z)
  refine ⟨p.fr, fun b z => (own b z).elim (p.own b) fun z => .inr (by rw [z]; exact n0), ⟨by simpa using e.len, fun j d' q => ?_, fun j d' q => ?_, fun j k d1 d2 b q1 q2 q3 q4 => ?_, e.live, e.tab⟩,
    fun hio => ⟨(otherσ 0 (Ne.symm (h0 hio))).trans (p.pin hio).1, by rw [other 0 (Ne.symm (h0 hio))]; exact (p.pin hio).2⟩⟩
  · by_cases hj : j = i
    · rw [hj, self] at q
      cases q
    · rw [other j hj] at q
      obtain ⟨w, q1, q2⟩ := er.sh j d' q
      exact ⟨w, by rw [otherσ j hj]; exact q1, q2.up up⟩
  · by_cases hj : j = i
    · rw [hj, self] at q
      cases q
      rw [hj]
      exact ⟨a, selfσ, fun z => na (.inl z), oa.up (fun _ _ e => e) up⟩
    · rw [other j hj] at q
      obtain ⟨b, q1, q2, q3⟩ := er.ow j d' q
      exact ⟨b, by rw [otherσ j hj]; exact q1, fun z => q2 (.inl z), q3.up (fun _ _ e => e) up⟩
  · by_cases hj : j = i
    · by_cases hk : k = i
      · rw [hj, hk]
      · rw [hj, selfσ] at q3
        cases q3
        rw [other k hk] at q2
        rw [otherσ k hk] at q4
        exact absurd ⟨k, d2, q2, q4⟩ naO
    · by_cases hk : k = i
      · rw [hk, selfσ] at q4
        cases q4
        rw [other j hj] at q1
        rw [otherσ j hj] at q3
        exact absurd ⟨j, d1, q1, q3⟩ naO
      · rw [other j hj] at q1
        rw [otherσ j hj] at q3
        rw [other k hk] at q2
        rw [otherσ k hk] at q4
        exact e.inj j k d1 d2 b q1 q2 q3 q4
theorem put_ok {M : Addr → Prop} {σ σ0 : L2.St} {H0 H : Hp} {env env0 e2 : En} {i : Nat} {v : V} {r : R} (p : PostS X.K G io M σ0 H0 env0 σ H env) (h : ResOk X.K G M σ H env v r) (n : New H0 v r) (q : put io i r env = some e2) :
    PostS X.K G io M σ0 H0 env0 (σ.set i (some v)) H e2 := by
  unfold put at q
  split at q <;> try cases q
  rename_i hc
  simp only [Bool.or_eq_true, Bool.and_eq_true, beq_iff_eq, Bool.not_eq_true', decide_eq_false_iff_not, not_or, Decidable.not_not] at hc
  obtain ⟨hc1, hi⟩ := hc
  have h0 : io = true → i ≠ 0 := fun a b => hc1 ⟨a, b⟩
  cases r with
  | val d =>
    cases q
    exact p.trans (set_sh p.env hi (PinOk.of p) h0 h)
  | fresh d =>
    cases q
    exact set_ow p hi h0 h n
  | bor j =>
    dsimp only at q
    split at q <;> try cases q
    rename_i d e1 q1
    split at q <;> try cases q
    rename_i hb
    obtain ⟨p2, z2⟩ := esc_ok p.env h q1
    exact (p.trans (p2.st (pinB_ok hb))).trans (set_sh p2.env (by rw [p2.shp.len]; exact hi) (pinB_ok hb) h0 z2)
theorem pz_set {x : Str} {a : Expr} {pos pos' : Pos} {i : Nat} {fa : SE} (hN : X.N.Nodup) (hi : X.N[i]? = some x) (hx : Loc X.env.scope x) (ha : PE X a (tEv X.K G fa)) (hs : swapsWith a (some (.Name x pos')) pos.line X.env = pure false)
    (hf : X.fn x = true ∨ X.env.scope.names.lookup x = some .local) : PS X (.Assign [.Name x pos'] a pos) (tSv X.K G io (zSet io i fa)) := by
  refine PS.imp (ps_set hN hi hx ha hs hf) ?_
  rintro D σ H ⟨M, env, fl, e, hp, q, k⟩
  unfold zSet at q
  split at q <;> try cases q
  rename_i r e1 q1
  split at q <;> try cases q
  rename_i hb
  split at q <;> try cases q
  rename_i e2 q2
  exact tEv_run e q1 fun v H' p z n => k _ H' (put_ok (p.st (pinB_ok hb)) z n q2)

/-! ### a def -/
/-- the end of a body -/
def fin (io : Bool) : Fl → Option (Dat × Bool × Dat)
  | .next e => match io, e[0]? with
    | false, _ => some (.non, false, .non)
    | true, some (some (Sl.ow l)) => some (.non, false, l)
    | _, _ => none
  | .ret r e => match io, e[0]? with
    | true, some (some (Sl.ow l)) => (match r with
      | .val d => some (d, false, l)
      | .fresh d => some (d, true, l)
      | .bor j => if j = 0 then none else match e[j]? with
        | some (some (Sl.ow d)) => some (d, true, l)
        | some (some (Sl.sh d)) => some (d, false, l)
        | _ => none)
    | true, _ => none
    | false, _ => (match r with
      | .val d => some (d, false, .non)
      | .fresh d => some (d, true, .non)
      | .bor j => match e[j]? with
        | some (some (Sl.ow d)) => some (d, true, .non)
        | some (some (Sl.sh d)) => some (d, false, .non)
        | _ => none)
  | _ => none
/-- a body's meaning, from the arguments: n slots -/
def zDef (n : Nat) (io : Bool) (f : SS) (ds : List Dat) : Option (Dat × Bool × Dat) := match f (argEnv io ds ++ List.replicate (n - ds.length) none) with
  | some fl => fin io fl
  | none => none
theorem own_ext {σ : L2.St} {env : En} {m : Nat} {ws : L2.St} {b : Addr} (hl : σ.length = env.length) : Own (σ ++ ws) (env ++ List.replicate m none) b ↔ Own σ env b := by
  constructor
  · rintro ⟨i, d, h1, h2⟩
    by_cases hi : i < env.length
    · rw [List.getElem?_append_left hi] at h1
      rw [List.getElem?_append_left (by omega)] at h2
      exact ⟨i, d, h1, h2⟩
    · rw [List.getElem?_append_right (by omega), List.getElem?_replicate] at h1
      split at h1 <;> cases h1
  · rintro ⟨i, d, h1, h2⟩
    have hi : i < env.length := (List.getElem?_eq_some_iff.mp h1).1
    exact ⟨i, d, by rw [List.getElem?_append_left hi]; exact h1, by rw [List.getElem?_append_left (by omega)]; exact h2⟩
theorem env_ext {K : PySem.W.Frag} {G : GG} {M : Addr → Prop} {σ : L2.St} {H : Hp} {env : En} {m : Nat} (e : REnv K G M σ H env) : REnv K G M (σ ++ List.replicate m none) H (env ++ List.replicate m none) := by
  have nn : ∀ b, NN M (σ ++ List.replicate m none) (env ++ List.replicate m none) b → NN M σ env b := fun b z => z.imp id (own_ext e.len).mp
  have get : ∀ (i : Nat) (s : Sl), (env ++ List.replicate m none)[i]? = some (some s) → env[i]? = some (some s) ∧ (σ ++ List.replicate m none)[i]? = σ[i]? := fun i s h => by
    by_cases hi : i < env.length
    · rw [List.getElem?_append_left hi] at h
      exact ⟨h, List.getElem?_append_left (by rw [e.len]; exact hi)⟩
    · rw [List.getElem?_append_right (by omega), List.getElem?_replicate] at h
      split at h <;> cases h
  refine ⟨by simp [e.len], fun i d h => ?_, fun i d h => ?_, fun i j d d' a h1 h2 h3 h4 => ?_, e.live, e.tab⟩
  · obtain ⟨h1, h2⟩ := get i _ h
    obtain ⟨v, h3, h4⟩ := e.sh i d h1
    exact ⟨v, h2.trans h3, h4.up (less_up nn)⟩
  · obtain ⟨h1, h2⟩ := get i _ h
    obtain ⟨v, h3, h4, h5⟩ := e.ow i d h1
    exact ⟨v, h2.trans h3, h4, h5.up (fun _ _ e => e) (less_up nn)⟩
  · obtain ⟨g1, g2⟩ := get i _ h1
    obtain ⟨g3, g4⟩ := get j _ h2
    exact e.inj i j d d' a g1 g3 (g2.symm.trans h3) (g4.symm.trans h4)
end
end Zz
end

section
set_option Elab.async false
set_option linter.all false
set_option maxRecDepth 100000
namespace Zz
open PySem PySem.Spec PyProof.Rows L2
section
variable {K : PySem.W.Frag} {G : GG} {M M' : Addr → Prop} {σ' σ0 : L2.St} {H H' : Hp} {e' : En} {io : Bool} {l : Dat}
/-- only the first slot, where it is the caller's -/
theorem out_env (r : REnv K G M' σ' H' e') (hp : io = true → σ'[0]? = σ0[0]? ∧ e'[0]? = some (some (Sl.ow l))) :
    REnv K G M' (σ0.take (outEnv io l).length) H' (outEnv io l) ∧ (∀ b, NN M' (σ0.take (outEnv io l).length) (outEnv io l) b → NN M' σ' e' b) := by
  cases io with
  | false =>
    have nn : ∀ b, NN M' (σ0.take (outEnv false l).length) (outEnv false l) b → NN M' σ' e' b := fun b z => z.elim .inl fun z => (own_nil z).elim
    refine ⟨⟨by simp [outEnv], fun i d h => by simp [outEnv] at h, fun i d h => by simp [outEnv] at h, fun i j d d' a h => by simp [outEnv] at h, r.live, r.tab⟩, nn⟩
  | true =>
    obtain ⟨h1, h2⟩ := hp rfl
    obtain ⟨a, h3, h4, h5⟩ := r.ow 0 l h2
    rw [h1] at h3
    have t0 : (σ0.take (outEnv true l).length)[0]? = some (some (V.ref a)) := by
      rw [← h3]
      simp [outEnv]
    have nn : ∀ b, NN M' (σ0.take (outEnv true l).length) (outEnv true l) b → NN M' σ' e' b := fun b z => z.elim .inl fun ⟨i, d, q1, q2⟩ => by
      cases i with
      | zero =>
        rw [t0] at q2
        cases q2
        exact .inr ⟨0, l, h2, h1.trans h3⟩
      | succ i => simp [outEnv] at q1
    refine ⟨⟨?_, fun i d h => ?_, fun i d h => ?_, fun i j d d' b q1 q2 _ _ => ?_, r.live, r.tab⟩, nn⟩
    · cases σ0 with
      | nil => simp at h3
      | cons x y => simp [outEnv]
    · cases i with
      | zero => simp [outEnv] at h
      | succ i => simp [outEnv] at h
    · cases i with
      | zero =>
        simp [outEnv] at h
        subst h
        exact ⟨a, t0, h4, h5.up (fun _ _ e => e) (less_up nn)⟩
      | succ i => simp [outEnv] at h
    · cases i with
      | zero =>
        cases j with
        | zero => rfl
        | succ j => simp [outEnv] at q2
      | succ i => simp [outEnv] at q1
end
section
variable {P : Program} {w : World} {K : PySem.W.Frag} {G : GG} {base : Heap}
theorem fn_len {fs : FS} {vs : List V} {H : Hp} {Q : VK} {E : XK} (h : SpF K G fs vs H Q E) : vs.length = fs.ar := by
  obtain ⟨M, ds, d, fr, l, h1, h2, _⟩ := h
  have := h2.len
  rw [List.length_map, argEnv_len] at this
  exact this.trans h1
theorem def_core {N : List Str} {fs : FS} {g : SS} (hpos : fs.io = true → 0 < fs.ar) (run : ∀ ds out, ds.length = fs.ar → fs.run ds = some out → zDef N.length fs.io g ds = some out) {vs : List V} {H : Hp} {Q : VK} {E : XK} (h : SpF K G fs vs H Q E) :
    tSv K G fs.io g { nx := fun _ H' => Q .non H', rt := Q } (L2.start N vs) H := by
  have hvl := fn_len h
  obtain ⟨M, ds, d, fr, l, hl, re, hrun, k⟩ := h
  have q := run ds (d, fr, l) hl hrun
  unfold zDef at q
  split at q <;> try cases q
  rename_i fl hg
  have hlen : vs.length = ds.length := hvl.trans hl.symm
  have hst : L2.start N vs = vs.map some ++ List.replicate (N.length - ds.length) none := by unfold L2.start; rw [hlen]
  have re0 : REnv K G M (L2.start N vs) H (argEnv fs.io ds ++ List.replicate (N.length - ds.length) none) := by rw [hst]; exact env_ext re
  have own0 : ∀ b, Own (L2.start N vs) (argEnv fs.io ds ++ List.replicate (N.length - ds.length) none) b ↔ Own (vs.map some) (argEnv fs.io ds) b := fun b => by rw [hst]; exact own_ext re.len
  have ne : fs.io = true → ∃ v0 vr d0 dr, vs = v0 :: vr ∧ ds = d0 :: dr := fun hio => by
    have := hpos hio
    cases ds with
    | nil => simp at hl; omega
    | cons d0 dr =>
      cases vs with
      | nil => simp at hlen
      | cons v0 vr => exact ⟨v0, vr, d0, dr, rfl, rfl⟩
  have start0 : fs.io = true → (L2.start N vs)[0]? = (vs.map some)[0]? := fun hio => by
    obtain ⟨v0, vr, d0, dr, rfl, rfl⟩ := ne hio
    rw [hst]
    simp
  have pin0 : PinOk fs.io (argEnv fs.io ds ++ List.replicate (N.length - ds.length) none) := fun hio => by
    obtain ⟨v0, vr, d0, dr, rfl, rfl⟩ := ne hio
    exact ⟨d0, by rw [hio]; simp [argEnv]⟩
  have fr0 : ∀ {H' : Hp}, Fr (Own (L2.start N vs) (argEnv fs.io ds ++ List.replicate (N.length - ds.length) none)) H H' → Fr (Own (vs.map some) (argEnv fs.io ds)) H H' := fun z => ⟨fun b o nt e n => z.k b o nt e fun y => n ((own0 b).mp y), z.l, z.t⟩
  -- what the end's slots say
  have back : ∀ {σ' : L2.St} {H' : Hp} {e' : En} {M' : Addr → Prop}, PostS K G fs.io M (L2.start N vs) H (argEnv fs.io ds ++ List.replicate (N.length - ds.length) none) σ' H' e' → (fs.io = true → e'[0]? = some (some (Sl.ow l))) → REnv K G M' σ' H' e' →
      REnv K G M' ((vs.map some).take (outEnv fs.io l).length) H' (outEnv fs.io l) ∧ (∀ b, NN M' ((vs.map some).take (outEnv fs.io l).length) (outEnv fs.io l) b → NN M' σ' e' b) := fun p h r =>
    out_env r fun hio => ⟨(p.pin hio).1.trans (start0 hio), h hio⟩
  refine ⟨M, _, fl, re0, pin0, hg, ?_⟩
  cases fl with
  | brk e' => cases q
  | cnt e' => cases q
  | next e' =>
    intro σ' H' p
    have hq : d = .non ∧ fr = false ∧ (fs.io = true → e'[0]? = some (some (Sl.ow l))) := by
      cases hio : fs.io with
      | false =>
        simp only [fin, hio] at q
        cases q
        exact ⟨rfl, rfl, fun z => by cases z⟩
      | true =>
        obtain ⟨l0, hl0⟩ := (p.pin hio).2
        simp only [fin, hio, hl0] at q
        cases q
        exact ⟨rfl, rfl, fun _ => hl0⟩
    obtain ⟨rfl, rfl, h0⟩ := hq
    obtain ⟨ro, _⟩ := back p h0 p.env
    exact k .non H' (fr0 p.fr) ro rfl trivial
  | ret r e' =>
    intro v σ' H' p z n
    have val : ∀ (d' : Dat), some (d', false, l) = some (d, fr, l) → (fs.io = true → e'[0]? = some (some (Sl.ow l))) → RelD K G (NN M σ' e') H' v d' → Q v H' := fun d' e h0 hr => by
      cases e
      obtain ⟨ro, nn⟩ := back p h0 p.env
      exact k v H' (fr0 p.fr) ro (hr.up (less_up nn)) trivial
    have frs : ∀ (d' : Dat), some (d', true, l) = some (d, fr, l) → (fs.io = true → e'[0]? = some (some (Sl.ow l))) → (∃ a, v = .ref a ∧ H a = none ∧ ¬ M a ∧ (fs.io = true → (vs.map some)[0]? ≠ some (some (V.ref a))) ∧ H' a ≠ none ∧
        REnv K G (fun b => M b ∨ b = a) ((vs.map some).take (outEnv fs.io l).length) H' (outEnv fs.io l) ∧ OwnAt K G (NN (fun b => M b ∨ b = a) ((vs.map some).take (outEnv fs.io l).length) (outEnv fs.io l)) H' a d') → Q v H' := fun d' e h0 hr => by
      cases e
      obtain ⟨ro, nn⟩ := back p h0 p.env
      obtain ⟨a, rfl, ha, nM, n0, hl', r1, o1⟩ := hr
      refine k _ H' (fr0 p.fr) ro ⟨a, rfl, fun z => ?_, r1, o1⟩ ⟨a, rfl, ha⟩
      rcases z with z | ⟨i, d'', q1, q2⟩
      · exact nM z
      · cases hio : fs.io with
        | false => rw [hio] at q1; simp [outEnv] at q1
        | true =>
          rw [hio] at q1 q2
          cases i with
          | succ i => simp [outEnv] at q1
          | zero =>
            apply n0 hio
            obtain ⟨v0, vr, d0, dr, rfl, rfl⟩ := ne hio
            simpa [outEnv] using q2
    have fresh : ∀ (d' : Dat), some (d', true, l) = some (d, fr, l) → (fs.io = true → e'[0]? = some (some (Sl.ow l))) → ResOk K G M σ' H' e' v (.fresh d') → New H v (.fresh d') → Q v H' := fun d' e h0 ⟨a, e1, na, ra, oa⟩ ⟨a', e2, ha⟩ => by
      subst e1
      cases e2
      obtain ⟨ro, nn⟩ := back p h0 ra
      obtain ⟨u, hu⟩ := oa.some
      refine frs d' e h0 ⟨a, rfl, ha, fun z => na (.inl z), fun hio z => na (.inr ⟨0, l, h0 hio, ?_⟩), (by rw [hu]; exact fun z => by cases z), ro, oa.up (fun _ _ e => e) (less_up nn)⟩
      rw [(p.pin hio).1, start0 hio]
      exact z
    -- a slot's own object, handed out
    have owned : ∀ (j : Nat) (d' : Dat), some (d', true, l) = some (d, fr, l) → (fs.io = true → e'[0]? = some (some (Sl.ow l)) ∧ j ≠ 0) → e'[j]? = some (some (Sl.ow d')) → σ'[j]? = some (some v) → Q v H' := fun j d' e h0 hj hv => by
      obtain ⟨a, h1, h2, h3⟩ := p.env.ow j d' hj
      rw [hv] at h1
      cases h1
      have n0 : fs.io = true → (vs.map some)[0]? ≠ some (some (V.ref a)) := fun hio z => (h0 hio).2 (p.env.inj j 0 d' l a hj (h0 hio).1 hv (by rw [(p.pin hio).1, start0 hio]; exact z))
      have ha : H a = none := by
        rcases p.own a ⟨j, d', hj, hv⟩ with z | z
        · obtain ⟨i, d'', q1, q2⟩ := (own0 a).mp z
          cases hio : fs.io with
          | false => rw [hio] at q1; exact (own_f ⟨i, d'', q1, q2⟩).elim
          | true =>
            rw [hio] at q1
            obtain ⟨v0, vr, d0, dr, rfl, rfl⟩ := ne hio
            cases i with
            | zero => exact absurd q2 (n0 hio)
            | succ i => simp [argEnv] at q1
        · exact z
      obtain ⟨u, hu⟩ := h3.some
      have hl' : H' a ≠ none := by rw [hu]; exact fun z => by cases z
      have own1 : ∀ b, Own ((vs.map some).take (outEnv fs.io l).length) (outEnv fs.io l) b → Own σ' e' b := fun b ⟨i, d'', q1, q2⟩ => by
        cases hio : fs.io with
        | false => rw [hio] at q1; simp [outEnv] at q1
        | true =>
          rw [hio] at q1 q2
          cases i with
          | succ i => simp [outEnv] at q1
          | zero =>
            refine ⟨0, l, (h0 hio).1, ?_⟩
            rw [(p.pin hio).1, start0 hio]
            obtain ⟨v0, vr, d0, dr, rfl, rfl⟩ := ne hio
            simpa [outEnv] using q2
      have nn2 : ∀ b, NN (fun b => M b ∨ b = a) ((vs.map some).take (outEnv fs.io l).length) (outEnv fs.io l) b → NN M σ' e' b := fun b z => by
        rcases z with (z | z) | z
        · exact .inl z
        · rw [z]; exact .inr ⟨j, d', hj, hv⟩
        · exact .inr (own1 b z)
      refine frs d' e (fun hio => (h0 hio).1) ⟨a, rfl, ha, h2, n0, hl', ?_, h3.up (fun _ _ e => e) (less_up nn2)⟩
      obtain ⟨ro, _⟩ := back p (fun hio => (h0 hio).1) p.env
      refine ⟨ro.len, fun i d'' q1 => ?_, fun i d'' q1 => ?_, ro.inj, fun b z => z.elim (p.env.live b) fun z => (by rw [z]; exact hl'), p.env.tab⟩
      · cases hio : fs.io with
        | false => rw [hio] at q1; simp [outEnv] at q1
        | true =>
          rw [hio] at q1
          cases i <;> simp [outEnv] at q1
      · obtain ⟨b, g1, g2, g3⟩ := ro.ow i d'' q1
        refine ⟨b, g1, fun z => z.elim g2 fun z => ?_, ?_⟩
        · cases hio : fs.io with
          | false => rw [hio] at q1; simp [outEnv] at q1
          | true =>
            rw [hio] at q1 g1
            cases i with
            | succ i => simp [outEnv] at q1
            | zero =>
              subst z
              apply n0 hio
              obtain ⟨v0, vr, d0, dr, rfl, rfl⟩ := ne hio
              simpa [outEnv] using g1
        · cases hio : fs.io with
          | false => rw [hio] at q1; simp [outEnv] at q1
          | true =>
            obtain ⟨b', k1, k2, k3⟩ := p.env.ow 0 l (h0 hio).1
            have e2 : d'' = l ∧ b' = b := by
              rw [hio] at q1 g1
              cases i with
              | succ i => simp [outEnv] at q1
              | zero =>
                refine ⟨by simp [outEnv] at q1; exact q1.symm, ?_⟩
                rw [(p.pin hio).1, start0 hio] at k1
                obtain ⟨v0, vr, d0, dr, rfl, rfl⟩ := ne hio
                have g1' : some v0 = some (V.ref b) := by simpa [outEnv] using g1
                have k1' : some v0 = some (V.ref b') := by simpa using k1
                rw [g1'] at k1'
                cases k1'
                rfl
            obtain ⟨rfl, rfl⟩ := e2
            rw [hio] at nn2
            exact k3.up (fun _ _ e => e) (less_up nn2)
    unfold fin at q
    cases hio : fs.io with
    | false =>
      simp only [hio] at q
      cases r with
      | val d' =>
        cases q
        exact val _ rfl (fun z => by rw [hio] at z; cases z) z
      | fresh d' =>
        cases q
        exact fresh _ rfl (fun z => by rw [hio] at z; cases z) z n
      | bor j =>
        obtain ⟨z1, s, z2⟩ := z
        dsimp only at q
        rw [z2] at q
        cases s with
        | ow d' =>
          cases q
          exact owned j _ rfl (fun z => by rw [hio] at z; cases z) z2 z1
        | sh d' =>
          cases q
          obtain ⟨w', g1, g2⟩ := p.env.sh j _ z2
          rw [z1] at g1
          cases g1
          exact val _ rfl (fun z => by rw [hio] at z; cases z) g2
    | true =>
      simp only [hio] at q
      obtain ⟨l0, hl0⟩ := (p.pin hio).2
      rw [hl0] at q
      cases r with
      | val d' =>
        cases q
        exact val _ rfl (fun _ => hl0) z
      | fresh d' =>
        cases q
        exact fresh _ rfl (fun _ => hl0) z n
      | bor j =>
        obtain ⟨z1, s, z2⟩ := z
        dsimp only at q
        split at q <;> try cases q
        rename_i hj
        rw [z2] at q
        cases s with
        | ow d' =>
          cases q
          exact owned j _ rfl (fun _ => ⟨hl0, hj⟩) z2 z1
        | sh d' =>
          cases q
          obtain ⟨w', g1, g2⟩ := p.env.sh j _ z2
          rw [z1] at g1
          cases g1
          exact val _ rfl (fun _ => hl0) g2
theorem def_ok {x qual : Str} {st : Stmt} {f : Addr} {fd : FuncData} {N ps : List Str} {k : Nat} {fs : FS} {g : SS} (F : Fun K x qual st f fd) (S : FnScope N ps (defScope st)) (har : fs.ar = ps.length) (hpos : fs.io = true → 0 < fs.ar)
    (body : ∀ (cdv : Value) (A : Around) (outer : List Env) (s : Shared) (H : Hp) (E : XK), Room k (A.deeper (envOfC qual (defScope st) s.heap.objs.size f cdv)) →
      PSs (cxOf CX0 P w K G.mg base N qual (defScope st) f cdv A outer s H E).nox (defBody st) (tSv K G fs.io g))
    (run : ∀ ds out, ds.length = fs.ar → fs.run ds = some out → zDef N.length fs.io g ds = some out) : FnOk P w K G.mg base CX0 (k + 1) f fd ps (SpF K G fs) :=
  F.ok S (fun vs H Q E h => (fn_len h).trans har) fun cdv A outer s H vs Q E hr h => ⟨tSv K G fs.io g, body cdv A outer s H E hr, def_core hpos run h⟩
end
end Zz
end

section
set_option Elab.async false
set_option linter.all false
set_option maxRecDepth 100000
/-! what is walked: enumerate of a tuple -/
namespace Zz
open PySem PySem.Spec PyProof.Rows L2

set_option maxHeartbeats 1000000 in
theorem meets_enum1 {v : Value} {o : Obj} {H : Heap → Prop} (B : Begins v o H) :
    Meets (Builtin.«enumerate.__new__» ⟨[.type "enumerate", v], []⟩) (fun _ R s => H s.heap ∧
      R (.ok (.ret (.ref (s.heap.push o).objs.size))) { s with heap := (s.heap.push o).push { cls := .type "enumerate", data := .fields #[.none, .bool false, .ref s.heap.objs.size, rawInt 0, .none, .none] } }) :=
  .of_wp fun prog w A R s h => by
    obtain ⟨hp, g, d, tk, os⟩ := s; obtain ⟨h1, h⟩ := h
    have hsub := sub_enumerate
    have q1 : ∀ {A' : Around} {E : Value → Shared → Prop} {Q : Value → Shared → Prop}, Q (.ref hp.objs.size) ⟨hp.push o, g, d, tk, os⟩ → wpAny (model prog w) A' (pyIter v) Q E ⟨hp, g, d, tk, os⟩ :=
      fun q => B.iter prog w _ _ ⟨hp, g, d, tk, os⟩ _ h1 q
    wp_walk using q1
    refine wpAny_stack_any fun st => wpAny_pure ?_
    split
    · rename_i c _ _ _ _ _
      cases (c == Value.type "enumerate")
      · wp_walk using q1
        exact ⟨_, rfl, h⟩
      · wp_walk using q1
        exact ⟨_, rfl, h⟩
    · wp_walk using q1
      exact ⟨_, rfl, h⟩
theorem enum_begins1 {prog : Program} {w : World} {A : Around} {E : Value → Shared → Prop} {s : Shared} {v : Value} {o : Obj} {H : Heap → Prop} {Q : Value → Shared → Prop} (B : Begins v o H) (h1 : H s.heap)
    (h : ∀ h', IsEnum h' (s.heap.objs.size + 1) s.heap.objs.size 0 .none → h'.get? s.heap.objs.size = some o → h'.objs.size = s.heap.objs.size + 2 →
      (∀ b o, s.heap.get? b = some o → h'.get? b = some o) → Q (.ref (s.heap.objs.size + 1)) { s with heap := h' }) :
    wpAny (model prog w) A (call (.type "enumerate") [v]) Q E s := by
  refine callType_new F.called_enumerate (by decide) (F.typeCall_enumerate_1 _) (F.newCall_enumerate_1 _) (fun obj => F.args_object_init_2 obj _) F.entry_enumerate_new
    (meets_enum1 B) ⟨h1, ?_⟩
  have hz : (s.heap.push o).objs.size = s.heap.objs.size + 1 := Heap.size_push ..
  show _ ∧ _
  rw [hz]
  have he : IsEnum ((s.heap.push o).push { cls := .type "enumerate", data := .fields #[.none, .bool false, .ref s.heap.objs.size, rawInt 0, .none, .none] }) (s.heap.objs.size + 1) s.heap.objs.size 0 .none := by
    have := Heap.get?_push_size (s.heap.push o) (o := { cls := .type "enumerate", data := .fields #[.none, .bool false, .ref s.heap.objs.size, rawInt 0, .none, .none] }) rfl
    rw [hz] at this; exact this
  refine ⟨⟨_, he, rfl⟩, h _ he (Heap.get?_push_of_some _ (Heap.get?_push_size _ B.free)) (by rw [Heap.size_push, hz]) fun b o x => Heap.get?_push_of_some _ (Heap.get?_push_of_some _ x)⟩

/-- the tuple at a, each item in a new pair with its place -/
def IteT (K : PySem.W.Frag) (a : Addr) : It :=
  ⟨fun i H => ∃ (xs : List V) (x : V), SqT K H a xs ∧ xs[i]? = some x, fun i H v H' => ∃ T x, v = .ref T ∧ H T = none ∧ H' = upd H T (.tup [.int (i : Nat), x]) ∧ ∀ xs, SqT K H a xs → xs[i]? = some x, fun i H => ∃ xs : List V, SqT K H a xs ∧ xs.length = i⟩
theorem turn_enumT {P : Program} {w : World} {K : PySem.W.Frag} {elts : List Expr} {kk : Nat} {tpos : Pos} (a e it : Addr) :
    Turn P w K (.Tuple elts kk tpos) (IteT K a) [e, it] e (fun i h => (∃ old, IsEnum h e it ((0 : Int) + (i : Nat)) old) ∧ h.IsTupleIter it a i ∧ e ≠ it) where
  mem := by simp
  obj := fun i h st b hb => by
    obtain ⟨⟨old, he⟩, ⟨o, ho, hc, hd⟩, _⟩ := st
    have e' : b = e ∨ b = it := by simpa using hb
    rcases e' with z | z
    · rw [z]; exact ⟨_, he, fun v q => nomatch q⟩
    · rw [z]; exact ⟨o, ho, fun v q => by rw [hd] at q; cases q⟩
  keep := fun i h h' st k => let ⟨⟨old, he⟩, hi, hne⟩ := st; ⟨⟨old, k e (by simp) _ he⟩, hi.at fun o q => k it (by simp) o q, hne⟩
  item := by
    intro X hP hw hK hc i pins s σ H E I hf st hg
    subst hP hw hK
    obtain ⟨⟨old, he⟩, hit, hne⟩ := st
    obtain ⟨xs, x, hq, hx⟩ := hg
    obtain ⟨its, rv, p, hz⟩ := I.tuple hq
    have p' : s.heap.IsTuple a its.toArray := p
    have hae : a ≠ it := fun z => by
      obtain ⟨o1, e1, c1, _⟩ := hit
      obtain ⟨o2, e2, c2, _⟩ := p'
      rw [z, e1] at e2
      cases e2
      rw [c1] at c2
      exact absurd c2 (by decide)
    have hea : e ≠ a := fun z => by
      obtain ⟨o2, e2, c2, _⟩ := p'
      have he' : s.heap.get? e = some _ := he
      rw [z, e2] at he'
      rw [Option.some.inj he'] at c2
      exact absurd (show Value.type "enumerate" = Value.type "tuple" from c2) (by decide)
    have G := GoesN.enumFrom (elts := elts) (x1 := kk) (pos := tpos) (prog := X.prog) (w := X.w) (A := X.A) 0 (Draws.tuple (prog := X.prog) (w := X.w) (A := X.A.in1) (I.ok.hd hc) it a hae its.toArray) e hne (by
      intro z
      have : e = it ∨ e = a := by simpa using z
      exact this.elim hne hea) (by simp)
    have hl := rv.length
    have hil : i < its.toArray.size := by
      have := (List.getElem?_eq_some_iff.mp hx).1
      simp
      omega
    refine thn (G.goes i s (fun v s2 => ∃ x H', Inv X pins σ H' s2 ∧ RelV x v ∧ (IteT X.K a).yld i H x H' ∧ ((∃ old, IsEnum s2.heap e it ((0 : Int) + ((i + 1 : Nat) : Int)) old) ∧ s2.heap.IsTupleIter it a (i + 1) ∧ e ≠ it) ∧ ∀ b ∈ [e, it], H' b = none) E hil ⟨⟨old, he⟩, hit, p'⟩ ?_) fun r s1 h => h
    intro v h' tk hY st' hk htk
    obtain ⟨T, t, x', rfl, hT, hx', hTt⟩ := hY
    obtain ⟨u, hu, ru⟩ := rv.get hx
    have ex : x' = u := by
      have e2 : its.toArray[i]? = some u := by simpa using hu
      rw [e2] at hx'
      cases hx'
      rfl
    subst ex
    have hel : e < s.heap.objs.size := Heap.lt_size he
    have hil2 : it < s.heap.objs.size := by obtain ⟨_, q, _⟩ := hit; exact Heap.lt_size q
    have new : ObjOk X.prog X.w (upd H T (.tup [.int (i : Nat), x])) h' T (.tup [.int (i : Nat), x]) :=
      ⟨by show 2 ≤ sizeLine; decide, [.int ((0 : Int) + (i : Int)) t, x'], .cons ⟨t, by rw [Int.zero_add]⟩ (.cons ru .nil), hTt⟩
    have I1 : Inv X pins σ (upd H T (.tup [.int (i : Nat), x])) { s with heap := h', toks := tk } := I.turnedNew (t' := tk) (ch := [e, it]) (fun b ob hb q => hk b ob hb q) hf hT new
    refine ⟨.ref T, _, I1, rfl, ⟨_, x, rfl, I.hok.fresh hT, rfl, fun ys hy => by rw [I.tuple_inj hy hq]; exact hx⟩, ⟨st'.1, st'.2.1, hne⟩, fun b hb => ?_⟩
    have hb' : b < s.heap.objs.size := by
      have e' : b = e ∨ b = it := by simpa using hb
      rcases e' with z | z
      · rw [z]; exact hel
      · rw [z]; exact hil2
    rw [upd_ne (Nat.ne_of_lt (Nat.lt_of_lt_of_le hb' hT))]
    exact (hf b hb).1
  done := by
    intro X hP hw hK hc i pins s σ H E I hf st hg
    subst hP hw hK
    obtain ⟨⟨old, he⟩, hit, hne⟩ := st
    obtain ⟨xs, hq, hx⟩ := hg
    obtain ⟨its, rv, p, hz⟩ := I.tuple hq
    have p' : s.heap.IsTuple a its.toArray := p
    have hae : a ≠ it := fun z => by
      obtain ⟨o1, e1, c1, _⟩ := hit
      obtain ⟨o2, e2, c2, _⟩ := p'
      rw [z, e1] at e2
      cases e2
      rw [c1] at c2
      exact absurd c2 (by decide)
    have hea : e ≠ a := fun z => by
      obtain ⟨o2, e2, c2, _⟩ := p'
      have he' : s.heap.get? e = some _ := he
      rw [z, e2] at he'
      rw [Option.some.inj he'] at c2
      exact absurd (show Value.type "enumerate" = Value.type "tuple" from c2) (by decide)
    have G := GoesN.enumFrom (elts := elts) (x1 := kk) (pos := tpos) (prog := X.prog) (w := X.w) (A := X.A) 0 (Draws.tuple (prog := X.prog) (w := X.w) (A := X.A.in1) (I.ok.hd hc) it a hae its.toArray) e hne (by
      intro z
      have : e = it ∨ e = a := by simpa using z
      exact this.elim hne hea) (by simp)
    have hl := rv.length
    have hn : its.toArray.size = i := by simp; omega
    exact G.stops s _ E (by rw [hn]; exact ⟨⟨old, he⟩, hit, p'⟩) fun h' tk hk _ => I.turnedL (t' := tk) (ch := [e, it]) (fun b o hb q => hk b o hb q) hf
  self := fun A i s Q E st h => let ⟨⟨_, he⟩, _⟩ := st; wpAny_pyIter_enum he h
def iEnumA (K : PySem.W.Frag) (ta : TA) : TI := fun σ H R => ta σ H fun vs H1 => ∃ a xs, vs = [.ref a] ∧ ((SqL K H1 a xs ∧ R (Ite K a) H1) ∨ (SqT K H1 a xs ∧ R (IteT K a) H1))
theorem pi_enumA {X : Cx} {e : Expr} {ta : TA} {p pos tpos : Pos} {elts : List Expr} {kk : Nat} (hg : Gl X "enumerate") (hm : X.mg "enumerate" = none) (ha : PA X [e] ta) (hs : starEach [e] X.env = [(false, eval e X.env)]) :
    PI X (.Tuple elts kk tpos) (.Call (.Name "enumerate" p) [e] [] pos) (iEnumA X.K ta) := by
  refine ⟨fun pins s σ H R I h => ?_⟩
  refine Call_ (ld_blt I hg hm boot_enumerate (PyProof.Rows.callWith_type1 (thn (ha.run pos pins s σ H _ I h) fun us s1 ⟨vs, H1, I1, r1, q1⟩ => ?_) hs rfl))
  obtain ⟨a, xs, ex, hq⟩ := q1
  subst ex
  cases r1 with
  | cons r rr =>
    cases rr
    cases r
    have fp2 : ∀ b ∈ [s1.heap.objs.size + 1, s1.heap.objs.size], FpOk X pins H1 b := fun b hb => by
      have e' : b = s1.heap.objs.size + 1 ∨ b = s1.heap.objs.size := by simpa using hb
      have hle : s1.heap.objs.size ≤ b := by
        rcases e' with z | z
        · rw [z]; exact Nat.le_add_right _ _
        · rw [z]; exact Nat.le_refl _
      exact I1.fpOk hle (I1.hok.fresh hle)
    rcases hq with ⟨hq, q⟩ | ⟨hq, q⟩
    · obtain ⟨its, rv, p', hz⟩ := I1.list hq
      refine call_enumerate_list p'.isList fun h' he hit hsz hk => wpAny_pyIter_enum he ?_
      have I2 : Inv X pins σ H1 { s1 with heap := h' } := I1.kept (t' := s1.toks) hk
      exact ⟨s1.heap.objs.size + 1, [s1.heap.objs.size + 1, s1.heap.objs.size], _, _, H1, rfl, I2, turn_enum a (s1.heap.objs.size + 1) s1.heap.objs.size, ⟨⟨.none, he⟩, hit, Nat.succ_ne_self _⟩, fp2, q⟩
    · obtain ⟨its, rv, p', hz⟩ := I1.tuple hq
      refine enum_begins1 (begins_tuple a its.toArray) (show s1.heap.IsTuple a its.toArray from p') fun h' he hit hsz hk => wpAny_pyIter_enum he ?_
      have I2 : Inv X pins σ H1 { s1 with heap := h' } := I1.kept (t' := s1.toks) hk
      exact ⟨s1.heap.objs.size + 1, [s1.heap.objs.size + 1, s1.heap.objs.size], _, _, H1, rfl, I2, turn_enumT a (s1.heap.objs.size + 1) s1.heap.objs.size, ⟨⟨.none, by simpa using he⟩, ⟨_, hit, rfl, rfl⟩, Nat.succ_ne_self _⟩, fp2, q⟩
end Zz
end

section
set_option Elab.async false
set_option linter.all false
set_option maxRecDepth 100000
namespace Zz
open PySem PySem.Spec PyProof.Rows L2

/-! ### what a loop walks -/
abbrev SI := En → Option (List Dat × En)
def JOk (K : PySem.W.Frag) (G : GG) (N : Addr → Prop) (H1 : Hp) (J : It) (ds : List Dat) : Prop := ∀ (N' : Addr → Prop) (H' : Hp), Up N H1 N' H' → (∀ b, N' b → H' b ≠ none) →
  (∀ (i : Nat) (d : Dat), ds[i]? = some d → J.go i H' ∧ ∀ x H'', J.yld i H' x H'' → Sam H' H'' ∧ RelD K G N' H'' x d) ∧ J.stop ds.length H'
def tIv (K : PySem.W.Frag) (G : GG) (f : SI) : TI := fun σ H R => ∃ (M : Addr → Prop) (env : En) (ds : List Dat) (env' : En), REnv K G M σ H env ∧ f env = some (ds, env') ∧
  ∀ J H', Post K G M σ H env H' env' → JOk K G (NN M σ env') H' J ds → R J H'
/-- a list, a tuple -/
def zIt (fa : SE) : SI := fun env => match fa env with
  | some (r, e1) => match esc e1 r with
    | some (.lst ds, e2) => some (ds, e2)
    | some (.tup ds, e2) => some (ds, e2)
    | _ => none
  | none => none
def inB (j : Int) : Bool := decide (-(2 ^ 62) ≤ j) && decide (j < 2 ^ 62)
theorem inB_ok {j : Int} (h : inB j = true) : -(2 ^ 62) ≤ j ∧ j < 2 ^ 62 := by
  unfold inB at h
  simpa using h
def rngD (lo : Int) : Nat → List Dat
  | 0 => []
  | n + 1 => .int lo :: rngD (lo + 1) n
theorem rngD_len : ∀ (n : Nat) (lo : Int), (rngD lo n).length = n
  | 0, _ => rfl
  | n + 1, lo => by simp [rngD, rngD_len n]
theorem rngD_get : ∀ (n : Nat) (lo : Int) (i : Nat) (d : Dat), (rngD lo n)[i]? = some d → i < n ∧ d = .int (lo + i)
  | 0, _, i, d, h => by simp [rngD] at h
  | n + 1, lo, 0, d, h => by
    simp [rngD] at h
    subst h
    exact ⟨by omega, by simp⟩
  | n + 1, lo, i + 1, d, h => by
    simp only [rngD, List.getElem?_cons_succ] at h
    obtain ⟨h1, h2⟩ := rngD_get n (lo + 1) i d h
    refine ⟨by omega, ?_⟩
    rw [h2]
    have e : lo + 1 + (i : Int) = lo + ((i + 1 : Nat) : Int) := by omega
    rw [e]
/-- range(a), range(a, b) -/
def zRng (fs : SA) : SI := fun env => match fs env with
  | some (rs, e1) => match rdvs e1 rs with
    | some [.int j] => if inB j then some (rngD 0 j.toNat, e1) else none
    | some [.int i, .int j] => if inB i && inB j then some (rngD i (j - i).toNat, e1) else none
    | _ => none
  | none => none
def zipD : List Dat → List Dat → List Dat
  | a :: as, b :: bs => .tup [a, b] :: zipD as bs
  | _, _ => []
theorem zipD_len : ∀ (as bs : List Dat), (zipD as bs).length = min as.length bs.length
  | [], _ => by simp [zipD]
  | _ :: _, [] => by simp [zipD]
  | a :: as, b :: bs => by simp only [zipD, List.length_cons, zipD_len as bs]; omega
theorem zipD_get : ∀ (as bs : List Dat) (i : Nat) (d : Dat), (zipD as bs)[i]? = some d → ∃ a b, as[i]? = some a ∧ bs[i]? = some b ∧ d = .tup [a, b]
  | [], _, _, _, h => by simp [zipD] at h
  | _ :: _, [], _, _, h => by simp [zipD] at h
  | a :: as, b :: bs, 0, d, h => by
    simp [zipD] at h
    exact ⟨a, b, rfl, rfl, h.symm⟩
  | a :: as, b :: bs, i + 1, d, h => by
    simp only [zipD, List.getElem?_cons_succ] at h
    obtain ⟨x, y, h1, h2, h3⟩ := zipD_get as bs i d h
    exact ⟨x, y, by simpa using h1, by simpa using h2, h3⟩
def enumD (i : Nat) : List Dat → List Dat
  | [] => []
  | a :: as => .tup [.int i, a] :: enumD (i + 1) as
theorem enumD_len : ∀ (as : List Dat) (k : Nat), (enumD k as).length = as.length
  | [], _ => rfl
  | a :: as, k => by simp [enumD, enumD_len as]
theorem enumD_get : ∀ (as : List Dat) (k i : Nat) (d : Dat), (enumD k as)[i]? = some d → ∃ a, as[i]? = some a ∧ d = .tup [.int ((k + i : Nat) : Int), a]
  | [], _, _, _, h => by simp [enumD] at h
  | a :: as, k, 0, d, h => by
    simp [enumD] at h
    exact ⟨a, rfl, h.symm⟩
  | a :: as, k, i + 1, d, h => by
    simp only [enumD, List.getElem?_cons_succ] at h
    obtain ⟨x, h1, h2⟩ := enumD_get as (k + 1) i d h
    refine ⟨x, by simpa using h1, ?_⟩
    rw [h2]
    have e : k + 1 + i = k + (i + 1) := by omega
    rw [e]
/-- zip(a, b): two lists, two tuples -/
def zZip (fs : SA) : SI := fun env => match fs env with
  | some (rs, e1) => match escs e1 rs with
    | some ([.lst as, .lst bs], e2) => some (zipD as bs, e2)
    | some ([.tup as, .tup bs], e2) => some (zipD as bs, e2)
    | _ => none
  | none => none
def zEnum (fs : SA) : SI := fun env => match fs env with
  | some (rs, e1) => match escs e1 rs with
    | some ([.lst as], e2) => some (enumD 0 as, e2)
    | some ([.tup as], e2) => some (enumD 0 as, e2)
    | _ => none
  | none => none

section
variable {X : Cx} {G : GG}
theorem relD_lst {N : Addr → Prop} {H : Hp} {v : V} {ds : List Dat} (h : RelD X.K G N H v (.lst ds)) : ∃ a vs, v = .ref a ∧ RelDs X.K G N H vs ds ∧ ∀ N' H', Up N H N' H' → SqL X.K H' a vs := by
  obtain ⟨a, vs, e, h1, h2⟩ := h
  exact ⟨a, vs, e, h2, fun N' H' k => h1.imp (fun z => (z.up .lst k).1) id⟩
theorem relD_tup {N : Addr → Prop} {H : Hp} {v : V} {ds : List Dat} (h : RelD X.K G N H v (.tup ds)) : ∃ a vs, v = .ref a ∧ RelDs X.K G N H vs ds ∧ ∀ N' H', Up N H N' H' → SqT X.K H' a vs := by
  obtain ⟨a, vs, e, h1, h2⟩ := h
  exact ⟨a, vs, e, h2, fun N' H' k => h1.imp (fun z => (z.up .tup k).1) id⟩
theorem up_refl {N : Addr → Prop} {H : Hp} : Up N H N H := fun _ _ _ q n => ⟨q, n⟩
theorem jok_lst {N : Addr → Prop} {H : Hp} {a : Addr} {vs : List V} {ds : List Dat} (h : RelDs X.K G N H vs ds) (k : ∀ N' H', Up N H N' H' → SqL X.K H' a vs) : JOk X.K G N H (Itl X.K a) ds := fun N' H' up hl => by
  refine ⟨fun i d e => ?_, vs, k N' H' up, by rw [relDs_len h]; exact Nat.le_refl _⟩
  obtain ⟨x, h1, h2⟩ := relDs_get h e
  refine ⟨⟨vs, x, k N' H' up, h1⟩, fun y H'' ⟨e1, e2⟩ => ?_⟩
  have := e2 vs (k N' H' up)
  rw [h1] at this
  cases this
  rw [e1]
  exact ⟨Sam.refl _, h2.up up⟩
theorem jok_tup {N : Addr → Prop} {H : Hp} {a : Addr} {vs : List V} {ds : List Dat} (h : RelDs X.K G N H vs ds) (k : ∀ N' H', Up N H N' H' → SqT X.K H' a vs) : JOk X.K G N H (Itt X.K a) ds := fun N' H' up hl => by
  refine ⟨fun i d e => ?_, vs, k N' H' up, by rw [relDs_len h]; exact Nat.le_refl _⟩
  obtain ⟨x, h1, h2⟩ := relDs_get h e
  refine ⟨⟨vs, x, k N' H' up, h1⟩, fun y H'' ⟨e1, e2⟩ => ?_⟩
  have := e2 vs (k N' H' up)
  rw [h1] at this
  cases this
  rw [e1]
  exact ⟨Sam.refl _, h2.up up⟩
theorem pair_ok {N N' : Addr → Prop} {H H' : Hp} {x y : V} {T : Addr} {a b : Dat} (up : Up N H N' H') (hl : ∀ b, N' b → H' b ≠ none) (hT : H' T = none) (ha : RelD X.K G N H x a) (hb : RelD X.K G N H y b) :
    Sam H' (upd H' T (.tup [x, y])) ∧ RelD X.K G N' (upd H' T (.tup [x, y])) (.ref T) (.tup [a, b]) := by
  have s : Sam H' (upd H' T (.tup [x, y])) := Sam.new hT
  exact ⟨s, T, [x, y], rfl, .inl ⟨.inl upd_same, fun z => hl T z hT⟩, x, [y], rfl, (ha.up up).up s.up, y, [], rfl, (hb.up up).up s.up, rfl⟩
theorem piz_seq {tg e : Expr} {fa : SE} (ha : PE X e (tEv X.K G fa)) : PI X tg e (tIv X.K G (zIt fa)) := by
  refine ⟨fun pins s σ H R I ⟨M, env, ds, env', re, q, k⟩ => ?_⟩
  unfold zIt at q
  split at q <;> try cases q
  rename_i r e1 q1
  split at q <;> try cases q
  · rename_i q2
    refine (pi_list ha).run pins s σ H R I (tEv_run re q1 fun v H1 p1 z1 _ => ?_)
    obtain ⟨p2, z2⟩ := esc_ok p1.env z1 q2
    obtain ⟨a, vs, rfl, h1, h2⟩ := relD_lst z2
    exact ⟨a, rfl, ⟨vs, h2 _ _ up_refl⟩, k _ _ (p1.trans p2) (jok_lst h1 h2)⟩
  · rename_i q2
    refine (pi_tup ha).run pins s σ H R I (tEv_run re q1 fun v H1 p1 z1 _ => ?_)
    obtain ⟨p2, z2⟩ := esc_ok p1.env z1 q2
    obtain ⟨a, vs, rfl, h1, h2⟩ := relD_tup z2
    exact ⟨a, rfl, ⟨vs, h2 _ _ up_refl⟩, k _ _ (p1.trans p2) (jok_tup h1 h2)⟩
theorem jok_rng {N : Addr → Prop} {H : Hp} {lo : Int} {n : Nat} : JOk X.K G N H (Itr lo n) (rngD lo n) := fun N' H' up hl => by
  refine ⟨fun i d e => ?_, by rw [rngD_len]; exact Nat.le_refl _⟩
  obtain ⟨h1, rfl⟩ := rngD_get _ _ _ _ e
  refine ⟨h1, fun x H'' ⟨e1, e2⟩ => ?_⟩
  subst e1 e2
  exact ⟨Sam.refl _, rfl⟩
theorem relT_int {N : Addr → Prop} {H : Hp} {v : V} {i : Int} (h : RelT X.K G N H v (.int i)) : v = .int i := by
  rcases h with h | ⟨a, _, h⟩
  · exact h
  · exact h.elim
theorem paired1 {α β : Type} {R : α → β → Prop} {xs : List α} {y : β} (h : Paired R xs [y]) : ∃ x, xs = [x] ∧ R x y := by
  cases h with
  | cons a b => cases b; exact ⟨_, rfl, a⟩
theorem paired2 {α β : Type} {R : α → β → Prop} {xs : List α} {y z : β} (h : Paired R xs [y, z]) : ∃ x w, xs = [x, w] ∧ R x y ∧ R w z := by
  cases h with
  | cons a b => cases b with | cons c d => cases d; exact ⟨_, _, rfl, a, c⟩
theorem piz_rng1 {tg a : Expr} {fs : SA} {p pos : Pos} (hg : Gl X "range") (hm : X.mg "range" = none) (ha : PA X [a] (tAv X.K G fs)) (hs : starEach [a] X.env = [(false, eval a X.env)])
    (h1 : ∀ env rs e1, fs env = some (rs, e1) → rs.length = 1) : PI X tg (.Call (.Name "range" p) [a] [] pos) (tIv X.K G (zRng fs)) := by
  refine ⟨fun pins s σ H R I ⟨M, env, ds, env', re, q, k⟩ => (pi_range1 hg hm ha hs).run pins s σ H R I ?_⟩
  unfold zRng at q
  split at q <;> try cases q
  rename_i rs e1 q1
  refine tAv_run re q1 fun vs H1 p1 z1 => ?_
  have hl := h1 _ _ _ q1
  split at q <;> try cases q
  · rename_i j q2
    split at q <;> try cases q
    rename_i hb
    obtain ⟨x, rfl, hx⟩ := paired1 (rdvs_ok p1.env z1 q2)
    obtain ⟨b1, b2⟩ := inB_ok hb
    exact ⟨j, by rw [relT_int hx], b1, b2, k _ _ p1 jok_rng⟩
  · rename_i i j q2
    have := (rdvs_ok p1.env z1 q2).length
    obtain ⟨x, y, rfl, _, _⟩ := paired2 (rdvs_ok p1.env z1 q2)
    exfalso
    cases rs with
    | nil => simp at hl
    | cons r rs =>
      cases rs with
      | nil => obtain ⟨_, _, e, _, h⟩ := z1; cases e; cases h
      | cons _ _ => simp at hl
theorem piz_rng2 {tg a b : Expr} {fs : SA} {p pos : Pos} (hg : Gl X "range") (hm : X.mg "range" = none) (ha : PA X [a, b] (tAv X.K G fs)) (hs : starEach [a, b] X.env = [(false, eval a X.env), (false, eval b X.env)]) (hs2 : starEach [b] X.env = [(false, eval b X.env)])
    (h1 : ∀ env rs e1, fs env = some (rs, e1) → rs.length = 2) : PI X tg (.Call (.Name "range" p) [a, b] [] pos) (tIv X.K G (zRng fs)) := by
  refine ⟨fun pins s σ H R I ⟨M, env, ds, env', re, q, k⟩ => (pi_range2 hg hm ha hs hs2).run pins s σ H R I ?_⟩
  unfold zRng at q
  split at q <;> try cases q
  rename_i rs e1 q1
  refine tAv_run re q1 fun vs H1 p1 z1 => ?_
  have hl := h1 _ _ _ q1
  split at q <;> try cases q
  · rename_i j q2
    obtain ⟨x, rfl, hx⟩ := paired1 (rdvs_ok p1.env z1 q2)
    exfalso
    cases rs with
    | nil => simp at hl
    | cons r rs =>
      cases rs with
      | nil => simp at hl
      | cons r' rs => obtain ⟨_, _, e, _, _, _, e', _⟩ := z1; cases e; cases e'
  · rename_i i j q2
    split at q <;> try cases q
    rename_i hb
    obtain ⟨x, y, rfl, hx, hy⟩ := paired2 (rdvs_ok p1.env z1 q2)
    simp only [Bool.and_eq_true] at hb
    obtain ⟨b1, b2⟩ := inB_ok hb.1
    obtain ⟨b3, b4⟩ := inB_ok hb.2
    exact ⟨i, j, by rw [relT_int hx, relT_int hy], ⟨b1, b2, b3, b4⟩, k _ _ p1 jok_rng⟩
theorem piz_zip {elts : List Expr} {kk : Nat} {tpos : Pos} {a b : Expr} {fs : SA} {p pos : Pos} (hg : Gl X "zip") (hm : X.mg "zip" = none) (ha : PA X [a, b] (tAv X.K G fs)) (hn : Nrm fs)
    (hs : starEach [a, b] X.env = (false, eval a X.env) :: starEach [b] X.env) (hpl : (backTo pos (starEach [b] X.env)).any (·.1) = false) : PI X (.Tuple elts kk tpos) (.Call (.Name "zip" p) [a, b] [] pos) (tIv X.K G (zZip fs)) := by
  refine ⟨fun pins s σ H R I ⟨M, env, ds, env', re, q, k⟩ => (RZ.pi_zipA hg hm ha hs hpl).run pins s σ H R I ?_⟩
  unfold zZip at q
  split at q <;> try cases q
  rename_i rs e1 q1
  refine tAv_run re q1 fun vs H1 p1 z1 => ?_
  split at q <;> try cases q
  · rename_i as bs q2
    obtain ⟨p2, z2⟩ := escs_ok p1.env (hn _ _ _ q1) z1 q2
    obtain ⟨x, _, rfl, hx, y, _, rfl, hy, e⟩ := z2
    subst e
    obtain ⟨a1, v1, rfl, h1, k1⟩ := relD_lst hx
    obtain ⟨a2, v2, rfl, h2, k2⟩ := relD_lst hy
    refine ⟨a1, a2, v1, v2, rfl, .inl ⟨k1 _ _ up_refl, k2 _ _ up_refl, k _ _ (p1.trans p2) fun N' H' up hl => ⟨fun i d e => ?_, v1, v2, k1 _ _ up, k2 _ _ up, ?_⟩⟩⟩
    · obtain ⟨da, db, e1, e2, rfl⟩ := zipD_get _ _ _ _ e
      obtain ⟨x, g1, g2⟩ := relDs_get h1 e1
      obtain ⟨y, g3, g4⟩ := relDs_get h2 e2
      refine ⟨⟨v1, v2, x, y, k1 _ _ up, k2 _ _ up, g1, g3⟩, fun v H'' ⟨T, x', y', ev, hT, eH, f1, f2⟩ => ?_⟩
      have f1 := f1 _ (k1 _ _ up)
      have f2 := f2 _ (k2 _ _ up)
      rw [g1] at f1
      rw [g3] at f2
      cases f1
      cases f2
      subst ev eH
      exact pair_ok up hl hT g2 g4
    · rw [zipD_len, relDs_len h1, relDs_len h2]
      omega
  · rename_i as bs q2
    obtain ⟨p2, z2⟩ := escs_ok p1.env (hn _ _ _ q1) z1 q2
    obtain ⟨x, _, rfl, hx, y, _, rfl, hy, e⟩ := z2
    subst e
    obtain ⟨a1, v1, rfl, h1, k1⟩ := relD_tup hx
    obtain ⟨a2, v2, rfl, h2, k2⟩ := relD_tup hy
    refine ⟨a1, a2, v1, v2, rfl, .inr ⟨k1 _ _ up_refl, k2 _ _ up_refl, k _ _ (p1.trans p2) fun N' H' up hl => ⟨fun i d e => ?_, v1, v2, k1 _ _ up, k2 _ _ up, ?_⟩⟩⟩
    · obtain ⟨da, db, e1, e2, rfl⟩ := zipD_get _ _ _ _ e
      obtain ⟨x, g1, g2⟩ := relDs_get h1 e1
      obtain ⟨y, g3, g4⟩ := relDs_get h2 e2
      refine ⟨⟨v1, v2, x, y, k1 _ _ up, k2 _ _ up, g1, g3⟩, fun v H'' ⟨T, x', y', ev, hT, eH, f1, f2⟩ => ?_⟩
      have f1 := f1 _ (k1 _ _ up)
      have f2 := f2 _ (k2 _ _ up)
      rw [g1] at f1
      rw [g3] at f2
      cases f1
      cases f2
      subst ev eH
      exact pair_ok up hl hT g2 g4
    · rw [zipD_len, relDs_len h1, relDs_len h2]
      omega
theorem piz_enum {elts : List Expr} {kk : Nat} {tpos : Pos} {a : Expr} {fs : SA} {p pos : Pos} (hg : Gl X "enumerate") (hm : X.mg "enumerate" = none) (ha : PA X [a] (tAv X.K G fs)) (hn : Nrm fs)
    (hs : starEach [a] X.env = [(false, eval a X.env)]) : PI X (.Tuple elts kk tpos) (.Call (.Name "enumerate" p) [a] [] pos) (tIv X.K G (zEnum fs)) := by
  refine ⟨fun pins s σ H R I ⟨M, env, ds, env', re, q, k⟩ => (pi_enumA hg hm ha hs).run pins s σ H R I ?_⟩
  unfold zEnum at q
  split at q <;> try cases q
  rename_i rs e1 q1
  refine tAv_run re q1 fun vs H1 p1 z1 => ?_
  split at q <;> try cases q
  · rename_i as q2
    obtain ⟨p2, z2⟩ := escs_ok p1.env (hn _ _ _ q1) z1 q2
    obtain ⟨x, _, rfl, hx, e⟩ := z2
    subst e
    obtain ⟨a1, v1, rfl, h1, k1⟩ := relD_lst hx
    refine ⟨a1, v1, rfl, .inl ⟨k1 _ _ up_refl, k _ _ (p1.trans p2) fun N' H' up hl => ⟨fun i d e => ?_, v1, k1 _ _ up, ?_⟩⟩⟩
    · obtain ⟨da, e1, rfl⟩ := enumD_get _ _ _ _ e
      obtain ⟨x, g1, g2⟩ := relDs_get h1 e1
      refine ⟨⟨v1, x, k1 _ _ up, g1⟩, fun v H'' ⟨T, x', ev, hT, eH, f1⟩ => ?_⟩
      have f1 := f1 _ (k1 _ _ up)
      rw [g1] at f1
      cases f1
      subst ev eH
      exact pair_ok up hl hT (show RelD X.K G _ _ _ (.int _) by rw [Nat.zero_add]; exact rfl) g2
    · rw [enumD_len, relDs_len h1]
      exact Nat.le_refl _
  · rename_i as q2
    obtain ⟨p2, z2⟩ := escs_ok p1.env (hn _ _ _ q1) z1 q2
    obtain ⟨x, _, rfl, hx, e⟩ := z2
    subst e
    obtain ⟨a1, v1, rfl, h1, k1⟩ := relD_tup hx
    refine ⟨a1, v1, rfl, .inr ⟨k1 _ _ up_refl, k _ _ (p1.trans p2) fun N' H' up hl => ⟨fun i d e => ?_, v1, k1 _ _ up, ?_⟩⟩⟩
    · obtain ⟨da, e1, rfl⟩ := enumD_get _ _ _ _ e
      obtain ⟨x, g1, g2⟩ := relDs_get h1 e1
      refine ⟨⟨v1, x, k1 _ _ up, g1⟩, fun v H'' ⟨T, x', ev, hT, eH, f1⟩ => ?_⟩
      have f1 := f1 _ (k1 _ _ up)
      rw [g1] at f1
      cases f1
      subst ev eH
      exact pair_ok up hl hT (show RelD X.K G _ _ _ (.int _) by rw [Nat.zero_add]; exact rfl) g2
    · rw [enumD_len, relDs_len h1]
end
end Zz
end

section
set_option Elab.async false
set_option linter.all false
set_option maxRecDepth 100000
namespace Zz
open PySem PySem.Spec PyProof.Rows L2

/-! ### targets -/
abbrev SG := Dat → En → Option En
/-- only the slots ts have changed -/
def Only (ts : List Nat) (σ σ' : L2.St) : Prop := σ'.length = σ.length ∧ ∀ (j : Nat), j ∉ ts → σ'[j]? = σ[j]?
structure TgOk (ts : List Nat) (g : SG) : Prop where
  ok : ∀ d env env', g d env = some env' → env'.length = env.length ∧ (∀ (j : Nat), j ∉ ts → env'[j]? = env[j]?) ∧ ∀ (j : Nat) (d' : Dat), j ∈ ts → env'[j]? = some (some (Sl.ow d')) → env[j]? = some (some (Sl.ow d'))
def tGv (K : PySem.W.Frag) (G : GG) (io : Bool) (ts : List Nat) (g : SG) : TG := fun v σ H Q => ∃ (M : Addr → Prop) (env : En) (d : Dat) (env' : En), REnv K G M σ H env ∧ PinOk io env ∧ RelD K G (NN M σ env) H v d ∧ g d env = some env' ∧
  ∀ σ', PostS K G io M σ H env σ' H env' → Only ts σ σ' → Q σ' H
def gN (io : Bool) (i : Nat) : SG := fun d env => put io i (.val d) env
def gTs : List SG → List Dat → En → Option En
  | [], [], env => some env
  | g :: gs, d :: ds, env => match g d env with
    | some e1 => gTs gs ds e1
    | none => none
  | _, _, _ => none
def gT (gs : List SG) : SG := fun d env => match d with
  | .tup ds => gTs gs ds env
  | _ => none
def tGsv (K : PySem.W.Frag) (G : GG) (io : Bool) (ts : List Nat) (gs : List SG) : TGs := fun vs σ H Q => ∃ (M : Addr → Prop) (env : En) (ds : List Dat) (env' : En), REnv K G M σ H env ∧ PinOk io env ∧ RelDs K G (NN M σ env) H vs ds ∧ gTs gs ds env = some env' ∧
  ∀ σ', PostS K G io M σ H env σ' H env' → Only ts σ σ' → Q σ' H
section
variable {X : Cx} {G : GG} {io : Bool}
theorem PostS.up {K : PySem.W.Frag} {G : GG} {M : Addr → Prop} {σ σ1 : L2.St} {H H1 : Hp} {env e1 : En} (p : PostS K G io M σ H env σ1 H1 e1) : Up (NN M σ env) H (NN M σ1 e1) H1 := fun b u hu q n =>
  ⟨rd_same hu q fun o nt e => p.fr.k b o nt e fun z => n (.inr z), fun z => by
    rcases z with z | z
    · exact n (.inl z)
    · rcases p.own b z with z | z
      · exact n (.inr z)
      · exact rd_some q z⟩
theorem PostS.refl {K : PySem.W.Frag} {G : GG} {M : Addr → Prop} {σ : L2.St} {H : Hp} {env : En} (e : REnv K G M σ H env) (hp : PinOk io env) : PostS K G io M σ H env σ H env := (Post.refl e).st hp
theorem put_only {i : Nat} {d : Dat} {env env' : En} (h : put io i (.val d) env = some env') : env' = env.set i (some (.sh d)) ∧ i < env.length ∧ (io = true → i ≠ 0) := by
  unfold put at h
  split at h <;> try cases h
  rename_i hc
  simp only [Bool.or_eq_true, Bool.and_eq_true, beq_iff_eq, Bool.not_eq_true', decide_eq_false_iff_not, not_or, Decidable.not_not] at hc
  exact ⟨rfl, hc.2, fun a b => hc.1 ⟨a, b⟩⟩
theorem pgz_name {x : Str} {pos : Pos} {i : Nat} (hN : X.N.Nodup) (hi : X.N[i]? = some x) (hx : Loc X.env.scope x) (hf : X.fn x = true ∨ X.env.scope.names.lookup x = some .local) : PG X (.Name x pos) (tGv X.K G io [i] (gN io i)) := by
  refine ⟨fun pins s σ H v u Q I r ⟨M, env, d, env', re, hp, hr, q, k⟩ => (pg_name hN hi hx hf).run pins s σ H v u Q I r ?_⟩
  show Q (σ.set i (some v)) H
  refine k _ (put_ok (r := .val d) (PostS.refl re hp) hr trivial q) ⟨by simp, fun j hj => List.getElem?_set_ne (fun e => hj (by simp [e]))⟩
theorem tgOk_name {i : Nat} : TgOk [i] (gN io i) := ⟨fun d env env' h => by
  obtain ⟨rfl, hi, _⟩ := put_only h
  refine ⟨by simp, fun j hj => List.getElem?_set_ne (fun e => hj (by simp [e])), fun j d' hj q => ?_⟩
  have : j = i := by simpa using hj
  subst this
  rw [List.getElem?_set_self hi] at q
  cases q⟩
theorem pgsz_nil : PGs X [] (tGsv X.K G io [] []) := by
  refine ⟨fun pins s σ H vs us Q I r ⟨M, env, ds, env', re, hp, hr, q, k⟩ => pgs_nil.run pins s σ H vs us Q I r ?_⟩
  cases ds with
  | cons d ds => cases q
  | nil =>
    cases q
    exact ⟨hr, k σ (PostS.refl re hp) ⟨rfl, fun _ _ => rfl⟩⟩
theorem pgsz_cons {e : Expr} {es : List Expr} {ts ts' : List Nat} {g : SG} {gs : List SG} (h1 : PG X e (tGv X.K G io ts g)) (h2 : PGs X es (tGsv X.K G io ts' gs))
    (hs : (assignEach (e :: es) X.env).map (·.2) = assign e X.env :: (assignEach es X.env).map (·.2)) : PGs X (e :: es) (tGsv X.K G io (ts ++ ts') (g :: gs)) := by
  refine ⟨fun pins s σ H vs us Q I r ⟨M, env, ds, env', re, hp, hr, q, k⟩ => (pgs_cons h1 h2 hs).run pins s σ H vs us Q I r ?_⟩
  cases ds with
  | nil => cases q
  | cons d ds =>
    obtain ⟨v, ws, rfl, hv, hw⟩ := hr
    unfold gTs at q
    split at q <;> try cases q
    rename_i e1 q1
    refine ⟨v, ws, rfl, M, env, d, e1, re, hp, hv, q1, fun σ1 p1 o1 => ⟨M, e1, ds, env', p1.env, PinOk.of p1, hw.up p1.up, q, fun σ2 p2 o2 => k σ2 (p1.trans p2) ⟨o2.1.trans o1.1, fun j hj => ?_⟩⟩⟩
    simp only [List.mem_append, not_or] at hj
    exact (o2.2 j hj.2).trans (o1.2 j hj.1)
theorem gTs_len : ∀ {gs : List SG} {ds : List Dat} {env env' : En}, gTs gs ds env = some env' → ds.length = gs.length
  | [], [], _, _, _ => rfl
  | [], _ :: _, _, _, h => by cases h
  | _ :: _, [], _, _, h => by cases h
  | g :: gs, d :: ds, env, env', h => by
    unfold gTs at h
    split at h <;> try cases h
    simp [gTs_len h]
theorem pgz_tup {es : List Expr} {kk : Nat} {pos : Pos} {ts : List Nat} {gs : List SG} (hc : X.calm = true) (h : PGs X es (tGsv X.K G io ts gs)) (hl : gs.length = es.length)
    (hn : (assignEach es X.env).length = es.length) (hst : (assignEach es X.env).findIdx? (·.1) = none) : PG X (.Tuple es kk pos) (tGv X.K G io ts (gT gs)) := by
  refine ⟨fun pins s σ H v u Q I r ⟨M, env, d, env', re, hp, hr, q, k⟩ => (pg_tup (k := kk) (pos := pos) hc h hn hst).run pins s σ H v u Q I r ?_⟩
  unfold gT at q
  split at q <;> try cases q
  rename_i ds
  obtain ⟨a, vs, rfl, h1, h2⟩ := relD_tup hr
  have hlen := gTs_len q
  exact ⟨a, vs, rfl, h2 _ _ up_refl, by rw [relDs_len h1, hlen, hl], M, env, ds, env', re, hp, h1, q, k⟩
theorem tgOk_tup {ts : List Nat} {gs : List SG} (h : ∀ ds env env', gTs gs ds env = some env' → env'.length = env.length ∧ (∀ (j : Nat), j ∉ ts → env'[j]? = env[j]?) ∧ ∀ (j : Nat) (d' : Dat), j ∈ ts → env'[j]? = some (some (Sl.ow d')) → env[j]? = some (some (Sl.ow d'))) : TgOk ts (gT gs) := ⟨fun d env env' q => by
  unfold gT at q
  split at q <;> try cases q
  exact h _ _ _ q⟩
def TgsOk (ts : List Nat) (gs : List SG) : Prop := ∀ ds env env', gTs gs ds env = some env' → env'.length = env.length ∧ (∀ (j : Nat), j ∉ ts → env'[j]? = env[j]?) ∧ ∀ (j : Nat) (d' : Dat), j ∈ ts → env'[j]? = some (some (Sl.ow d')) → env[j]? = some (some (Sl.ow d'))
theorem tgsOk_nil : TgsOk [] [] := fun ds env env' q => by
  cases ds with
  | nil => cases q; exact ⟨rfl, fun _ _ => rfl, fun _ _ h => by cases h⟩
  | cons _ _ => cases q
theorem tgsOk_cons {ts ts' : List Nat} {g : SG} {gs : List SG} (h1 : TgOk ts g) (h2 : TgsOk ts' gs) : TgsOk (ts ++ ts') (g :: gs) := fun ds env env' q => by
  cases ds with
  | nil => cases q
  | cons d ds =>
    unfold gTs at q
    split at q <;> try cases q
    rename_i e1 q1
    obtain ⟨a1, a2, a3⟩ := h1.ok _ _ _ q1
    obtain ⟨b1, b2, b3⟩ := h2 _ _ _ q
    refine ⟨b1.trans a1, fun j hj => ?_, fun j d' hj q2 => ?_⟩
    · simp only [List.mem_append, not_or] at hj
      exact (b2 j hj.2).trans (a2 j hj.1)
    · have q3 : e1[j]? = some (some (Sl.ow d')) := by
        by_cases hj' : j ∈ ts'
        · exact b3 j d' hj' q2
        · rw [← b2 j hj']; exact q2
      by_cases hj' : j ∈ ts
      · exact a3 j d' hj' q3
      · rw [← a2 j hj']; exact q3

/-! ### for -/
def zLoop (io : Bool) (g : SG) (f : SS) : List Dat → SS
  | [] => fun env => some (.next env)
  | d :: ds => fun env => match g d env with
    | some e1 => match f e1 with
      | some (.next e2) => zLoop io g f ds e2
      | some (.cnt e2) => zLoop io g f ds e2
      | some (.brk e2) => some (.next e2)
      | some (.ret r e2) => some (.ret r e2)
      | none => none
    | none => none
def zFor (io : Bool) (it : SI) (g : SG) (f : SS) : SS := fun env => match it env with
  | some (ds, e1) => if pinB io e1 then zLoop io g f ds e1 else none
  | none => none
theorem pz_for {tg iter : Expr} {body : List Stmt} {pos : Pos} {ts : List Nat} {it : SI} {g : SG} {f : SS} (hp : PassesOwn (model X.prog X.w) X.A X.env X.xe) (hc : X.calm = true) (hi : PI X tg iter (tIv X.K G it)) (hg : PG X tg (tGv X.K G io ts g))
    (hb : PSs X body (tSv X.K G io f)) (hs : ∀ x, foldedSetIterable iter X.env x = pure x) : PS X (.For tg iter body [] pos) (tSv X.K G io (zFor io it g f)) := by
  refine PS.imp (ps_for hp hc hi hg hb hs) ?_
  rintro D σ H ⟨M, env, fl, re, hpin, q, k⟩
  unfold zFor at q
  split at q <;> try cases q
  rename_i ds e1 q1
  split at q <;> try cases q
  rename_i hpb
  refine ⟨M, env, ds, e1, re, q1, fun J H1 p1 jok => ?_⟩
  have P1 : PostS X.K G io M σ H env σ H1 e1 := p1.st (pinB_ok hpb)
  refine ⟨fun i m σ' H' => m = ds.length - i ∧ i ≤ ds.length ∧ ∃ env_i, PostS X.K G io M σ H1 e1 σ' H' env_i ∧ zLoop io g f (ds.drop i) env_i = some fl, ⟨ds.length, by simp, Nat.zero_le _, e1, PostS.refl p1.env (pinB_ok hpb), by simpa using q⟩, ?_⟩
  rintro i m σ' H' ⟨rfl, hi', env_i, P2, hl⟩
  have J' := jok (NN M σ' env_i) H' P2.up (fun b => P2.env.liveN)
  by_cases hlt : i < ds.length
  · right
    have hd : ds[i]? = some ds[i] := List.getElem?_eq_getElem hlt
    obtain ⟨go, yld⟩ := J'.1 i _ hd
    rw [List.drop_eq_getElem_cons hlt] at hl
    unfold zLoop at hl
    split at hl <;> try cases hl
    rename_i e2 q2
    refine ⟨go, fun σ2 H2 => ∃ env2, PostS X.K G io M σ H1 e1 σ2 H2 env2 ∧ zLoop io g f (ds.drop (i + 1)) env2 = some fl, fun σ2 H2 ⟨env2, h1, h2⟩ => ⟨ds.length - (i + 1), by omega, rfl, hlt, env2, h1, h2⟩, fun x H2 hy => ?_⟩
    obtain ⟨sam, rx⟩ := yld x H2 hy
    have P3 : PostS X.K G io M σ' H' env_i σ' H2 env_i := (Post.sam P2.env sam).st (PinOk.of P2)
    refine ⟨M, env_i, ds[i], e2, P3.env, PinOk.of P3, rx, q2, fun σ3 P4 _ => ?_⟩
    have P5 := (P2.trans P3).trans P4
    have kk := Cnt.back (P1.trans P5) k
    split at hl <;> try cases hl
    · rename_i e3 q3
      exact tSv_run P4.env (PinOk.of P4) q3 fun σ4 H4 P6 => ⟨e3, P5.trans P6, hl⟩
    · rename_i e3 q3
      exact tSv_run P4.env (PinOk.of P4) q3 fun σ4 H4 P6 => ⟨e3, P5.trans P6, hl⟩
    · rename_i e3 q3
      exact tSv_run P4.env (PinOk.of P4) q3 fun σ4 H4 P6 => kk σ4 H4 P6
    · rename_i r e3 q3
      exact tSv_run P4.env (PinOk.of P4) q3 fun v σ4 H4 P6 z n => kk v σ4 H4 P6 z n
  · left
    have e : i = ds.length := by omega
    subst e
    rw [List.drop_length] at hl
    cases hl
    exact ⟨J'.2, k σ' H' (P1.trans P2)⟩

/-! ### while, with as many turns as are told -/
def zWhile (io : Bool) (c : ST) (f : SS) : Nat → SS
  | 0 => fun _ => none
  | n + 1 => fun env => match c env with
    | some (true, e1) => if pinB io e1 then match f e1 with
      | some (.next e2) => zWhile io c f n e2
      | some (.cnt e2) => zWhile io c f n e2
      | some (.brk e2) => some (.next e2)
      | some (.ret r e2) => some (.ret r e2)
      | none => none
      else none
    | some (false, e1) => if pinB io e1 then some (.next e1) else none
    | none => none
theorem pz_while {c : Expr} {body : List Stmt} {pos : Pos} {t : ST} {f : SS} (n : Nat) (hp : PassesOwn (model X.prog X.w) X.A X.env X.xe) (hc : PT X c (tTv X.K G t)) (hb : PSs X body (tSv X.K G io f)) :
    PS X (.While c body [] pos) (tSv X.K G io (zWhile io t f n)) := by
  refine PS.imp (ps_while hp hc hb) ?_
  rintro D σ H ⟨M, env, fl, re, hpin, q, k⟩
  refine ⟨fun m σ' H' => ∃ env_i, PostS X.K G io M σ H env σ' H' env_i ∧ zWhile io t f m env_i = some fl, ⟨n, env, PostS.refl re hpin, q⟩, ?_⟩
  rintro m σ' H' ⟨env_i, P1, hl⟩
  cases m with
  | zero => cases hl
  | succ m =>
    unfold zWhile at hl
    split at hl <;> try cases hl
    · rename_i e1 q1
      split at hl <;> try cases hl
      rename_i hpb
      refine tTv_run P1.env q1 fun H1 p1 => ?_
      rw [if_pos rfl]
      have P2 : PostS X.K G io M σ H env σ' H1 e1 := P1.trans (p1.st (pinB_ok hpb))
      have kk := Cnt.back P2 k
      refine ⟨fun σ2 H2 => ∃ env2, PostS X.K G io M σ H env σ2 H2 env2 ∧ zWhile io t f m env2 = some fl, fun σ2 H2 h => ⟨m, Nat.lt_succ_self m, h⟩, ?_⟩
      split at hl <;> try cases hl
      · rename_i e3 q3
        exact tSv_run P2.env (PinOk.of P2) q3 fun σ4 H4 P6 => ⟨e3, P2.trans P6, hl⟩
      · rename_i e3 q3
        exact tSv_run P2.env (PinOk.of P2) q3 fun σ4 H4 P6 => ⟨e3, P2.trans P6, hl⟩
      · rename_i e3 q3
        exact tSv_run P2.env (PinOk.of P2) q3 fun σ4 H4 P6 => kk σ4 H4 P6
      · rename_i r e3 q3
        exact tSv_run P2.env (PinOk.of P2) q3 fun v σ4 H4 P6 z n => kk v σ4 H4 P6 z n
    · rename_i e1 q1
      split at hl <;> try cases hl
      rename_i hpb
      refine tTv_run P1.env q1 fun H1 p1 => ?_
      rw [if_neg Bool.false_ne_true]
      exact k σ' H1 (P1.trans (p1.st (pinB_ok hpb)))
end
end Zz
end

section
set_option Elab.async false
set_option linter.all false
set_option maxRecDepth 100000
namespace Zz
open PySem PySem.Spec PyProof.Rows L2

/-! ### a block's slots -/
def wipeE (env : En) : List Nat → En
  | [] => env
  | v :: vs => (wipeE env vs).set v none
theorem wipeE_len (env : En) : ∀ vs : List Nat, (wipeE env vs).length = env.length
  | [] => rfl
  | v :: vs => by unfold wipeE; rw [List.length_set, wipeE_len env vs]
theorem wipeE_get {env : En} {i : Nat} {s : Sl} : ∀ {vs : List Nat}, (wipeE env vs)[i]? = some (some s) → env[i]? = some (some s) ∧ i ∉ vs
  | [], h => ⟨h, by simp⟩
  | v :: vs, h => by
    unfold wipeE at h
    by_cases hi : v = i
    · subst hi
      by_cases hv : v < (wipeE env vs).length
      · rw [List.getElem?_set_self hv] at h; cases h
      · rw [List.getElem?_eq_none (by simpa using hv)] at h; cases h
    · rw [List.getElem?_set_ne hi] at h
      obtain ⟨h1, h2⟩ := wipeE_get h
      exact ⟨h1, by simp only [List.mem_cons, not_or]; exact ⟨fun e => hi e.symm, h2⟩⟩
theorem wipeE_out {env : En} {i : Nat} : ∀ {vs : List Nat}, i ∉ vs → (wipeE env vs)[i]? = env[i]?
  | [], _ => rfl
  | v :: vs, h => by
    simp only [List.mem_cons, not_or] at h
    unfold wipeE
    rw [List.getElem?_set_ne (Ne.symm h.1)]
    exact wipeE_out h.2
theorem wipe_out {σ : L2.St} {i : Nat} : ∀ {vs : List Nat}, i ∉ vs → (wipe σ vs)[i]? = σ[i]?
  | [], _ => rfl
  | v :: vs, h => by
    simp only [List.mem_cons, not_or] at h
    unfold wipe
    rw [List.getElem?_set_ne (Ne.symm h.1)]
    exact wipe_out h.2
theorem wipe_in {σ : L2.St} {i : Nat} : ∀ {vs : List Nat}, i ∈ vs → i < σ.length → (wipe σ vs)[i]? = some none
  | v :: vs, h, hl => by
    unfold wipe
    by_cases hi : v = i
    · subst hi
      exact List.getElem?_set_self (by rw [wipe_length]; exact hl)
    · rw [List.getElem?_set_ne hi]
      rcases List.mem_cons.mp h with z | z
      · exact absurd z.symm hi
      · exact wipe_in z hl
theorem wipe_only {ts vs : List Nat} {σ σ' : L2.St} (h : Only ts (wipe σ vs) σ') (hs : ∀ j ∈ ts, j ∈ vs) : wipe σ' vs = wipe σ vs := by
  apply List.ext_getElem?
  intro i
  have hl : σ'.length = σ.length := by rw [h.1, wipe_length]
  by_cases hi : i ∈ vs
  · by_cases hlt : i < σ.length
    · rw [wipe_in hi (by omega), wipe_in hi hlt]
    · rw [List.getElem?_eq_none (by rw [wipe_length]; omega), List.getElem?_eq_none (by rw [wipe_length]; omega)]
  · rw [wipe_out hi, h.2 i (fun z => hi (hs i z))]
section
variable {K : PySem.W.Frag} {G : GG} {M : Addr → Prop} {σ σ' : L2.St} {H H' : Hp} {env env' : En} {vs : List Nat}
theorem own_wipe {b : Addr} (h : Own (wipe σ vs) (wipeE env vs) b) : Own σ env b := by
  obtain ⟨i, d, h1, h2⟩ := h
  obtain ⟨h3, h4⟩ := wipeE_get h1
  rw [wipe_out h4] at h2
  exact ⟨i, d, h3, h2⟩
theorem REnv.wipe (r : REnv K G M σ H env) (vs : List Nat) : REnv K G M (wipe σ vs) H (wipeE env vs) := by
  have up : Up (NN M σ env) H (NN M (L2.wipe σ vs) (wipeE env vs)) H := less_up fun b z => z.imp id own_wipe
  refine ⟨by rw [wipe_length, wipeE_len]; exact r.len, fun i d h => ?_, fun i d h => ?_, fun i j d d' a h1 h2 h3 h4 => ?_, r.live, r.tab⟩
  · obtain ⟨h1, h2⟩ := wipeE_get h
    obtain ⟨v, h3, h4⟩ := r.sh i d h1
    exact ⟨v, by rw [wipe_out h2]; exact h3, h4.up up⟩
  · obtain ⟨h1, h2⟩ := wipeE_get h
    obtain ⟨v, h3, h4, h5⟩ := r.ow i d h1
    exact ⟨v, by rw [wipe_out h2]; exact h3, h4, h5.up (fun _ _ e => e) up⟩
  · obtain ⟨g1, g2⟩ := wipeE_get h1
    obtain ⟨g3, g4⟩ := wipeE_get h2
    rw [wipe_out g2] at h3
    rw [wipe_out g4] at h4
    exact r.inj i j d d' a g1 g3 h3 h4
end
/-- behind a block: its own names are what they were -/
def unwipe (e0 e1 : En) (vs : List Nat) : En := (List.range e0.length).map fun i => if i ∈ vs then (e0[i]?).join else (e1[i]?).join
theorem unwipe_get {e0 e1 : En} {vs : List Nat} {i : Nat} {s : Sl} (h : (unwipe e0 e1 vs)[i]? = some (some s)) : (i ∈ vs ∧ e0[i]? = some (some s)) ∨ (i ∉ vs ∧ e1[i]? = some (some s)) := by
  unfold unwipe at h
  rw [List.getElem?_map] at h
  by_cases hi : i < e0.length
  · rw [List.getElem?_range hi] at h
    simp only [Option.map_some, Option.some.injEq] at h
    by_cases hv : i ∈ vs
    · rw [if_pos hv] at h
      left
      refine ⟨hv, ?_⟩
      cases q : e0[i]? with
      | none => rw [q] at h; cases h
      | some o => rw [q] at h; exact congrArg some h
    · rw [if_neg hv] at h
      right
      refine ⟨hv, ?_⟩
      cases q : e1[i]? with
      | none => rw [q] at h; cases h
      | some o => rw [q] at h; exact congrArg some h
  · rw [List.getElem?_eq_none (by simpa using hi)] at h
    cases h
theorem unwipe_len {e0 e1 : En} {vs : List Nat} : (unwipe e0 e1 vs).length = e0.length := by simp [unwipe]
theorem unwipe_of {e0 e1 : En} {vs : List Nat} {i : Nat} {s : Sl} (hl : i < e0.length) (h : (i ∈ vs ∧ e0[i]? = some (some s)) ∨ (i ∉ vs ∧ e1[i]? = some (some s))) : (unwipe e0 e1 vs)[i]? = some (some s) := by
  unfold unwipe
  rw [List.getElem?_map, List.getElem?_range hl]
  simp only [Option.map_some, Option.some.injEq]
  rcases h with ⟨h1, h2⟩ | ⟨h1, h2⟩
  · rw [if_pos h1, h2]; rfl
  · rw [if_neg h1, h2]; rfl
/-- none of these slots is one's own object -/
def plainB (env : En) (vs : List Nat) : Bool := vs.all fun i => match env[i]? with
  | some (some (Sl.ow _)) => false
  | _ => true
theorem plainB_ok {env : En} {vs : List Nat} (h : plainB env vs = true) {i : Nat} {d : Dat} (hi : i ∈ vs) : env[i]? ≠ some (some (Sl.ow d)) := by
  intro e
  unfold plainB at h
  have := List.all_eq_true.mp h i hi
  rw [e] at this
  cases this

/-! ### [elt for target in iter if test] -/
def lcLoop (g : SG) (t : ST) (fe : SE) (vs : List Nat) : List Dat → En → List Dat → Option (List Dat × En)
  | [], env, acc => some (acc, env)
  | d :: ds, env, acc => match g d env with
    | some e1 => match t e1 with
      | some (true, e2) => match fe e2 with
        | some (r, e3) => match esc e3 r with
          | some (y, e4) => if sizeOk (acc.length + 1) then lcLoop g t fe vs ds (wipeE e4 vs) (acc ++ [y]) else none
          | none => none
        | none => none
      | some (false, e2) => lcLoop g t fe vs ds (wipeE e2 vs) acc
      | none => none
    | none => none
def zLc (it : SI) (g : SG) (t : ST) (fe : SE) (vs : List Nat) : SE := fun env => match it env with
  | some (ds, e1) => if plainB e1 vs then match lcLoop g t fe vs ds (wipeE e1 vs) [] with
    | some (acc, e2) => some (.fresh (.lst acc), unwipe e1 e2 vs)
    | none => none
    else none
  | none => none
/-- what a block has done to the slots -/
structure Blk (vs : List Nat) (e0 e : En) : Prop where
  len : e.length = e0.length
  ow : ∀ (i : Nat) (d : Dat), e[i]? = some (some (Sl.ow d)) → i ∉ vs ∧ ∃ d', e0[i]? = some (some (Sl.ow d'))
  has : ∀ (i : Nat) (s : Sl), i ∉ vs → e0[i]? = some (some s) → ∃ s', e[i]? = some (some s')
theorem Blk.start {vs : List Nat} {e0 : En} : Blk vs e0 (wipeE e0 vs) := ⟨wipeE_len _ _, fun i d h => ⟨(wipeE_get h).2, d, (wipeE_get h).1⟩, fun i s hi h => ⟨s, by rw [wipeE_out hi]; exact h⟩⟩
theorem Blk.shp {vs : List Nat} {e0 e e' : En} (b : Blk vs e0 e) (s : Shp e e') : Blk vs e0 e' := ⟨s.len.trans b.len, fun i d h => let ⟨d', h'⟩ := s.ow i d h; b.ow i d' h', fun i q hi h => let ⟨q', h'⟩ := b.has i q hi h; s.has i q' h'⟩
theorem Blk.tg {vs ts : List Nat} {e0 e e' : En} {g : SG} {d : Dat} (b : Blk vs e0 e) (T : TgOk ts g) (hs : ∀ j ∈ ts, j ∈ vs) (h : g d e = some e') : Blk vs e0 e' := by
  obtain ⟨h1, h2, h3⟩ := T.ok _ _ _ h
  refine ⟨h1.trans b.len, fun i d' q => ?_, fun i s hi q => ?_⟩
  · by_cases hi : i ∈ ts
    · exact b.ow i d' (h3 i d' hi q)
    · rw [h2 i hi] at q
      exact b.ow i d' q
  · obtain ⟨s', q'⟩ := b.has i s hi q
    exact ⟨s', by rw [h2 i fun z => hi (hs i z)]; exact q'⟩
theorem Blk.wipe {vs : List Nat} {e0 e : En} (b : Blk vs e0 e) : Blk vs e0 (wipeE e vs) := ⟨(wipeE_len _ _).trans b.len, fun i d h => b.ow i d (wipeE_get h).1, fun i s hi h => let ⟨s', h'⟩ := b.has i s hi h; ⟨s', by rw [wipeE_out hi]; exact h'⟩⟩

section
variable {X : Cx} {G : GG}
/-- what holds between a block's turns; D: the list that grows (kept away) -/
structure BI (K : PySem.W.Frag) (G : GG) (M : Addr → Prop) (σ : L2.St) (H1 : Hp) (e0 : En) (vs : List Nat) (D : Addr) (H : Hp) (e : En) (acc : List Dat) : Prop where
  env : REnv K G (fun b => M b ∨ b = D) (wipe σ vs) H e
  blk : Blk vs e0 e
  fr : ∀ b o, NT o → H1 b = some o → ¬ Own σ e0 b → H b = some o
  live : ∀ b, H1 b ≠ none → H b ≠ none
  tab : ∀ b, GxR.TabG H1 b → GxR.TabG H b
  lst : ∃ ys, H D = some (.lst ys) ∧ RelDs K G (NN (fun b => M b ∨ b = D) (wipe σ vs) e) H ys acc
theorem blk_own {σ : L2.St} {e0 e : En} {vs : List Nat} {b : Addr} (B : Blk vs e0 e) (h : Own (wipe σ vs) e b) : Own σ e0 b := by
  obtain ⟨i, d, h1, h2⟩ := h
  obtain ⟨h3, d', h4⟩ := B.ow i d h1
  rw [wipe_out h3] at h2
  exact ⟨i, d', h4, h2⟩
theorem lc_imp {it : SI} {g : SG} {t : ST} {fe : SE} {ts vs : List Nat} (T : TgOk ts g) (hts : ∀ j ∈ ts, j ∈ vs) (σ : L2.St) (H : Hp) (Q : VK) (h : tEv X.K G (zLc it g t fe vs) σ H Q) :
    tLc (tIv X.K G it) (tGv X.K G false ts g) (tTv X.K G t) (tEv X.K G fe) vs σ H Q := by
  obtain ⟨M, env, r, env', re, q, k⟩ := h
  unfold zLc at q
  split at q <;> try cases q
  rename_i ds e1 q1
  split at q <;> try cases q
  rename_i hpl
  split at q <;> try cases q
  rename_i accF e2 q2
  refine ⟨M, env, ds, e1, re, q1, fun J H1 p1 jok D hD => ?_⟩
  refine ⟨fun i m H' => m = ds.length - i ∧ i ≤ ds.length ∧ ∃ env_i acc, BI X.K G M σ H1 e1 vs D H' env_i acc ∧ lcLoop g t fe vs (ds.drop i) env_i acc = some (accF, e2), ⟨ds.length, by simp, Nat.zero_le _, wipeE e1 vs, [], ?_, by simpa using q2⟩, ?_⟩
  · have e3 := (p1.env.more (Sam.new (o := .lst []) hD) hD (by rw [upd_same]; exact fun z => by cases z)).wipe vs
    exact ⟨e3, Blk.start, fun b o nt e _ => (Sam.new hD).k b o nt e, fun b h => (Sam.new hD).live h, fun b h => (Sam.new hD).t b h, [], upd_same, rfl⟩
  rintro i m H' ⟨rfl, hi', env_i, acc, B, hl⟩
  have up1 : Up (NN M σ e1) H1 (NN (fun b => M b ∨ b = D) (wipe σ vs) env_i) H' := fun b u hu q n => ⟨rd_same hu q fun o nt e => B.fr b o nt e fun z => n (.inr z), fun z => by
    rcases z with (z | z) | z
    · exact n (.inl z)
    · subst z; exact rd_some q hD
    · exact n (.inr (blk_own B.blk z))⟩
  have J' := jok (NN (fun b => M b ∨ b = D) (wipe σ vs) env_i) H' up1 (fun b => B.env.liveN)
  by_cases hlt : i < ds.length
  · right
    have hd : ds[i]? = some ds[i] := List.getElem?_eq_getElem hlt
    obtain ⟨go, yld⟩ := J'.1 i _ hd
    rw [List.drop_eq_getElem_cons hlt] at hl
    unfold lcLoop at hl
    split at hl <;> try cases hl
    rename_i e3 q3
    refine ⟨go, fun H2 => ∃ env2 acc2, BI X.K G M σ H1 e1 vs D H2 env2 acc2 ∧ lcLoop g t fe vs (ds.drop (i + 1)) env2 acc2 = some (accF, e2), fun H2 ⟨env2, acc2, h1, h2⟩ => ⟨ds.length - (i + 1), by omega, rfl, hlt, env2, acc2, h1, h2⟩, fun x H2 hy => ?_⟩
    obtain ⟨sam, rx⟩ := yld x H2 hy
    refine ⟨fun b => M b ∨ b = D, env_i, ds[i], e3, B.env.sam sam, (fun z => by cases z), rx, q3, fun σ3 P4 only => ?_⟩
    have hw : wipe σ3 vs = wipe σ vs := wipe_only only hts
    have B3 : Blk vs e1 e3 := B.blk.tg T hts q3
    obtain ⟨ys, hys, rys⟩ := B.lst
    -- from the turn's start, on
    have P5 : PostS X.K G false (fun b => M b ∨ b = D) (wipe σ vs) H' env_i σ3 H2 e3 := ((Post.sam B.env sam).st (fun z => by cases z)).trans P4
    have own3 : ∀ b e, Shp e3 e → Own σ3 e b → Own σ e1 b := fun b e s z => by
      obtain ⟨j, d', h1, h2⟩ := s.own z
      obtain ⟨h3, d'', h4⟩ := B3.ow j d' h1
      have : (wipe σ3 vs)[j]? = (wipe σ vs)[j]? := by rw [hw]
      rw [wipe_out h3, wipe_out h3] at this
      exact ⟨j, d'', h4, by rw [← this]; exact h2⟩
    -- the turn's end
    have fin : ∀ {H3 : Hp} {e4 : En}, Post X.K G (fun b => M b ∨ b = D) σ3 H2 e3 H3 e4 → ∀ (H4 : Hp) (acc' : List Dat), (∀ b, b ≠ D → H4 b = H3 b) → (∃ ys0, H3 D = some (.lst ys0)) → (∃ ys', H4 D = some (.lst ys') ∧ RelDs X.K G (NN (fun b => M b ∨ b = D) σ3 e4) H3 ys' acc') →
        BI X.K G M σ H1 e1 vs D H4 (wipeE e4 vs) acc' := fun {H3 e4} p H4 acc' hne ⟨ys0, hD3⟩ ⟨ys', h1, h2⟩ => by
      have liveD : H4 D ≠ none := by rw [h1]; exact fun z => by cases z
      have kp : ∀ b o, b ≠ D → H3 b = some o → H4 b = some o := fun b o hb e => (hne b hb).trans e
      have tD : ∀ b, GxR.TabG H3 b → b ≠ D := fun b ⟨ps, q, _⟩ z => by
        rw [z, hD3] at q
        cases q
      have kt : ∀ b, GxR.TabG H3 b → GxR.TabG H4 b := fun b h => let ⟨ps, q, t⟩ := h; ⟨ps, kp b _ (tD b h) q, t⟩
      have e5 : REnv X.K G (fun b => M b ∨ b = D) σ3 H4 e4 := by
        have up : Up (NN (fun b => M b ∨ b = D) σ3 e4) H3 (NN (fun b => M b ∨ b = D) σ3 e4) H4 := fun b u hu q n => ⟨rd_same hu q fun o nt e => kp b o (fun z => n (.inl (.inr z))) e, n⟩
        refine ⟨p.env.len, fun j d' h => ?_, fun j d' h => ?_, p.env.inj, fun b hb => ?_, fun P hP => kt P (p.env.tab P hP)⟩
        · obtain ⟨w, g1, g2⟩ := p.env.sh j d' h
          exact ⟨w, g1, g2.up up⟩
        · obtain ⟨b, g1, g2, g3⟩ := p.env.ow j d' h
          exact ⟨b, g1, g2, g3.up (fun o _ e => kp b o (fun z => g2 (.inr z)) e) up⟩
        · by_cases hbD : b = D
          · rw [hbD]; exact liveD
          · rw [hne b hbD]; exact p.env.live b hb
      have e6 := e5.wipe vs
      rw [hw] at e6
      refine ⟨e6, (B3.shp p.shp).wipe, fun b o nt e n => ?_, fun b h => ?_, fun b h => kt b (p.fr.t b (P5.fr.t b (B.tab b h))), ys', h1, h2.up fun b u hu q n => ?_⟩
      · have hbD : b ≠ D := fun z => by rw [z, hD] at e; cases e
        refine kp b o hbD (p.fr.k b o nt (P5.fr.k b o nt (B.fr b o nt e n) fun z => n (blk_own B.blk z)) fun z => n (own3 b e3 (Shp.refl _) z))
      · by_cases hbD : b = D
        · rw [hbD]; exact liveD
        · rw [hne b hbD]; exact p.fr.l b (P5.fr.l b (B.live b h))
      · refine ⟨rd_same hu q fun o nt e => kp b o (fun z => n (.inl (.inr z))) e, fun z => n ?_⟩
        rcases z with z | z
        · exact .inl z
        · rw [← hw] at z
          exact .inr (own_wipe z)
    refine ⟨hw, ?_⟩
    have liveD2 : H2 D = some (.lst ys) := sam.k D _ .lst hys
    split at hl <;> try cases hl
    · rename_i e4 q4
      refine tTv_run P4.env q4 fun H3 p3 => ?_
      rw [if_pos rfl]
      split at hl <;> try cases hl
      rename_i r5 e5 q5
      split at hl <;> try cases hl
      rename_i y e6 q6
      split at hl <;> try cases hl
      rename_i hz
      refine tEv_run p3.env q5 fun w H4 p4 z4 n4 => ?_
      obtain ⟨p5, z5⟩ := esc_ok p4.env z4 q6
      have pp := (p3.trans p4).trans p5
      have hD4 : H4 D = some (.lst ys) := pp.fr.k D _ .lst liveD2 fun z => by
        obtain ⟨j, d', h1, h2⟩ := z
        obtain ⟨b, h3, h4, _⟩ := P4.env.ow j d' h1
        rw [h2] at h3
        cases h3
        exact h4 (.inr rfl)
      have rl := relDs_len rys
      refine ⟨ys, hD4, by rw [rl]; exact Nat.lt_of_lt_of_le (Nat.lt_succ_self _) (sizeOk_le hz), wipeE e6 vs, acc ++ [y], fin pp (upd H4 D (.lst (ys ++ [w]))) (acc ++ [y]) (fun b hb => upd_ne hb) ⟨_, hD4⟩ ⟨_, upd_same, relDs_append ?_ ⟨w, [], rfl, z5, rfl⟩⟩, hl⟩
      exact ((rys.up P5.up).up pp.up)
    · rename_i e4 q4
      refine tTv_run P4.env q4 fun H3 p3 => ?_
      rw [if_neg Bool.false_ne_true]
      have hD3 : H3 D = some (.lst ys) := p3.fr.k D _ .lst liveD2 fun z => by
        obtain ⟨j, d', h1, h2⟩ := z
        obtain ⟨b, h3, h4, _⟩ := P4.env.ow j d' h1
        rw [h2] at h3
        cases h3
        exact h4 (.inr rfl)
      exact ⟨wipeE e4 vs, acc, fin p3 H3 acc (fun b _ => rfl) ⟨_, hD3⟩ ⟨ys, hD3, (rys.up P5.up).up p3.up⟩, hl⟩
  · left
    have e : i = ds.length := by omega
    subst e
    rw [List.drop_length] at hl
    have hE : acc = accF ∧ env_i = e2 := by
      cases hl
      exact ⟨rfl, rfl⟩
    obtain ⟨hE1, hE2⟩ := hE
    subst hE1
    subst hE2
    refine ⟨J'.2, ?_⟩
    obtain ⟨ys, hys, rys⟩ := B.lst
    have hsl : σ.length = e1.length := p1.env.len
    have owU : ∀ (j : Nat) (d : Dat), (unwipe e1 env_i vs)[j]? = some (some (Sl.ow d)) → j ∉ vs ∧ env_i[j]? = some (some (Sl.ow d)) := fun j d h => by
      rcases unwipe_get h with ⟨h1, h2⟩ | h1
      · exact absurd h2 (plainB_ok hpl h1)
      · exact h1
    have ownU : ∀ b, Own σ (unwipe e1 env_i vs) b → Own (wipe σ vs) env_i b := fun b ⟨j, d, h1, h2⟩ => by
      obtain ⟨h3, h4⟩ := owU j d h1
      exact ⟨j, d, h4, by rw [wipe_out h3]; exact h2⟩
    have upU : Up (NN (fun b => M b ∨ b = D) (wipe σ vs) env_i) H' (NN (fun b => M b ∨ b = D) σ (unwipe e1 env_i vs)) H' := less_up fun b z => z.imp id (ownU b)
    have upS : Up (NN M σ e1) H1 (NN (fun b => M b ∨ b = D) σ (unwipe e1 env_i vs)) H' := fun b u hu q n => let ⟨a, c⟩ := up1 b u hu q n; upU b u hu a c
    have rD : REnv X.K G (fun b => M b ∨ b = D) σ H' (unwipe e1 env_i vs) := by
      refine ⟨by rw [unwipe_len]; exact hsl, fun j d h => ?_, fun j d h => ?_, fun j j' d d' a h1 h2 h3 h4 => ?_, B.env.live, B.env.tab⟩
      · rcases unwipe_get h with ⟨h1, h2⟩ | ⟨h1, h2⟩
        · obtain ⟨w, g1, g2⟩ := p1.env.sh j d h2
          exact ⟨w, g1, g2.up upS⟩
        · obtain ⟨w, g1, g2⟩ := B.env.sh j d h2
          exact ⟨w, by rw [← wipe_out h1]; exact g1, g2.up upU⟩
      · obtain ⟨h1, h2⟩ := owU j d h
        obtain ⟨b, g1, g2, g3⟩ := B.env.ow j d h2
        exact ⟨b, by rw [← wipe_out h1]; exact g1, g2, g3.up (fun _ _ e => e) upU⟩
      · obtain ⟨g1, g2⟩ := owU j d h1
        obtain ⟨g3, g4⟩ := owU j' d' h2
        exact B.env.inj j j' d d' a g2 g4 (by rw [wipe_out g1]; exact h3) (by rw [wipe_out g3]; exact h4)
    have p2 : Post X.K G M σ H1 e1 H' (unwipe e1 env_i vs) := by
      refine ⟨⟨B.fr, B.live, B.tab⟩, ⟨unwipe_len, fun j d h => ?_, fun j s h => ?_⟩, rD.less fun b z => .inl z⟩
      · obtain ⟨h1, h2⟩ := owU j d h
        exact (B.blk.ow j d h2).2
      · have hj : j < e1.length := (List.getElem?_eq_some_iff.mp h).1
        by_cases hv : j ∈ vs
        · exact ⟨s, unwipe_of hj (.inl ⟨hv, h⟩)⟩
        · obtain ⟨s', h'⟩ := B.blk.has j s hv h
          exact ⟨s', unwipe_of hj (.inr ⟨hv, h'⟩)⟩
    refine k _ H' (p1.trans p2) ⟨D, rfl, fun z => ?_, rD, ys, hys, rys.up upU⟩ (New.back p1 ⟨D, rfl, hD⟩)
    rcases z with z | z
    · exact p1.env.live D z hD
    · obtain ⟨j, d, h1, h2⟩ := z
      obtain ⟨b, g1, g2, _⟩ := rD.ow j d h1
      rw [h2] at g1
      cases g1
      exact g2 (.inr rfl)
theorem pz_lc {elt tg iter : Expr} {ifs : List Expr} {scope : Scope} {own : List (Str × Nat)} {pos : Pos} {it : SI} {g : SG} {t : ST} {fe : SE} {ts : List Nat} (hc : X.calm = true) (hN : X.N.Nodup) (hi : PI X tg iter (tIv X.K G it)) (ok : BlkOk X.N X.env.scope scope own)
    (hg : ∀ (s : Shared) (H : Hp) (C : Addr) (cl : List (Str × Addr)) (fp : List Addr), PG (X.blk s H scope (compEnvC scope cl C X.env) fp) tg (tGv X.K G false ts g))
    (ht : ∀ (s : Shared) (H : Hp) (C : Addr) (cl : List (Str × Addr)) (fp : List Addr), PTs (X.blk s H scope (compEnvC scope cl C X.env) fp) ifs (tTv X.K G t))
    (he : ∀ (s : Shared) (H : Hp) (C : Addr) (cl : List (Str × Addr)) (fp : List Addr), PE (X.blk s H scope (compEnvC scope cl C X.env) fp) elt (tEv X.K G fe)) (hs : ∀ x, foldedSetIterable iter X.env x = pure x)
    (T : TgOk ts g) (hts : ∀ j ∈ ts, j ∈ own.map (·.2)) : PE X (.ListComp elt [⟨tg, iter, ifs, 0⟩] scope pos) (tEv X.K G (zLc it g t fe (own.map (·.2)))) :=
  PE.imp (pe_lc hc hN hi ok hg ht he hs) fun σ H Q h => lc_imp T hts σ H Q h
/-- name = [..] on one line -/
theorem pz_setLc {io : Bool} {i : Nat} {y : Str} {py : Pos} {elt tg iter : Expr} {ifs : List Expr} {scope : Scope} {own : List (Str × Nat)} {pos spos : Pos} {it : SI} {g : SG} {t : ST} {fe : SE} {ts : List Nat} (hc : X.calm = true) (hN : X.N.Nodup) (hy : X.N[i]? = some y) (hyl : X.env.scope.names.lookup y = some .local)
    (hsw : swapsWith (.ListComp elt [⟨tg, iter, ifs, 0⟩] scope pos) (some (.Name y py)) spos.line X.env = pure true) (hi : PI X tg iter (tIv X.K G it)) (ok : BlkOk X.N X.env.scope scope own)
    (hg : ∀ (s : Shared) (H : Hp) (C : Addr) (cl : List (Str × Addr)) (fp : List Addr), PG (X.blk s H scope (compEnvC scope cl C X.env) fp) tg (tGv X.K G false ts g))
    (ht : ∀ (s : Shared) (H : Hp) (C : Addr) (cl : List (Str × Addr)) (fp : List Addr), PTs (X.blk s H scope (compEnvC scope cl C X.env) fp) ifs (tTv X.K G t))
    (he : ∀ (s : Shared) (H : Hp) (C : Addr) (cl : List (Str × Addr)) (fp : List Addr), PE (X.blk s H scope (compEnvC scope cl C X.env) fp) elt (tEv X.K G fe)) (hs : ∀ x, foldedSetIterable iter X.env x = pure x)
    (T : TgOk ts g) (hts : ∀ j ∈ ts, j ∈ own.map (·.2)) : PS X (.Assign [.Name y py] (.ListComp elt [⟨tg, iter, ifs, 0⟩] scope pos) spos) (tSv X.K G io (zSet io i (zLc it g t fe (own.map (·.2))))) := by
  refine PS.imp (ps_setLc hc hN hy hyl hsw hi ok hg ht he hs) ?_
  rintro D σ H ⟨M, env, fl, e, hp, q, k⟩
  refine lc_imp (fe := fe) (t := t) (it := it) T hts σ H _ ?_
  unfold zSet at q
  split at q <;> try cases q
  rename_i r e1 q1
  split at q <;> try cases q
  rename_i hb
  split at q <;> try cases q
  rename_i e2 q2
  exact tEv_run e q1 fun v H' p z n => k _ H' (put_ok (p.st (pinB_ok hb)) z n q2)
end
end Zz
end

section
set_option Elab.async false
set_option linter.all false
set_option maxRecDepth 100000
namespace Zz
open PySem PySem.Spec PyProof.Rows L2

/-! ### generator expressions: what hands out, what asks -/
/-- asleep: who asks keeps nothing of ours but a list of its own, where it puts what came -/
structure Slo (o : Option Addr) (v : Value) (s s' : Shared) : Prop where
  os : s'.os = s.os
  bare : AllBare s'.gens
  keep : ∀ b u, o ≠ some b → s.heap.get? b = some u → s'.heap.get? b = some u
  own : ∀ S acc c, o = some S → s.heap.get? S = some (lstObj acc c) → ∃ c', s'.heap.get? S = some (lstObj (acc.push v) c')
def oPins (o : Option Addr) (acc : Array Value) (c : Nat) : List (Addr × Obj) := match o with
  | none => []
  | some S => [(S, lstObj acc c)]
/-- awake: ys has come out so far -/
def GIx (X : Cx) (o : Option Addr) (ip : List (Addr × Obj)) (ys : List V) (σ : L2.St) (H : Hp) (s : Shared) : Prop :=
  ∃ (acc : Array Value) (c : Nat), Vals ys acc.toList ∧ Inv X (oPins o acc c ++ ip) σ H s
theorem GIx.inv {X : Cx} {o : Option Addr} {ip : List (Addr × Obj)} {ys : List V} {σ : L2.St} {H : Hp} {s : Shared} (h : GIx X o ip ys σ H s) : Inv X ip σ H s := by
  obtain ⟨acc, c, _, I⟩ := h
  exact I.pins_of fun p hp => I.pin p (List.mem_append_right _ (List.mem_append_right _ hp))
theorem GIx.woken {X : Cx} {o : Option Addr} {ip : List (Addr × Obj)} {ys : List V} {x : V} {v : Value} {σ : L2.St} {H : Hp} {s s' : Shared} (hpn : ∀ S, o = some S → (∀ p ∈ X.pn, p.1 ≠ S) ∧ (∀ p ∈ ip, p.1 ≠ S) ∧ Apart X S)
    (h : GIx X o ip ys σ H s) (rv : RelV x v) (z : Slo o v s s') : GIx X o ip (ys ++ [x]) σ H s' := by
  cases o with
  | none =>
    obtain ⟨acc, c, r, I⟩ := h
    have k : ∀ b u, s.heap.get? b = some u → s'.heap.get? b = some u := fun b u e => z.keep b u (fun q => by cases q) e
    refine ⟨acc.push v, c, ?_, I.call' (ch := []) z.os (Un.kept k) (I.hok.kept k) z.bare fun b hb => by cases hb⟩
    rw [Array.toList_push]
    exact r.append (.cons rv .nil)
  | some S =>
    obtain ⟨h1, h2, h3⟩ := hpn S rfl
    have G : GI X S ip ys σ H s := h
    exact G.woken h1 h2 h3 rv ⟨z.os, z.bare, fun b u hb e => z.keep b u (fun q => hb (Option.some.inj q).symm) e, fun acc c e => z.own S acc c rfl e⟩

/-- what the asker is told of x: what came before it, the heap; K: it may ask again -/
abbrev YP := List V → V → Hp → Prop → Prop
def YMono (Y : YP) : Prop := ∀ ys x H (K K' : Prop), (K → K') → Y ys x H K → Y ys x H K'
def PY (X : Cx) (o : Option Addr) (Y : YP) : Protocol := fun n s₀ v s kap =>
  ∃ ip ys x σ H, n + 1 + ys.length = sizeLine ∧ RelV x v ∧ GIx X o ip ys σ H s ∧ Y ys x H (∀ s', Slo o v s s' → kap (.send .none) s')
def PR (X : Cx) (o : Option Addr) (Q : List V → Hp → Prop) : GenEnd := fun n s₀ r s => r = .ok .next ∧ ∃ ys σ H, n + ys.length = sizeLine ∧ GIx X o [] ys σ H s ∧ Q ys H

/-- the turns: W by the turn, a measure, what came -/
def GTurns (J : It) (g : TG) (tt : TT) (te : TE) (Y : YP) (Q : List V → Hp → Prop) (vs : List Nat) (σ : L2.St) (W : Nat → Nat → List V → Hp → Prop) : Prop := ∀ i m ys H, W i m ys H →
  (J.stop i H ∧ Q ys H) ∨ (J.go i H ∧ ∃ Nx : List V → Hp → Prop, (∀ ys' H', Nx ys' H' → ∃ m', m' < m ∧ W (i + 1) m' ys' H') ∧ ∀ x H', J.yld i H x H' → g x (wipe σ vs) H' fun σ2 H2 => wipe σ2 vs = wipe σ vs ∧ tt σ2 H2 fun b H3 =>
    if b = true then te σ2 H3 fun y H4 => ys.length < sizeLine ∧ Y ys y H4 (Nx (ys ++ [y]) H4) else Nx ys H3)

section
variable {X : Cx} {A : Around} {o : Option Addr} {Y : YP} {Q : List V → Hp → Prop} {elt tg iter : Expr} {ifs : List Expr} {scope : Scope} {pos : Pos} {it : Addr} {fp : List Addr} {tn : Nat → Heap → Prop} {J : It} {g : TG} {tt : TT} {te : TE} {vs : List Nat} {σ : L2.St} {W : Nat → Nat → List V → Hp → Prop}
theorem gx_loop (hc : X.calm = true) (hov : A.over (.compLoop (.GeneratorExp elt [⟨tg, iter, ifs, 0⟩] scope pos) 0 (.ref it) .none X.env) [] = X.A) (T : Turn X.prog X.w X.K tg J fp it tn) (hex : X.ex = fp) (hxe : X.xe = fun _ _ => False) (hco : X.env.scope.isCoroutine = false)
    (hpf : ∀ p ∈ X.pn, p.1 ∉ fp) (ho : ∀ S, o = some S → (∀ p ∈ X.pn, p.1 ≠ S) ∧ S ∉ fp ∧ Apart X S) (pg : PG X tg g) (pt : PTs X ifs tt) (pe : PE X elt te) (hY : YMono Y) (turn : GTurns J g tt te Y Q vs σ W) :
    ∀ (m i n : Nat) (ys : List V) (s₀ s : Shared) (H : Hp), n + ys.length = sizeLine → W i m ys H → GIx X o [] ys (wipe σ vs) H s → tn i s.heap → (∀ b ∈ fp, H b = none) →
    Seg (model X.prog X.w) A (PR X o Q) (PY X o Y) n s₀ (.compLoop (.GeneratorExp elt [⟨tg, iter, ifs, 0⟩] scope pos) 0 (.ref it) .none X.env)
      ((model X.prog X.w).den (.compLoop (.GeneratorExp elt [⟨tg, iter, ifs, 0⟩] scope pos) 0 (.ref it) .none X.env)) [] s := by
  intro m
  induction m using Nat.strongRecOn with
  | ind m ih =>
    intro i n ys s₀ s H hn w hI st nf
    show Seg _ A _ _ _ s₀ _ ((compTurn (.GeneratorExp elt [⟨tg, iter, ifs, 0⟩] scope pos) 0 (.ref it) .none X.env).onRaise (leaving X.env)) [] s
    rw [compTurn_gen, Sem.onRaise_eq_wrap]
    refine seg_bind_wrap (wpAny_standAt ?_)
    obtain ⟨acc, cc, r, I⟩ := hI
    have stat : ∀ {σ' : L2.St} {H' : Hp} {s' : Shared} {acc' : Array Value} {c' : Nat}, Inv X (oPins o acc' c' ++ []) σ' H' s' → (∀ b ∈ fp, H' b = none) → ∀ b ∈ fp, FpOk X (oPins o acc' c' ++ []) H' b := fun {σ' H' s' acc' c'} I' hn' b hb => by
      have hbx : b ∈ X.ex := by rw [hex]; exact hb
      refine ⟨hn' b hb, (I'.ok.exf b hbx).1, I'.ok.exfs b hbx, .inl hbx, fun x c e => (I'.ok.exf b hbx).2 x c e, fun p hp z => ?_⟩
      rcases List.mem_append.mp hp with hp | hp
      · exact hpf p hp (by rw [z]; exact hb)
      · rw [List.append_nil] at hp
        cases o with
        | none => cases hp
        | some S =>
          have e : p = (S, lstObj acc' c') := by simpa [oPins] using hp
          exact (ho S rfl).2.1 (by rw [show S = b by rw [← z, e]]; exact hb)
    rcases turn i m ys H w with ⟨stop, qq⟩ | ⟨go, Nx, hNx, step⟩
    · refine seg_bind_wrap ?_
      rw [hov]
      refine thnF (T.done X rfl rfl rfl hc i _ s _ H (fun _ _ => False) I (stat I nf) st stop) fun u s1 ⟨hu, I1⟩ => ?_
      subst hu
      exact seg_end (.ok .next) ⟨rfl, ys, _, H, hn, ⟨acc, cc, r, I1⟩, qq⟩
    · refine seg_bind_wrap ?_
      rw [hov]
      refine thnF (T.item X rfl rfl rfl hc i _ s _ H (fun _ _ => False) I (stat I nf) st go) fun u0 s1 ⟨u, hu, h1⟩ => ?_
      subst hu
      refine seg_bind_wrap ?_
      rw [hov]
      refine thnF h1 fun _ s2 ⟨x, H2, I2, r2, y2, st2, nf2⟩ => ?_
      have I3 := I2.pinned (stat I2 nf2) (T.obj _ _ st2)
      rw [List.append_nil] at I3
      have hxF : ∀ {α : Type} {t : Sem α} {Q' : α → Shared → Prop} {s' : Shared}, wpAny (model X.prog X.w) X.A t Q' X.xe s' → wpAny (model X.prog X.w) X.A t Q' (fun _ _ => False) s' := fun h => by rw [hxe] at h; exact h
      refine seg_bind_wrap ?_
      rw [hov]
      refine thnF (hxF (pg.run _ s2 _ H2 x u _ I3 r2 (step x H2 y2))) fun _ s3 ⟨σ3, H3, I4, hw, q4⟩ => ?_
      refine seg_bind_wrap ?_
      rw [hov]
      refine thnF (hxF (pt.run _ s3 σ3 H3 _ I4 q4)) fun b s4 ⟨H4, I5, q5⟩ => ?_
      -- the turn's end
      have fin : ∀ {ys' : List V} {n' : Nat} {s₀' s' : Shared} {H' : Hp}, n' + ys'.length = sizeLine → GIx X o (pinsAt fp s2.heap) ys' σ3 H' s' → Nx ys' H' →
          Seg (model X.prog X.w) A (PR X o Q) (PY X o Y) n' s₀' (.compLoop (.GeneratorExp elt [⟨tg, iter, ifs, 0⟩] scope pos) 0 (.ref it) .none X.env)
            (.pure (.again (.compLoop (.GeneratorExp elt [⟨tg, iter, ifs, 0⟩] scope pos) 0 (.ref it) .none X.env))) [] s' := fun {ys' n' s₀' s' H'} hn' hI' nx => by
        obtain ⟨m', hm, w'⟩ := hNx ys' H' nx
        have I' := hI'.inv
        obtain ⟨acc', c', r', Ia⟩ := hI'
        have pin' : ∀ b ∈ fp, ∀ ob, s2.heap.get? b = some ob → s'.heap.get? b = some ob ∧ H' b = none := fun b hb ob e =>
          let z := I'.pin (b, ob) (List.mem_append_right _ (mem_pinsAt hb e))
          ⟨z.1, z.2.1⟩
        have hl : (wipe σ vs).length = σ3.length := by rw [← hw, wipe_length]
        have Iu : Inv X (oPins o acc' c' ++ []) (wipe σ vs) H' s' := by
          refine (Ia.pins_of fun p hp => Ia.pin p (List.mem_append_right _ (List.mem_append_left _ ?_))).weak hl fun j v e => ?_
          · rw [List.append_nil] at hp; exact hp
          · rw [← hw] at e
            exact (wipe_some e).1
        refine seg_again rfl (ih m' hm (i + 1) n' ys' s₀' s' H' hn' w' ⟨acc', c', r', Iu⟩ (T.keep _ _ _ st2 fun b hb ob e => (pin' b hb ob e).1) fun b hb => ?_)
        obtain ⟨ob, e, _⟩ := T.obj _ _ st2 b hb
        exact (pin' b hb ob e).2
      cases b with
      | false =>
        rw [if_neg Bool.false_ne_true] at q5
        simp only [Bool.false_eq_true, if_false]
        exact fin hn ⟨acc, cc, r, I5⟩ q5
      | true =>
        rw [if_pos rfl] at q5
        simp only [if_true]
        have hy : ∀ v, yieldOut X.env v = yieldValue v := fun v => by simp only [yieldOut, hco, Bool.false_eq_true, if_false]
        simp only [hy]
        rw [Sem.bind_eq_wrap', Sem.bind_eq_wrap', Sem.wrap_wrap, Sem.wrap_wrap]
        refine seg_wrap ?_
        rw [hov]
        refine thnF (hxF (pe.run _ s4 σ3 H4 _ I5 q5)) fun v s5 ⟨y, H5, I6, ry, hlt, hyp⟩ => ?_
        obtain ⟨n', rfl⟩ : ∃ k, n = k + 1 := ⟨n - 1, by omega⟩
        refine seg_at (seg_yield rfl rfl rfl ?_)
        have G : GIx X o (pinsAt fp s2.heap) ys σ3 H5 s5 := ⟨acc, cc, r, I6⟩
        refine ⟨pinsAt fp s2.heap, ys, y, σ3, H5, hn, ry, G, hY _ _ _ _ _ (fun nx s' z => ?_) hyp⟩
        refine fin ?_ (G.woken (fun S e => ⟨(ho S e).1, fun p hp q => (ho S e).2.1 (by rw [← q]; exact (of_pinsAt hp).1), (ho S e).2.2⟩) ry z) nx
        rw [List.length_append, List.length_singleton]
        omega
theorem gx_start (hc : X.calm = true) (hov : A.over (.compLoop (.GeneratorExp elt [⟨tg, iter, ifs, 0⟩] scope pos) 0 (.ref it) .none X.env) [] = X.A)
    (hov0 : A.over (.compStart (.GeneratorExp elt [⟨tg, iter, ifs, 0⟩] scope pos) 0 (.ref it) .none X.env) [] = X.A) (T : Turn X.prog X.w X.K tg J fp it tn) (hex : X.ex = fp) (hxe : X.xe = fun _ _ => False) (hco : X.env.scope.isCoroutine = false)
    (hpf : ∀ p ∈ X.pn, p.1 ∉ fp) (ho : ∀ S, o = some S → (∀ p ∈ X.pn, p.1 ≠ S) ∧ S ∉ fp ∧ Apart X S) (pg : PG X tg g) (pt : PTs X ifs tt) (pe : PE X elt te) (hY : YMono Y) (turn : GTurns J g tt te Y Q vs σ W)
    {m n : Nat} {s₀ s : Shared} {H : Hp} (hn : n = sizeLine) (w : W 0 m [] H) (hI : GIx X o [] [] (wipe σ vs) H s) (st : tn 0 s.heap) (nf : ∀ b ∈ fp, H b = none) :
    Seg (model X.prog X.w) A (PR X o Q) (PY X o Y) n s₀ (.compStart (.GeneratorExp elt [⟨tg, iter, ifs, 0⟩] scope pos) 0 (.ref it) .none X.env)
      ((model X.prog X.w).den (.compStart (.GeneratorExp elt [⟨tg, iter, ifs, 0⟩] scope pos) 0 (.ref it) .none X.env)) [] s := by
  have loop := gx_loop (pos := pos) (iter := iter) (scope := scope) hc hov T hex hxe hco hpf ho pg pt pe hY turn m 0 n [] s₀ s H (by rw [hn]; rfl) w hI st nf
  show Seg _ A _ _ _ s₀ _ ((compStart (.GeneratorExp elt [⟨tg, iter, ifs, 0⟩] scope pos) 0 (.ref it) .none X.env).onRaise (leaving X.env)) [] s
  unfold compStart
  rw [Sem.onRaise_eq_wrap]
  show Seg _ A _ _ _ s₀ _ ((ask >>= _).wrap _ _ _ _) [] s
  refine seg_bind_wrap (wpAny_askSetting ?_)
  split
  · exact seg_again rfl loop
  · refine seg_bind_wrap (wpAny_rule ?_)
    refine seg_bind_wrap (wpAny_standAt ?_)
    exact seg_bind_wrap (T.self _ _ _ _ _ st (seg_again rfl loop))
end
end Zz
end

section
set_option Elab.async false
set_option linter.all false
set_option maxRecDepth 100000
namespace Zz
open PySem PySem.Spec PyProof.Rows L2

theorem over_gx {A : Around} {elt : Expr} {gs : List Comprehension} {scope : Scope} {pos : Pos} {it acc : Value} {env : Env} : A.over (.compLoop (.GeneratorExp elt gs scope pos) 0 it acc env) [] = A.deeper env := by
  obtain ⟨hd, d, fr, gd, u⟩ := A
  simp [Around.over, Around.deeper, marksOver, frameCount, unitsOf, envsOf, guardsOf, pushEnvs, pushGuards, Code.envs, Code.env?, Code.isFrame, Code.guards, Code.isGuard, Code.weight, Code.frames, Code.isCreation, Code.isCaller, Code.cUnits]
theorem over_gx0 {A : Around} {elt : Expr} {gs : List Comprehension} {scope : Scope} {pos : Pos} {it acc : Value} {env : Env} : A.over (.compStart (.GeneratorExp elt gs scope pos) 0 it acc env) [] = A.deeper env := by
  obtain ⟨hd, d, fr, gd, u⟩ := A
  simp [Around.over, Around.deeper, marksOver, frameCount, unitsOf, envsOf, guardsOf, pushEnvs, pushGuards, Code.envs, Code.env?, Code.isFrame, Code.guards, Code.isGuard, Code.weight, Code.frames, Code.isCreation, Code.isCaller, Code.cUnits]

/-- the frame of a generator expression -/
abbrev gEnv (X : Cx) (scope : Scope) (C : Addr) (code : Value) : Env := genEnv scope (cloFrom X.env.cells scope.names []) C code builtinsNs X.env
abbrev gCx (X : Cx) (s : Shared) (H : Hp) (scope : Scope) (C : Addr) (code : Value) (fp : List Addr) (A : Around) (pn : List (Addr × Obj)) : Cx :=
  { X with s_0 := s, H_0 := H, A := A.deeper (gEnv X scope C code), env := gEnv X scope C code, outer := X.stack, stack := gEnv X scope C code :: X.stack, ex := fp, fn := fun _ => false, pn := pn, xe := fun _ _ => False }
/-- its names -/
structure GBlk (N : List Str) (sc scope : Scope) (own : List (Str × Nat)) : Prop where
  kind : scope.kind = .function
  co : scope.isCoroutine = false
  nocell : ∀ y ∈ scope.names, y.2 ≠ .cell
  dot : scope.names.lookup (".0" : Str) = some NameKind.local
  ix : ∀ p ∈ own, N[p.2]? = some p.1
  free : ∀ y ∈ scope.names, y.2 = .free → sc.names.lookup y.1 = some .cell ∨ sc.names.lookup y.1 = some .free
  own : ∀ y ∈ scope.names, y.2 = .local → y.1 ∈ own.map (·.1) ∨ y.1 ∉ N

section
variable {X : Cx} {pins ps : List (Addr × Obj)} {σ : L2.St} {H : Hp} {sc s2 : Shared} {scope : Scope} {own : List (Str × Nat)} {fp : List Addr} {C : Addr} {code : Value} {A : Around} {pn : List (Addr × Obj)}
theorem GBlk.has (B : GBlk X.N X.env.scope scope own) (I : Inv X pins σ H sc) : ∀ y ∈ scope.names, y.2 = .free → ∃ c, X.env.cells.lookup y.1 = some c := fun y hy e =>
  I.ok.has y.1 (B.free y hy e)
theorem gx_inv0 {m0 : Str → Option Value} (I : Inv X pins σ H sc) (B : GBlk X.N X.env.scope scope own) (hN : X.N.Nodup) (hfp : ∀ b ∈ fp, FpOk X pins H b ∧ b < sc.heap.objs.size) (hA : A.handled = none) (hfr : A.frames = some X.stack)
    (hC : sc.heap.objs.size ≤ C) (kp : ∀ b ob, sc.heap.get? b = some ob → s2.heap.get? b = some ob) (hn : s2.heap.Ns C m0) (hos : s2.os = sc.os) (hb : AllBare s2.gens)
    (hpn : ∀ p ∈ pn ++ ps, s2.heap.get? p.1 = some p.2 ∧ sc.heap.objs.size ≤ p.1 ∧ p.1 ≠ C ∧ ∀ v, p.2.data ≠ .cell v) :
    Inv (gCx X sc H scope C code fp A pn) ps (wipe σ (own.map (·.2))) H s2 := by
  have cl : ∀ {y c}, (gEnv X scope C code).cells.lookup y = some c → X.env.cells.lookup y = some c ∧ c < sc.heap.objs.size := fun {y c} e => by
    have e' : (cloFrom X.env.cells scope.names []).lookup y = some c := e
    rcases cloFrom_mem (PySem.mem_of_lookup e') with z | ⟨z1, z2⟩
    · cases z
    · obtain ⟨c', hc'⟩ := B.has I _ z1 rfl
      rw [hc'] at z2
      have z3 : c = c' := z2
      subst z3
      obtain ⟨v, q⟩ := I.cell _ _ hc'
      exact ⟨hc', q.lt⟩
  have nc : ∀ {y}, scope.names.lookup y = some .cell → False := fun {y} e => B.nocell _ (PySem.mem_of_lookup e) rfl
  have lk : ∀ {y}, scope.names.lookup y = some .free → ∃ c, (gEnv X scope C code).cells.lookup y = some c ∧ X.env.cells.lookup y = some c := fun {y} e => by
    obtain ⟨c, hc⟩ := mem_lookup (cloFrom_has (cells := X.env.cells) (acc := []) (PySem.mem_of_lookup e))
    exact ⟨c, hc, (cl hc).1⟩
  have sne : ∀ b ∈ fp, b < C := fun b h => Nat.lt_of_lt_of_le (hfp b h).2 hC
  have okG : (gCx X sc H scope C code fp A pn).Ok := {
    mod := I.ok.mod
    kind := B.kind
    glob := I.ok.glob
    blt := rfl
    above := hC
    inj := fun x y c h1 h2 => I.ok.inj x y c (cl h1).1 (cl h2).1
    has := fun x h => by
      rcases h with h | h
      · exact (nc h).elim
      · obtain ⟨c, h1, _⟩ := lk h
        exact ⟨c, h1⟩
    cab := fun x c h => by cases h
    hd := fun _ => hA
    frames := Around.frames_deeper hfr
    stk := .inr ⟨rfl, rfl⟩
    exf := fun b h => ⟨Nat.ne_of_lt (sne b h), fun x c e => (hfp b h).1.2.2.2.2.1 x c (cl e).1⟩
    bs := I.bs
    bsz := Nat.le_trans I.ok.bsz I.sz
    noex := fun b ob e h => by
      rcases (hfp b h).1.2.2.2.1 with z | z
      · exact I.ok.noex b ob e z
      · exact Nat.lt_irrefl _ (Nat.lt_of_lt_of_le (Heap.lt_size e) (Nat.le_trans I.ok.bsz z))
    exfs := fun b h z => by
      rcases List.mem_cons.mp (I.stkSub b z) with q | q
      · exact (hfp b h).1.2.1 q
      · exact (hfp b h).1.2.2.1 q
    funs := I.stack
    frf := I.stkFree }
  have fresh : ∀ a, sc.heap.objs.size ≤ a → H a = none := fun a h => I.hok.fresh h
  refine { ok := okG, os := hos, bare := hb, base := Un.kept kp, loc := ⟨m0, hn, fun i y v e1 e2 e3 => ?_⟩, cell := fun y c e => ?_, free := fresh C hC, freeC := fun y c e => I.freeC y c (cl e).1, pin := fun p hp => ?_, hok := I.hok.kept kp, len := ?_ }
  · obtain ⟨e2, ni⟩ := wipe_some e2
    have e3 : Vis scope y := e3
    have hf : scope.names.lookup y = some .free := by
      rcases e3 with z | z | z
      · exfalso
        rcases B.own _ (PySem.mem_of_lookup z) rfl with q | q
        · obtain ⟨p, hp, e⟩ := List.mem_map.mp q
          have e5 := B.ix p hp
          rw [show p.1 = y from e] at e5
          exact ni (List.mem_map.mpr ⟨p, hp, nodup_ix hN e5 e1⟩)
        · exact q (List.mem_of_getElem? e1)
      · exact (nc z).elim
      · exact z
    have hv : X.env.scope.names.lookup y = some .cell ∨ X.env.scope.names.lookup y = some .free := B.free _ (PySem.mem_of_lookup hf) rfl
    obtain ⟨m, hm, hl⟩ := I.loc
    obtain ⟨u, ru, lu⟩ := hl i y v e1 e2 (hv.elim (fun z => .inr (.inl z)) fun z => .inr (.inr z))
    obtain ⟨c, h1, h2⟩ := lk hf
    refine ⟨u, ru, .inr ⟨.inr hf, c, h1, ?_⟩⟩
    rcases lu with ⟨z, _⟩ | ⟨_, c', e', z⟩
    · have z' : X.env.scope.names.lookup y = some .local := z
      rcases hv with q | q <;> (rw [q] at z'; cases z')
    · rw [h2] at e'
      cases e'
      exact z.keeps kp
  · obtain ⟨v, q⟩ := I.cell y c (cl e).1
    exact ⟨v, q.keeps kp⟩
  · obtain ⟨q1, q2, q3, q4⟩ := hpn p hp
    refine ⟨q1, fresh _ q2, q3, fun z => ?_, q4⟩
    rcases List.mem_cons.mp (I.stkSub p.1 z) with q | q
    · exact absurd (Nat.lt_of_lt_of_le I.lt (by rw [← q]; exact q2)) (Nat.lt_irrefl _)
    · exact I.nofs q2 q
  · rw [wipe_length]
    exact I.len

/-- what is known of the asker's list -/
def OCell (o : Option Addr) (H' : Hp) (ys : List V) (s1 : Shared) : Prop := ∀ S, o = some S → H' S = none ∧ ∃ (acc : Array Value) (c : Nat), s1.heap.get? S = some (lstObj acc c) ∧ Vals ys acc.toList
def REx (X : Cx) (sc : Shared) (H : Hp) (fp : List Addr) (o : Option Addr) (Q : List V → Hp → Prop) : GenEnd := fun n s₀ r s1 => r = .ok .next ∧
  ∃ H' ys, s1.os = sc.os ∧ AllBare s1.gens ∧ Un (frs X.stack) fp H H' sc.heap s1.heap ∧ HOk X.prog X.w H' s1.heap ∧ OCell o H' ys s1 ∧ ys.length ≤ sizeLine ∧ Q ys H'
def YEx (X : Cx) (sc : Shared) (H : Hp) (fp : List Addr) (o : Option Addr) (a : Addr) (g : Nat) (Y : YP) : Protocol := fun n s₀ v s1 kap => s1.os = sc.os ∧ AllBare s1.gens ∧ s1.heap.NoLimit ∧ s1.heap.IsGen a g ∧
  ∃ ys x H', n + 1 + ys.length = sizeLine ∧ RelV x v ∧ Un (frs X.stack) fp H H' sc.heap s1.heap ∧ HOk X.prog X.w H' s1.heap ∧ OCell o H' ys s1 ∧ Y ys x H' (∀ s', Slo o v s1 s' → kap (.send .none) s')
/-- a generator expression that nobody has asked yet -/
structure GMx (X : Cx) (k : Nat) (sc : Shared) (H : Hp) (fp : List Addr) (J : It) (gt : TG) (tt : TT) (te : TE) (vs : List Nat) (σ : L2.St) (u : Value) (a : Addr) (g : Nat) (c : Code) (s' : Shared) : Prop where
  val : u = .ref a
  ge : sc.heap.objs.size ≤ a
  lt : a < s'.heap.objs.size
  gen : s'.heap.IsGen a g
  gs : s'.gens[g]? = some (.fresh c)
  os : s'.os = sc.os
  bare : AllBare s'.gens
  lim : s'.heap.NoLimit
  kept : ∀ b ob, sc.heap.get? b = some ob → s'.heap.get? b = some ob
  wake : ∀ (A : Around) (o : Option Addr) (s2 : Shared) (Y : YP) (Q : List V → Hp → Prop) (W : Nat → Nat → List V → Hp → Prop) (m : Nat), Room (k + 1) A → A.frames = some X.stack → (∀ S, o = some S → s'.heap.objs.size ≤ S ∧ ∃ c, s2.heap.get? S = some (lstObj #[] c)) →
    (∀ b ob, s'.heap.get? b = some ob → s2.heap.get? b = some ob) → s2.os = sc.os → AllBare s2.gens → YMono Y → GTurns J gt tt te Y Q vs σ W → W 0 m [] H →
    Seg (model X.prog X.w) A (REx X sc H fp o Q) (YEx X sc H fp o a g Y) sizeLine s2 c ((model X.prog X.w).den c) [] s2
end
end Zz
end

section
set_option Elab.async false
set_option linter.all false
set_option maxRecDepth 100000
namespace Zz
open PySem PySem.Spec PyProof.Rows L2

section
variable {X : Cx} {pins : List (Addr × Obj)} {σ : L2.St} {H : Hp} {s : Shared}
theorem oCell_of {Xg : Cx} {o : Option Addr} {ip : List (Addr × Obj)} {ys : List V} {σ' : L2.St} {H' : Hp} {s1 : Shared} {acc : Array Value} {c : Nat} (r : Vals ys acc.toList) (I : Inv Xg (oPins o acc c ++ ip) σ' H' s1) : OCell o H' ys s1 := fun S e => by
  subst e
  obtain ⟨h1, h2, _⟩ := I.pin (S, lstObj acc c) (List.mem_append_right _ List.mem_cons_self)
  exact ⟨h2, acc, c, h1, r⟩
theorem gx_make {c P : Addr} {elt tg iter : Expr} {ifs : List Expr} {scope : Scope} {gpos : Pos} {own : List (Str × Nat)} {wi : TI} {gt : TG} {tt : TT} {te : TE} {k : Nat} {Q' : Value → Shared → Prop} {R : It → Hp → Prop}
    (hr : Room k X.A) (hc : X.calm = true) (hN : X.N.Nodup) (TB : GxR.TabB X.base X.mg c P) (hcode : X.env.code = .ref c) (B : GBlk X.N X.env.scope scope own) (hi : PI X tg iter wi)
    (hg : ∀ (s : Shared) (H : Hp) (C : Addr) (cd : Value) (fp : List Addr) (A : Around) (pn : List (Addr × Obj)), PG (gCx X s H scope C cd fp A pn) tg gt)
    (ht : ∀ (s : Shared) (H : Hp) (C : Addr) (cd : Value) (fp : List Addr) (A : Around) (pn : List (Addr × Obj)), Room k (gCx X s H scope C cd fp A pn).A → PTs (gCx X s H scope C cd fp A pn) ifs tt)
    (he : ∀ (s : Shared) (H : Hp) (C : Addr) (cd : Value) (fp : List Addr) (A : Around) (pn : List (Addr × Obj)), Room k (gCx X s H scope C cd fp A pn).A → PE (gCx X s H scope C cd fp A pn) elt te)
    (hs : ∀ v, genFold iter X.env v = pure v) (I : Inv X pins σ H s) (h : wi σ H fun J H1 => GxR.TabG H1 P ∧ ∀ H2, GxR.Tabbed P H1 H2 → R J H2)
    (hQ : ∀ sc H2 fp J u a g cd s', Inv X pins σ H2 sc → R J H2 → (∀ b ∈ fp, FpOk X pins H2 b) → GMx X k sc H2 fp J gt tt te (own.map (·.2)) σ u a g cd s' → Q' u s') :
    wpAny (model X.prog X.w) X.A (eval (.GeneratorExp elt [⟨tg, iter, ifs, 0⟩] scope gpos) X.env) Q' X.xe s := by
  refine wpAny_GeneratorExp_make B.co (closure_ok (B.has I)) B.nocell B.dot B.kind (by have := hr.dp; omega) ?_ hs
  refine thn (hi.run pins s σ H _ I h) fun xv s1 h1 => thn h1 fun itv s2 h2 => ?_
  obtain ⟨it, fp, tn, J, H1, e, I2, T, st2, f2, ⟨ps, hP, htr⟩, q⟩ := h2
  subst e
  refine ⟨I2.nolimit, ?_⟩
  have hPs : s2.heap.get? P = some { cls := .none, data := .fields ps } := I2.hok P _ hP
  have cd0 : PySem.W.CodeHd s2.heap c P := TB.code.keeps fun b u e => I2.bk b u e
  have cont : ∀ (code : Value) (h3 : Heap) (tk : Nat) (ps' : Array Value), Heap.ExtBut P s2.heap h3 → s2.heap.objs.size ≤ h3.objs.size → h3.get? P = some { cls := .none, data := .fields ps' } → (∃ more, ps' = ps ++ more) → TriplesOk ps'.toList →
      wpAny (model X.prog X.w) X.A (builtinsFor X.env.globals X.env.builtins) (fun bi s₄ => ∀ h', h'.Ns s₄.heap.objs.size (fun y => if y = (".0" : Str) then some (.ref it) else none) →
        Heap.SameBut s₄.heap.objs.size (s₄.heap.push { cls := .type "frame", data := .dict #[] }) h' →
        Q' (.ref h'.objs.size) { s₄ with
            gens := s₄.gens.push (.fresh (.compStart (.GeneratorExp elt [⟨tg, iter, ifs, 0⟩] scope gpos) 0 (.ref it) .none (genEnv scope (cloFrom X.env.cells scope.names []) s₄.heap.objs.size code bi X.env))),
            toks := s₄.toks + 1 + 1 + 1,
            heap := h'.push { cls := .type "generator", data := .fields #[.int s₄.gens.size 0, .str "<genexpr>" (s₄.toks + 1), .str (X.env.qual ++ "<genexpr>") (s₄.toks + 1 + 1)] } }) X.xe { s2 with heap := h3, toks := tk } := by
    intro code h3 tk ps' hx hsz hP3 hmore ht3
    obtain ⟨bm, ob, e1, e2, e3, e4, e5, e6, e7, e8⟩ := TB.bm
    have keep3 : ∀ b u, b ≠ P → s2.heap.get? b = some u → h3.get? b = some u := fun b u hb e => hx b u hb e
    refine wpAny_builtinsFor (m := X.mg) (by rw [I2.ok.glob]; exact (I2.mod.glob.keeps I2.bk).extBut hx TB.gP) e1 e2 (keep3 _ _ e4 (I2.bk _ _ e5)) e6 e7 e8 ?_
    obtain ⟨more, em⟩ := hmore
    -- the state where the table has grown
    have J3 : Inv X pins σ (upd H1 P (.tbl (ps ++ more))) { s2 with heap := h3, toks := tk } := GxR.inv_tab (more := more) (h' := h3) (g' := s2.gens) (d' := s2.drawn) (t' := tk) I2 hP keep3 (by rw [← em]; exact hP3) I2.bare
    have hTb : GxR.Tabbed P H1 (upd H1 P (.tbl (ps ++ more))) := ⟨⟨ps ++ more, upd_same, by rw [← em]; exact ht3⟩, fun b hb => upd_ne hb⟩
    have nP : ∀ b ∈ fp, b ≠ P := fun b hb z => by
      have := (f2 b hb).1
      rw [z, hP] at this
      cases this
    have f3 : ∀ b ∈ fp, FpOk X pins (upd H1 P (.tbl (ps ++ more))) b := fun b hb => ⟨by rw [upd_ne (nP b hb)]; exact (f2 b hb).1, (f2 b hb).2⟩
    generalize hH3 : upd H1 P (.tbl (ps ++ more)) = H3 at J3 hTb f3
    have rJ := q H3 hTb
    have tn3 : tn 0 h3 := T.keep _ _ _ st2 fun b hb ob e => keep3 b ob (nP b hb) e
    generalize hsc : ({ s2 with heap := h3, toks := tk } : Shared) = sc at J3 ⊢
    have hsch : sc.heap = h3 := by rw [← hsc]
    intro h' hn' hs'
    have hsz' : h'.objs.size = sc.heap.objs.size + 1 := by rw [hs'.1, Heap.size_push]
    have keep' : ∀ b ob, sc.heap.get? b = some ob → h'.get? b = some ob := fun b ob e => hs'.extBut b ob (Nat.ne_of_lt (Heap.lt_size e)) (Heap.get?_push_of_some _ e)
    generalize hgo : ({ cls := .type "generator", data := .fields #[.int sc.gens.size 0, .str "<genexpr>" (sc.toks + 1), .str (X.env.qual ++ "<genexpr>") (sc.toks + 1 + 1)] } : Obj) = go
    have isg : ∀ hh : Heap, hh.get? h'.objs.size = some go → hh.IsGen h'.objs.size sc.gens.size := fun hh e => by
      rw [← hgo] at e
      exact ⟨_, _, _, e, rfl, rfl, rfl⟩
    have hgo' : (h'.push go).get? h'.objs.size = some go := Heap.get?_push_size _ (by rw [← hgo]; rfl)
    have fl : ∀ b ∈ fp, b < sc.heap.objs.size := fun b hb => by
      obtain ⟨ob, e, _⟩ := T.obj _ _ tn3 b hb
      rw [hsch]
      exact Heap.lt_size e
    have keep5 : ∀ b ob, sc.heap.get? b = some ob → (h'.push go).get? b = some ob := fun b ob e => Heap.get?_push_of_some _ (keep' b ob e)
    have bare5 : AllBare (sc.gens.push (.fresh (.compStart (.GeneratorExp elt [⟨tg, iter, ifs, 0⟩] scope gpos) 0 (.ref it) .none (gEnv X scope sc.heap.objs.size code)))) := J3.bare.push rfl
    have lim5 : (h'.push go).NoLimit := J3.nolimit.keeps keep5
    refine hQ sc H3 fp J _ h'.objs.size sc.gens.size _ _ J3 rJ f3 ⟨rfl, (by rw [hsz']; exact Nat.le_succ _), (by show h'.objs.size < (h'.push go).objs.size; rw [Heap.size_push]; exact Nat.lt_succ_self _), isg _ hgo', Array.getElem?_push_size .., rfl, bare5, lim5, keep5, ?_⟩
    intro A o s5 Y Q W m hrA hfr ho hk hos hb hY turn w
    have hk0 : ∀ b ob, (h'.push go).get? b = some ob → s5.heap.get? b = some ob := hk
    have szS : ∀ S, o = some S → h'.objs.size < S := fun S e => by
      have h1 : (h'.push go).objs.size ≤ S := (ho S e).1
      rw [Heap.size_push] at h1
      exact h1
    generalize hXg : gCx X sc H3 scope sc.heap.objs.size code fp A [(h'.objs.size, go)] = Xg
    have xp : Xg.prog = X.prog := by rw [← hXg]
    have xw : Xg.w = X.w := by rw [← hXg]
    have G0 : GIx Xg o [] [] (wipe σ (own.map (·.2))) H3 s5 := by
      obtain ⟨c0, hc0⟩ : ∃ c0, ∀ S, o = some S → s5.heap.get? S = some (lstObj #[] c0) := by
        cases o with
        | none => exact ⟨0, fun S e => by cases e⟩
        | some S =>
          obtain ⟨c0, e⟩ := (ho S rfl).2
          exact ⟨c0, fun S' e' => by cases e'; exact e⟩
      refine ⟨#[], c0, .nil, ?_⟩
      rw [← hXg]
      refine gx_inv0 (m0 := fun y => if y = (".0" : Str) then some (.ref it) else none) J3 B hN (fun b hb => ⟨f3 b hb, fl b hb⟩) hrA.hd hfr (Nat.le_refl _) (fun b ob e => hk0 b ob (keep5 b ob e)) ((hn'.push _).keeps hk0) hos hb fun p hp => ?_
      have key : ∀ p, p ∈ [(h'.objs.size, go)] ∨ p ∈ oPins o #[] c0 → s5.heap.get? p.1 = some p.2 ∧ sc.heap.objs.size ≤ p.1 ∧ p.1 ≠ sc.heap.objs.size ∧ ∀ v, p.2.data ≠ .cell v := fun p hp => by
        rcases hp with hp | hp
        · rw [List.mem_singleton.mp hp]
          refine ⟨hk0 _ _ hgo', by rw [hsz']; exact Nat.le_succ _, by rw [hsz']; exact Nat.succ_ne_self _, fun v z => ?_⟩
          rw [← hgo] at z
          cases z
        · cases ho2 : o with
          | none =>
            rw [ho2] at hp
            cases hp
          | some S =>
            rw [ho2] at hp
            have e : p = (S, lstObj #[] c0) := by simpa [oPins] using hp
            have hS := szS S ho2
            rw [hsz'] at hS
            rw [e]
            refine ⟨hc0 S ho2, Nat.le_of_lt (Nat.lt_of_succ_lt hS), Nat.ne_of_gt (Nat.lt_of_succ_lt hS), fun v z => by cases z⟩
      refine key p ?_
      simp only [List.append_nil] at hp
      exact List.mem_append.mp hp
    have pins : ∀ {ip : List (Addr × Obj)} {ys : List V} {σ' : L2.St} {H' : Hp} {s' : Shared}, GIx Xg o ip ys σ' H' s' → s'.heap.IsGen h'.objs.size sc.gens.size := fun {ip ys σ' H' s'} G => by
      obtain ⟨acc, c9, _, I9⟩ := G
      refine isg _ (I9.pin (h'.objs.size, go) (List.mem_append_left _ ?_)).1
      rw [← hXg]
      exact List.mem_singleton.mpr rfl
    have T' : Turn Xg.prog Xg.w Xg.K tg J fp it tn := by rw [← hXg]; exact T
    have tn5 : tn 0 s5.heap := T.keep _ _ _ tn3 fun b hb ob e => hk0 b ob (keep5 b ob (by rw [hsch]; exact e))
    have exOk : ∀ {σ' : L2.St} {H' : Hp} {ps : List (Addr × Obj)} {s' : Shared}, Inv Xg ps σ' H' s' → s'.os = sc.os ∧ AllBare s'.gens ∧ Un (frs X.stack) fp H3 H' sc.heap s'.heap ∧ HOk X.prog X.w H' s'.heap ∧ s'.heap.NoLimit := fun {σ' H' ps s'} I9 => by
      have L := I9.nolimit
      subst hXg
      exact ⟨I9.os, I9.bare, I9.base, I9.hok, L⟩
    have seg := gx_start (X := Xg) (A := A) (o := o) (Y := Y) (Q := Q) (elt := elt) (tg := tg) (iter := iter) (ifs := ifs) (scope := scope) (pos := gpos) (it := it) (fp := fp) (tn := tn) (J := J) (g := gt) (tt := tt) (te := te) (vs := own.map (·.2)) (σ := σ) (W := W) (m := m) (n := sizeLine) (s₀ := s5) (s := s5) (H := H3)
      (by rw [← hXg]; exact hc) (by rw [← hXg]; exact over_gx) (by rw [← hXg]; exact over_gx0) T' (by rw [← hXg]) (by rw [← hXg]) (by rw [← hXg]; exact B.co)
      (fun p hp => by
        rw [← hXg] at hp
        rw [List.mem_singleton.mp hp]
        intro z
        have := fl _ z
        rw [hsz'] at this
        exact absurd this (Nat.not_lt.mpr (Nat.le_succ _)))
      (fun S e => by
        have hS := szS S e
        refine ⟨fun p hp => ?_, fun z => ?_, ?_, ?_, fun x c9 e9 z => ?_⟩
        · rw [← hXg] at hp
          rw [List.mem_singleton.mp hp]
          exact Nat.ne_of_lt hS
        · have h1 := fl _ z
          rw [hsz'] at hS
          exact absurd (Nat.lt_trans h1 (Nat.lt_of_succ_lt hS)) (Nat.lt_irrefl _)
        · rw [← hXg]
          show sc.heap.objs.size ≤ S
          rw [hsz'] at hS
          exact Nat.le_of_lt (Nat.lt_of_succ_lt hS)
        · rw [← hXg]
          show S ≠ sc.heap.objs.size
          rw [hsz'] at hS
          exact Nat.ne_of_gt (Nat.lt_of_succ_lt hS)
        · rw [← hXg] at e9
          have e10 : (cloFrom X.env.cells scope.names []).lookup x = some c9 := e9
          rcases cloFrom_mem (PySem.mem_of_lookup e10) with q | ⟨q1, q2⟩
          · cases q
          · obtain ⟨c', hc'⟩ := B.has I _ q1 rfl
            obtain ⟨v, qv⟩ := J3.cell _ _ hc'
            rw [hc'] at q2
            have q3 : c9 = c' := q2
            have h1 := qv.lt
            rw [← q3, z] at h1
            rw [hsz'] at hS
            exact absurd (Nat.lt_trans h1 (Nat.lt_of_succ_lt hS)) (Nat.lt_irrefl _))
      (by rw [← hXg]; exact hg _ _ _ _ _ _ _) (by rw [← hXg]; exact ht _ _ _ _ _ _ _ (hrA.deeper _)) (by rw [← hXg]; exact he _ _ _ _ _ _ _ (hrA.deeper _)) hY turn rfl w G0 tn5 (fun b hb => (f3 b hb).1)
    have ee : Xg.env = genEnv scope (cloFrom X.env.cells scope.names []) sc.heap.objs.size code builtinsNs X.env := by rw [← hXg]
    rw [xp, xw, ee] at seg
    refine seg_imp (fun n s₀ r s' hR => ?_) (fun n s₀ v s' kap kap' hkk hYY => ?_) sizeLine seg
    · obtain ⟨e, ys, σ', H', hn, G, hq⟩ := hR
      obtain ⟨acc, c9, r9, I9⟩ := G
      obtain ⟨a1, a2, a3, a4, _⟩ := exOk I9
      exact ⟨e, H', ys, a1, a2, a3, a4, oCell_of r9 I9, by omega, hq⟩
    · obtain ⟨ip, ys, x, σ', H', hn, rx, G, hy⟩ := hYY
      have hg9 := pins G
      obtain ⟨acc, c9, r9, I9⟩ := G
      obtain ⟨a1, a2, a3, a4, a5⟩ := exOk I9
      exact ⟨a1, a2, a5, hg9, ys, x, H', hn, rx, a3, a4, oCell_of r9 I9, hY _ _ _ _ _ (fun q s9 z => hkk _ _ (q s9 z)) hy⟩
  cases hf : codeAmong gpos ps.toList with
  | none =>
    refine wpAny_genexprCodeX hcode (cd0.code hPs htr) (cd0.tab hPs) hf fun c' h' tk hx hge hlt hco' _ htab' _ => ?_
    obtain ⟨_, _, _, _, _, _, _, _, _, _, _, _, _, _, _, _, _, _, _, tr', _⟩ := hco'
    exact cont _ h' tk _ hx (Nat.le_trans hge (Nat.le_of_lt hlt)) htab'.2 ⟨_, rfl⟩ tr'
  | some cv =>
    refine wpAny_genexprCode_hit hcode (cd0.code hPs htr) hf ?_
    exact cont cv s2.heap s2.toks ps (Heap.ExtBut.refl _ _) (Nat.le_refl _) hPs ⟨#[], by simp⟩ htr
end
end Zz
end

section
set_option Elab.async false
set_option linter.all false
set_option maxRecDepth 100000
namespace Zz
open PySem PySem.Spec PyProof.Rows L2

section
variable {X : Cx} {pins : List (Addr × Obj)} {σ : L2.St} {sc : Shared} {H : Hp} {fp : List Addr} {a : Addr} {g : Nat}
/-- who asks, again in the def's frame -/
theorem Inv.back {H' : Hp} {s' : Shared} (I : Inv X pins σ H sc) (hf : ∀ b ∈ fp, FpOk X pins H b) (os : s'.os = sc.os) (hb : AllBare s'.gens) (un : Un (frs X.stack) fp H H' sc.heap s'.heap) (hok : HOk X.prog X.w H' s'.heap) : Inv X pins σ H' s' :=
  I.call' (ch := fp) os un hok hb fun b hb => ⟨(hf b hb).2.2.2.1, (hf b hb).2.1, (hf b hb).2.2.2.2.1, (hf b hb).2.2.2.2.2⟩
def yAll (Q : Bool → Hp → Prop) : YP := fun ys x H' K => ∃ b, x = .bl b ∧ if b = true then K else Q false H'
theorem yAll_mono (Q : Bool → Hp → Prop) : YMono (yAll Q) := fun ys x H K K' k ⟨b, e, h⟩ => ⟨b, e, by
  cases b with
  | true => exact k h
  | false => exact h⟩
theorem all_asks (I : Inv X pins σ H sc) (hf : ∀ b ∈ fp, FpOk X pins H b) {Q : Bool → Hp → Prop} {A : Around} {R : Result → Shared → Prop} (hh : A.handled = none) (hd : A.depth < recursionLimit)
    (hR : ∀ b H' s', Inv X pins σ H' s' → Q b H' → R (.ok (.ret (.bool b))) s') : ∀ (n : Nat) (s : Shared), s.heap.IsGen a g → s.heap.NoLimit →
      (∃ gs, s.gens[g]? = some gs ∧ gs.Goes (model X.prog X.w) A.in1.in1 (REx X sc H fp none (fun _ H' => Q true H')) (YEx X sc H fp none a g (yAll Q)) n (.send .none) (s.setGen g .running)) →
      codeAny (model X.prog X.w) A (.builtin "all.loop" ⟨[.ref a], []⟩) R s := by
  intro n
  induction n with
  | zero =>
    intro s hg hl ⟨gs, hgs, hgo⟩
    refine codeAny_builtin F.entry_all_loop ?_
    rw [Around.under_plainId F.plain_all_loop _]
    show wpAny _ A.in1 (pyNext (.ref a) >>= _) _ _ s
    refine wpAny_bind (wpAny_pyNext_genexpQ (A := A.in1) hh hl hd hg hgs hgo (fun v s1 gs' hb hv => ?_) fun s1 hp h' hk => ?_)
    · obtain ⟨os, bare, lim, isg, ys, x, H', hn, rx, un, hok, _, b, ex, q⟩ := hv
      have J : Inv X pins σ H' (s1.setGen g gs') := Inv.back I hf os (allBare_setGen bare hb) un hok
      subst ex
      cases rx
      refine wpAny_bind (wpAny_holding (wpAny_truthy_bool ?_))
      refine wpAny_bind (wpAny_letGo ?_)
      cases b with
      | true =>
        rw [if_pos rfl] at q
        exact False.elim (q s1 ⟨rfl, bare, fun _ _ _ e => e, fun _ _ _ e => by cases e⟩)
      | false =>
        rw [if_neg Bool.false_ne_true] at q
        simp only [Bool.false_eq_true, if_false]
        exact wpAny_bind (wpAny_rule (wpAny_pure (hR false H' _ J q)))
    · obtain ⟨H', ys, os, bare, un, hok, _, _, q⟩ := hp
      have J : Inv X pins σ H' { s1.setGen g .finished with heap := h' } := Inv.back I hf os (allBare_setGen (s := s1) bare rfl) (un.trans (Un.kept hk)) (hok.kept hk)
      exact wpAny_bind (wpAny_rule (wpAny_pure (hR true H' _ J q)))
  | succ n ih =>
    intro s hg hl ⟨gs, hgs, hgo⟩
    have hgl : g < s.gens.size := (Array.getElem?_eq_some_iff.mp hgs).1
    refine codeAny_builtin F.entry_all_loop ?_
    rw [Around.under_plainId F.plain_all_loop _]
    show wpAny _ A.in1 (pyNext (.ref a) >>= _) _ _ s
    refine wpAny_bind (GenW.wpAny_gsz (n := g + 1) hgl (wpAny_pyNext_genexpQ (A := A.in1) hh hl hd hg hgs hgo (fun v s1 gs' hb hv => ?_) fun s1 hp h' hk => ?_))
    · intro hsz
      obtain ⟨os, bare, lim, isg, ys, x, H', hn, rx, un, hok, _, b, ex, q⟩ := hv
      have J : Inv X pins σ H' (s1.setGen g gs') := Inv.back I hf os (allBare_setGen bare hb) un hok
      subst ex
      cases rx
      refine wpAny_bind (wpAny_holding (wpAny_truthy_bool ?_))
      refine wpAny_bind (wpAny_letGo ?_)
      cases b with
      | true =>
        rw [if_pos rfl] at q
        simp only [if_true]
        have hsz1 : g < s1.gens.size := by
          have e : (s1.setGen g gs').gens.size = s1.gens.size := GenW.setGen_size _ _ _
          have h9 : g + 1 ≤ (s1.setGen g gs').gens.size := hsz
          omega
        refine wpAny_pure ⟨plainId_quiet F.plain_all_loop _, ih (s1.setGen g gs') isg lim ⟨gs', setGen_at hsz1, ?_⟩⟩
        exact q _ ⟨rfl, allBare_setGen (s := s1.setGen g gs') (allBare_setGen bare hb) rfl, fun _ _ _ e => e, fun _ _ _ e => by cases e⟩
      | false =>
        rw [if_neg Bool.false_ne_true] at q
        simp only [Bool.false_eq_true, if_false]
        exact wpAny_bind (wpAny_rule (wpAny_pure (hR false H' _ J q)))
    · intro hsz
      obtain ⟨H', ys, os, bare, un, hok, _, _, q⟩ := hp
      have J : Inv X pins σ H' { s1.setGen g .finished with heap := h' } := Inv.back I hf os (allBare_setGen (s := s1) bare rfl) (un.trans (Un.kept hk)) (hok.kept hk)
      exact wpAny_bind (wpAny_rule (wpAny_pure (hR true H' _ J q)))

/-- all(elt for .. in ..), the elements bools -/
def tAllX (P : Addr) (wi : TI) (gt : TG) (tt : TT) (te : TE) (vs : List Nat) : TE := fun σ H Q => wi σ H fun J H1 => GxR.TabG H1 P ∧ ∀ H2, GxR.Tabbed P H1 H2 →
  ∃ (W : Nat → Nat → List V → Hp → Prop) (m : Nat), W 0 m [] H2 ∧ GTurns J gt tt te (yAll fun b H' => Q (.bl b) H') (fun _ H' => Q (.bl true) H') vs σ W
end
section
variable {X : Cx}
theorem pe_allX {c P : Addr} {elt tg iter : Expr} {ifs : List Expr} {p pos gpos : Pos} {scope : Scope} {own : List (Str × Nat)} {wi : TI} {gt : TG} {tt : TT} {te : TE} {k : Nat}
    (hr : Room (k + 3) X.A) (hc : X.calm = true) (hN : X.N.Nodup) (TB : GxR.TabB X.base X.mg c P) (hcode : X.env.code = .ref c) (hgl : Gl X "all") (hm : X.mg "all" = none) (hb : bootBuiltins "all" = some (.builtin "all")) (B : GBlk X.N X.env.scope scope own) (hi : PI X tg iter wi)
    (hg : ∀ (s : Shared) (H : Hp) (C : Addr) (cd : Value) (fp : List Addr) (A : Around) (pn : List (Addr × Obj)), PG (gCx X s H scope C cd fp A pn) tg gt)
    (ht : ∀ (s : Shared) (H : Hp) (C : Addr) (cd : Value) (fp : List Addr) (A : Around) (pn : List (Addr × Obj)), Room k (gCx X s H scope C cd fp A pn).A → PTs (gCx X s H scope C cd fp A pn) ifs tt)
    (he : ∀ (s : Shared) (H : Hp) (C : Addr) (cd : Value) (fp : List Addr) (A : Around) (pn : List (Addr × Obj)), Room k (gCx X s H scope C cd fp A pn).A → PE (gCx X s H scope C cd fp A pn) elt te)
    (hs : ∀ v, genFold iter X.env v = pure v)
    (hse : starEach [.GeneratorExp elt [⟨tg, iter, ifs, 0⟩] scope gpos] X.env = (false, eval (.GeneratorExp elt [⟨tg, iter, ifs, 0⟩] scope gpos) X.env) :: starEach [] X.env := by rfl) :
    PE X (.Call (.Name "all" p) [.GeneratorExp elt [⟨tg, iter, ifs, 0⟩] scope gpos] [] pos) (tAllX P wi gt tt te (own.map (·.2))) := by
  refine ⟨fun pins s σ H Q I h => ?_⟩
  refine wpAny_Call_Name_kw (ld_blt I hgl hm hb ?_)
  refine PyProof.Rows.callWith_builtin1 ?_ hse (by rfl)
  rw [hse]
  show wpAny _ _ (spliced ((false, eval (.GeneratorExp elt [⟨tg, iter, ifs, 0⟩] scope gpos) X.env) :: backTo pos (starEach [] X.env))) _ _ s
  refine Calls.spliced_cons (gx_make (hr.mono (by omega)) hc hN TB hcode B hi hg ht he hs I h fun sc H2 fp J u a g cd s' I2 hR hf G => ?_)
  refine Calls.spliced_nil ?_
  obtain ⟨W, m, w, turn⟩ := hR
  have ev := G.val
  subst ev
  refine call_function_tree F.kind_all F.plain_all F.entry_all (F.args_all1 _) ?_
  unfold Builtin.«all»
  refine wpAny_bind (m := oneArg "all" _) (wpAny_pure ?_)
  refine wpAny_bind (wpAny_pyIter_gen G.gen ?_)
  refine wpAny_pure ⟨plainId_quiet F.plain_all_loop _, ?_⟩
  refine all_asks (Q := fun b H' => Q (.bl b) H') (a := a) (g := g) I2 hf hr.hd (by have := hr.dp; omega) (fun b H' s1 J1 q => ⟨.bl b, H', J1, rfl, q⟩) sizeLine s' G.gen G.lim ⟨_, G.gs, rfl, ?_⟩
  refine G.wake X.A.in1.in1 none (s'.setGen g .running) _ _ W m (Room.in1 (Room.in1 hr)) I2.ok.frames (fun S e => by cases e) (fun b ob e => e) G.os (allBare_setGen G.bare rfl) (yAll_mono _) turn w
end
end Zz
end

section
set_option Elab.async false
set_option linter.all false
set_option maxRecDepth 100000
set_option maxHeartbeats 1000000
namespace Zz
open PySem PySem.Spec PyProof.Rows L2

/-- nothing is told: all is asked for -/
def yAny : YP := fun _ _ _ K => K
theorem yAny_mono : YMono yAny := fun _ _ _ _ _ k h => k h
abbrev noX : XK := fun _ _ _ => False
section
variable {X : Cx} {pins : List (Addr × Obj)} {σ : L2.St} {sc s : Shared} {H : Hp} {fp : List Addr} {a : Addr} {g : Nat}
/-- as the drain of a list wants it -/
theorem gx_drain {S : Addr} {Q : List V → Hp → Prop} {A : Around} {n : Nat} {s₀ : Shared} {c : Code} {t : Sem PySem.Fin} {fs : List Frame} (h : Seg (model X.prog X.w) A (REx X sc H fp (some S) Q) (YEx X sc H fp (some S) a g yAny) n s₀ c t fs s) :
    Seg (model X.prog X.w) A (REnd X.prog X.w X.stack H sc fp S a g Q noX) (YItem sc S a g) n s₀ c t fs s := by
  refine seg_imp (fun n s₀ r s' hR => ?_) (fun n s₀ v s' kap kap' hkk hY => ?_) n h
  · obtain ⟨e, H', ys, os, bare, un, hok, cell, hz, q⟩ := hR
    obtain ⟨h1, acc, c9, h2, h3⟩ := cell S rfl
    exact .inl ⟨.inr e, H', ys, acc, c9, os, bare, un, hok, h1, h2, h3, hz, q⟩
  · obtain ⟨os, bare, lim, isg, ys, x, H', hn, rx, un, hok, cell, hy⟩ := hY
    obtain ⟨h1, acc, c9, h2, h3⟩ := cell S rfl
    refine ⟨os, bare, lim, isg, ⟨acc, c9, h2, ?_⟩, fun s9 z => hkk _ _ (hy s9 ⟨z.os, z.bare, fun b u hb e => z.keep b u (fun q => hb (by rw [q])) e, fun S' acc' c' e1 e2 => by cases e1; exact z.own acc' c' e2⟩)⟩
    have e1 := h3.length
    have e2 : acc.toList.length = acc.size := by simp
    omega

theorem collect_gx {Q : List Value → Shared → Prop} {E : Value → Shared → Prop} {A : Around} {c : Code} {Q0 : List V → Hp → Prop} (hh : A.handled = none) (hd : A.depth < recursionLimit) (hg : s.heap.IsGen a g) (hl : s.heap.NoLimit) (hgs : s.gens[g]? = some (.fresh c)) (hb : AllBare s.gens) (os : s.os = sc.os)
    (wk : ∀ S s2, s.heap.objs.size ≤ S → (∀ b ob, s.heap.get? b = some ob → s2.heap.get? b = some ob) → (∃ c, s2.heap.get? S = some (lstObj #[] c)) → s2.os = sc.os → AllBare s2.gens → Seg (model X.prog X.w) A.in1.in1 (REnd X.prog X.w X.stack H sc fp S a g Q0 noX) (YItem sc S a g) sizeLine s2 c ((model X.prog X.w).den c) [] s2)
    (hQ : ∀ s' acc ys H', s'.os = sc.os → AllBare s'.gens → Un (frs X.stack) fp H H' sc.heap s'.heap → HOk X.prog X.w H' s'.heap → Vals ys acc → ys.length ≤ sizeLine → Q0 ys H' → Q acc s') : wpAny (model X.prog X.w) A (collect (.ref a)) Q E s := by
  have hal : a < s.heap.objs.size := by
    obtain ⟨ob, _, _, e, _⟩ := hg
    exact Heap.lt_size e
  have hSa : s.heap.objs.size ≠ a := Nat.ne_of_gt hal
  have hSc : s.heap.objs.size ≠ cStatics := Nat.ne_of_gt (by obtain ⟨_, hns, _⟩ := hl; exact hns.lt)
  unfold collect
  refine wpAny_bind (wpAny_runValue (codeAny_builtin F.entry_proto_collect ?_))
  rw [Around.under_plainId F.plain_proto_collect _]
  show wpAny _ A.in1 (newList [] >>= fun l => again (.builtin "list.__iadd__" ⟨[l, .ref a], []⟩)) _ _ s
  refine wpAny_bind (wpAny_newObj_type ?_ (by show 0 ≤ sizeLine; decide))
  refine wpAny_pure ⟨plainId_quiet F.plain_list_iadd _, codeAny_builtin F.entry_list_iadd ?_⟩
  rw [Around.under_plainId F.plain_list_iadd _]
  generalize hN : ({ cls := .type "list", data := .seq ([] : List Value).toArray } : Obj) = nl
  have hS1 : (s.heap.push nl).get? s.heap.objs.size = some nl := Heap.get?_push_size _ (by rw [← hN]; rfl)
  have k1 : ∀ b ob, s.heap.get? b = some ob → (s.heap.push nl).get? b = some ob := fun b ob e => Heap.get?_push_of_some _ e
  have gty : ∀ {h : Heap}, (∀ b ob, s.heap.get? b = some ob → h.get? b = some ob) → h.IsGen a g := fun {h} q => hg.keeps q
  have up : ∀ (h : Heap) (f : Obj → Obj), (∀ b ob, s.heap.get? b = some ob → h.get? b = some ob) → ∀ b ob, s.heap.get? b = some ob → (h.update s.heap.objs.size f).get? b = some ob := fun h f q b ob e =>
    (Heap.get?_update_other _ _ (Ne.symm (Nat.ne_of_lt (Heap.lt_size e)))).trans (q b ob e)
  show wpAny _ A.in1 (Builtin.List.listExtendWith (.ref s.heap.objs.size) (.ref a) (.ref s.heap.objs.size)) _ _ _
  unfold Builtin.List.listExtendWith
  refine wpAny_bind (wpAny_typeOf (Heap.IsGen.typeIs (s := { s with heap := _ }) (gty k1)) ?_)
  have h1 : Builtin.List.listSameRef (.ref s.heap.objs.size) (.ref a) = false := by simp [Builtin.List.listSameRef, hSa]
  have h2 : (Value.type "generator" == Value.type "list") = false := by decide
  have h3 : (Value.type "generator" == Value.type "tuple") = false := by decide
  simp only [h1, h2, h3, Bool.or_false, Bool.false_eq_true, if_false]
  refine wpAny_bind (wpAny_pyIter_gen (s := { s with heap := _ }) (gty k1) ?_)
  refine wpAny_bind (wpAny_holding ?_)
  unfold Builtin.List.listLengthHint
  refine wpAny_bind (wpAny_specialOf (Heap.IsGen.typeIs (s := { s with heap := _ }) (gty k1)) F.gen_no_len ?_)
  show wpAny _ A.in1 (specialOf (Value.ref a) (Str.ofString "__length_hint__") >>= _) _ _ _
  refine wpAny_bind (wpAny_specialOf (Heap.IsGen.typeIs (s := { s with heap := _ }) (gty k1)) F.gen_no_hint ?_)
  refine wpAny_pure ?_
  show wpAny _ A.in1 (rule "list.extend.makes-room" >>= fun _ => Builtin.List.listTouch (.ref s.heap.objs.size) >>= fun _ =>
    again (.builtin "list.extend.loop" ⟨[.ref s.heap.objs.size, .ref a, .ref s.heap.objs.size], []⟩)) _ _ _
  refine wpAny_bind (wpAny_rule ?_)
  refine wpAny_bind ?_
  show wpAny _ A.in1 (updateSeq s.heap.objs.size (·.push .none) >>= fun _ => updateSeq s.heap.objs.size (·.pop)) _ _ _
  subst hN
  refine wpAny_bind (wpAny_updateSeq hS1 rfl ?_)
  have hS2 := Heap.get?_update_self (Obj.mapSeq (·.push Value.none)) hS1 rfl
  refine wpAny_updateSeq (hz := by seq_fits) hS2 rfl ?_
  have hS3 := Heap.get?_update_self (Obj.mapSeq (·.pop)) hS2 rfl
  have k3 := up _ (Obj.mapSeq (·.pop)) (up _ (Obj.mapSeq (·.push Value.none)) k1)
  refine wpAny_pure ⟨plainId_quiet F.plain_extend_loop _, ?_⟩
  refine drain (P := X.prog) (w := X.w) (outer := X.stack) (H := H) (sc := sc) (ex := fp) (Q := Q0) (EX := noX) (A := A) (g := g) hh hd hSa hSc (fun s' acc c9 H' ys q1 q2 q3 q4 q5 q6 q7 q8 q9 => ?_) (fun e s' hc => ?_)
    sizeLine _ (gty k3) (hl.keeps k3) ⟨_, hgs, rfl, wk _ _ (Nat.le_refl _) k3 ⟨_, hS3⟩ os (allBare_setGen (s := { s with heap := _ }) hb rfl)⟩
  · show wpAny _ A (load s.heap.objs.size >>= _) _ _ s'
    refine wpAny_bind (wpAny_load q1 ?_)
    exact wpAny_pure (hQ s' acc.toList ys H' q4 q5 q6 q7 q2 q3 q9)
  · obtain ⟨_, _, _, _, _, _, _, _, _, _, _, _, z⟩ := hc
    exact False.elim z
end
end Zz
end

section
set_option Elab.async false
set_option linter.all false
set_option maxRecDepth 100000
set_option maxHeartbeats 1000000
namespace Zz
open PySem PySem.Spec PyProof.Rows L2

section
variable {X : Cx} {pins : List (Addr × Obj)} {σ : L2.St} {sc s : Shared} {H : Hp} {fp : List Addr} {a : Addr} {g : Nat}
/-- the state behind the making of a tuple of what came -/
def TupDone (X : Cx) (sc : Shared) (H : Hp) (fp : List Addr) (Q0 : List V → Hp → Prop) (s' : Shared) (acc : List Value) : Prop :=
  ∃ (ys : List V) (H' : Hp), s'.os = sc.os ∧ AllBare s'.gens ∧ Un (frs X.stack) fp H H' sc.heap s'.heap ∧ HOk X.prog X.w H' s'.heap ∧ Vals ys acc ∧ ys.length ≤ sizeLine ∧ Q0 ys H'
theorem code_tup_gx {Q1 : Value → Shared → Prop} {E : Value → Shared → Prop} {A : Around} {c : Code} {Q0 : List V → Hp → Prop} (hh : A.handled = none) (hd : A.depth < recursionLimit) (hg : s.heap.IsGen a g) (hl : s.heap.NoLimit) (hgs : s.gens[g]? = some (.fresh c)) (hb : AllBare s.gens) (os : s.os = sc.os)
    (wk : ∀ S s2, s.heap.objs.size ≤ S → (∀ b ob, s.heap.get? b = some ob → s2.heap.get? b = some ob) → (∃ c, s2.heap.get? S = some (lstObj #[] c)) → s2.os = sc.os → AllBare s2.gens → Seg (model X.prog X.w) A.in1.in1.in1 (REnd X.prog X.w X.stack H sc fp S a g Q0 noX) (YItem sc S a g) sizeLine s2 c ((model X.prog X.w).den c) [] s2)
    (h : ∀ s' acc, TupDone X sc H fp Q0 s' acc → Q1 (.ref s'.heap.objs.size) { s' with heap := s'.heap.push { cls := .type "tuple", data := .seq acc.toArray } }) :
    codeAny (model X.prog X.w) A (.call (.builtin "tuple.__new__") ⟨[.type "tuple", .ref a], []⟩) (wants Q1 E) s := by
  refine codeAny_of_tree ?_
  show wpAny _ A.in1 (do checkBuiltinCall "tuple.__new__" ⟨[.type "tuple", .ref a], []⟩; again (.builtin "tuple.__new__" ⟨[.type "tuple", .ref a], []⟩)) _ _ s
  refine wpAny_bind (wpAny_of_eq (F.newCall_tuple_1 _) (wpAny_pure ⟨plainId_quiet F.plain_tuple_new _, codeAny_builtin F.entry_tuple_new ?_⟩))
  rw [Around.under_plainId F.plain_tuple_new _]
  have hsub := sub_tuple_self
  have hinit := init_tuple_lookup
  have hmh := madeHere_tuple
  have hTI : s.TypeIs (.ref a) "generator" := Heap.IsGen.typeIs hg
  have hh1 : A.in1.handled = none := hh
  have hd1 : A.in1.depth < recursionLimit := hd
  wp_walk using wpAny_typeOf hTI, collect_gx (X := X) (A := A.in1) (sc := sc) (H := H) (fp := fp) (Q0 := Q0) hh1 hd1 hg hl hgs hb os wk
  intro s' acc ys H' q1 q2 q3 q4 q5 q6 q7
  show wpAny _ _ (Builtin.Tuple.tupleExact acc.toArray >>= fun v => ret v) _ _ _
  unfold Builtin.Tuple.tupleExact
  refine wpAny_bind (wpAny_newObj_type ?_ (by show acc.toArray.size ≤ sizeLine; rw [List.size_toArray, ← q5.length]; exact q6))
  exact wpAny_pure (h s' acc ⟨ys, H', q1, q2, q3, q4, q5, q6, q7⟩)
theorem call_tup_gx {Q : Value → Shared → Prop} {E : Value → Shared → Prop} {A : Around} {c : Code} {Q0 : List V → Hp → Prop} (hh : A.handled = none) (hd : A.depth < recursionLimit) (hg : s.heap.IsGen a g) (hl : s.heap.NoLimit) (hgs : s.gens[g]? = some (.fresh c)) (hb : AllBare s.gens) (os : s.os = sc.os)
    (wk : ∀ S s2, s.heap.objs.size ≤ S → (∀ b ob, s.heap.get? b = some ob → s2.heap.get? b = some ob) → (∃ c, s2.heap.get? S = some (lstObj #[] c)) → s2.os = sc.os → AllBare s2.gens → Seg (model X.prog X.w) A.in1.in1.in1.in1 (REnd X.prog X.w X.stack H sc fp S a g Q0 noX) (YItem sc S a g) sizeLine s2 c ((model X.prog X.w).den c) [] s2)
    (h : ∀ s' acc, TupDone X sc H fp Q0 s' acc → Q (.ref s'.heap.objs.size) { s' with heap := s'.heap.push { cls := .type "tuple", data := .seq acc.toArray } }) :
    wpAny (model X.prog X.w) A (call (.type "tuple") [.ref a]) Q E s := by
  refine callType_codes (Q₁ := fun ob s1 => s1.TypeIs ob "tuple" ∧ Q ob s1) F.called_tuple (F.typeCall_tuple_1 _) F.entry_object_init
    (code_tup_gx (A := A.in1) hh hd hg hl hgs hb os wk fun s' acc d => ⟨⟨_, Heap.get?_push_size _ rfl, rfl⟩, h s' acc d⟩) fun ob s1 h1 => ?_
  exact ⟨h1.1, F.args_object_init_2 ob _, object_init_meets F.called_tuple.init.lookup F.called_tuple.made (by decide) X.prog X.w A.in1 _ s1 ⟨h1.1, rfl, h1.2⟩⟩

/-- tuple(elt for .. in ..) -/
def tTupX (P : Addr) (wi : TI) (gt : TG) (tt : TT) (te : TE) (vs : List Nat) : TE := fun σ H Q => wi σ H fun J H1 => GxR.TabG H1 P ∧ ∀ H2, GxR.Tabbed P H1 H2 →
  ∃ (W : Nat → Nat → List V → Hp → Prop) (m : Nat), W 0 m [] H2 ∧ GTurns J gt tt te yAny (fun ys H' => ∀ p, H' p = none → Q (.ref p) (upd H' p (.tup ys))) vs σ W
theorem pe_tupX {c P : Addr} {elt tg iter : Expr} {ifs : List Expr} {p pos gpos : Pos} {scope : Scope} {own : List (Str × Nat)} {wi : TI} {gt : TG} {tt : TT} {te : TE} {k : Nat}
    (hr : Room (k + 5) X.A) (hc : X.calm = true) (hN : X.N.Nodup) (TB : GxR.TabB X.base X.mg c P) (hcode : X.env.code = .ref c) (hgl : Gl X "tuple") (hm : X.mg "tuple" = none) (hb : bootBuiltins "tuple" = some (.type "tuple")) (B : GBlk X.N X.env.scope scope own) (hi : PI X tg iter wi)
    (hg : ∀ (s : Shared) (H : Hp) (C : Addr) (cd : Value) (fp : List Addr) (A : Around) (pn : List (Addr × Obj)), PG (gCx X s H scope C cd fp A pn) tg gt)
    (ht : ∀ (s : Shared) (H : Hp) (C : Addr) (cd : Value) (fp : List Addr) (A : Around) (pn : List (Addr × Obj)), Room k (gCx X s H scope C cd fp A pn).A → PTs (gCx X s H scope C cd fp A pn) ifs tt)
    (he : ∀ (s : Shared) (H : Hp) (C : Addr) (cd : Value) (fp : List Addr) (A : Around) (pn : List (Addr × Obj)), Room k (gCx X s H scope C cd fp A pn).A → PE (gCx X s H scope C cd fp A pn) elt te)
    (hs : ∀ v, genFold iter X.env v = pure v)
    (hse : starEach [.GeneratorExp elt [⟨tg, iter, ifs, 0⟩] scope gpos] X.env = (false, eval (.GeneratorExp elt [⟨tg, iter, ifs, 0⟩] scope gpos) X.env) :: starEach [] X.env := by rfl) :
    PE X (.Call (.Name "tuple" p) [.GeneratorExp elt [⟨tg, iter, ifs, 0⟩] scope gpos] [] pos) (tTupX P wi gt tt te (own.map (·.2))) := by
  refine ⟨fun pins s σ H Q I h => ?_⟩
  refine wpAny_Call_Name_kw (ld_blt I hgl hm hb ?_)
  refine PyProof.Rows.callWith_type1 ?_ hse rfl
  rw [hse]
  show wpAny _ _ (spliced ((false, eval (.GeneratorExp elt [⟨tg, iter, ifs, 0⟩] scope gpos) X.env) :: backTo pos (starEach [] X.env))) _ _ s
  refine Calls.spliced_cons (gx_make (hr.mono (by omega)) hc hN TB hcode B hi hg ht he hs I h fun sc H2 fp J u a g cd s' I2 hR hf G => ?_)
  refine Calls.spliced_nil ?_
  obtain ⟨W, m, w, turn⟩ := hR
  have ev := G.val
  subst ev
  refine call_tup_gx (X := X) (sc := sc) (H := H2) (fp := fp) (a := a) (g := g) hr.hd (by have := hr.dp; omega) G.gen G.lim G.gs G.bare G.os
    (fun S s2 q1 q2 q3 q4 q5 => gx_drain (G.wake X.A.in1.in1.in1.in1 (some S) s2 yAny (fun ys H' => ∀ p, H' p = none → Q (.ref p) (upd H' p (.tup ys))) W m (Room.in1 (Room.in1 (Room.in1 (Room.in1 hr)))) I2.ok.frames (fun S' e => by cases e; exact ⟨q1, q3⟩) q2 q4 q5 yAny_mono turn w))
    fun s9 acc d => ?_
  obtain ⟨ys, H', q1, q2, q3, q4, q5, q6, q7⟩ := d
  have J9 : Inv X pins σ H' s9 := Inv.back I2 hf q1 q2 q3 q4
  have hf9 : H' s9.heap.objs.size = none := J9.hok.fresh (Nat.le_refl _)
  refine ⟨.ref s9.heap.objs.size, upd H' s9.heap.objs.size (.tup ys), J9.laid (t' := s9.toks) (fun b u e => Heap.get?_push_of_some _ e) (Nat.le_refl _) ?_, rfl, q7 _ hf9⟩
  exact ⟨q6, acc, q5, ⟨_, Heap.get?_push_size _ rfl, rfl, _, rfl⟩⟩
end
end Zz
end

section
set_option Elab.async false
set_option linter.all false
set_option maxRecDepth 100000
namespace Zz
open PySem PySem.Spec PyProof.Rows L2

section
variable {K : PySem.W.Frag} {G : GG} {M : Addr → Prop} {σ : L2.St} {H H1 H2 : Hp} {P : Addr}
theorem tabbed_sam (h1 : GxR.TabG H1 P) (h : GxR.Tabbed P H1 H2) : Sam H1 H2 := by
  obtain ⟨ht, hk⟩ := h
  refine ⟨fun b o nt e => ?_, fun {b} hb => ?_, fun b hb => ?_⟩
  · have hb : b ≠ P := fun z => by
      obtain ⟨ps, q, _⟩ := h1
      rw [z, q] at e
      exact nt ps (Option.some.inj e).symm
    rw [hk b hb]; exact e
  · by_cases z : b = P
    · obtain ⟨ps, q, _⟩ := ht
      rw [z, q]
      exact fun z => by cases z
    · rw [hk b z]; exact hb
  · by_cases z : b = P
    · rw [z]; exact ht
    · obtain ⟨ps, q, r⟩ := hb
      exact ⟨ps, by rw [hk b z]; exact q, r⟩
/-- between a generator expression's turns -/
structure BG (K : PySem.W.Frag) (G : GG) (M : Addr → Prop) (σ : L2.St) (H1 : Hp) (e0 : En) (vs : List Nat) (H : Hp) (e : En) (ys : List V) (acc : List Dat) : Prop where
  env : REnv K G M (wipe σ vs) H e
  blk : Blk vs e0 e
  fr : ∀ b o, NT o → H1 b = some o → ¬ Own σ e0 b → H b = some o
  live : ∀ b, H1 b ≠ none → H b ≠ none
  tab : ∀ b, GxR.TabG H1 b → GxR.TabG H b
  out : RelDs K G (NN M (wipe σ vs) e) H ys acc
theorem BG.up {e0 e : En} {vs : List Nat} {ys : List V} {acc : List Dat} (B : BG K G M σ H1 e0 vs H e ys acc) : Up (NN M σ e0) H1 (NN M (wipe σ vs) e) H := fun b u hu q n => ⟨rd_same hu q fun o nt e => B.fr b o nt e fun z => n (.inr z), fun z => by
  rcases z with z | z
  · exact n (.inl z)
  · exact n (.inr (blk_own B.blk z))⟩
theorem BG.post {e0 e : En} {vs : List Nat} {ys : List V} {acc : List Dat} (r0 : REnv K G M σ H1 e0) (B : BG K G M σ H1 e0 vs H e ys acc) (hpl : plainB e0 vs = true) :
    Post K G M σ H1 e0 H (unwipe e0 e vs) ∧ RelDs K G (NN M σ (unwipe e0 e vs)) H ys acc := by
  have owU : ∀ (j : Nat) (d : Dat), (unwipe e0 e vs)[j]? = some (some (Sl.ow d)) → j ∉ vs ∧ e[j]? = some (some (Sl.ow d)) := fun j d h => by
    rcases unwipe_get h with ⟨h1, h2⟩ | h1
    · exact absurd h2 (plainB_ok hpl h1)
    · exact h1
  have upU : Up (NN M (wipe σ vs) e) H (NN M σ (unwipe e0 e vs)) H := less_up fun b z => z.imp id fun ⟨j, d, h1, h2⟩ => by
    obtain ⟨h3, h4⟩ := owU j d h1
    exact ⟨j, d, h4, by rw [wipe_out h3]; exact h2⟩
  have upS : Up (NN M σ e0) H1 (NN M σ (unwipe e0 e vs)) H := fun b u hu q n => let ⟨a, c⟩ := B.up b u hu q n; upU b u hu a c
  refine ⟨⟨⟨B.fr, B.live, B.tab⟩, ⟨unwipe_len, fun j d h => ?_, fun j s h => ?_⟩, ⟨by rw [unwipe_len]; exact r0.len, fun j d h => ?_, fun j d h => ?_, fun j j' d d' a h1 h2 h3 h4 => ?_, B.env.live, B.env.tab⟩⟩, B.out.up upU⟩
  · obtain ⟨h1, h2⟩ := owU j d h
    exact (B.blk.ow j d h2).2
  · have hj : j < e0.length := (List.getElem?_eq_some_iff.mp h).1
    by_cases hv : j ∈ vs
    · exact ⟨s, unwipe_of hj (.inl ⟨hv, h⟩)⟩
    · obtain ⟨s', h'⟩ := B.blk.has j s hv h
      exact ⟨s', unwipe_of hj (.inr ⟨hv, h'⟩)⟩
  · rcases unwipe_get h with ⟨h1, h2⟩ | ⟨h1, h2⟩
    · obtain ⟨w, g1, g2⟩ := r0.sh j d h2
      exact ⟨w, g1, g2.up upS⟩
    · obtain ⟨w, g1, g2⟩ := B.env.sh j d h2
      exact ⟨w, by rw [← wipe_out h1]; exact g1, g2.up upU⟩
  · obtain ⟨h1, h2⟩ := owU j d h
    obtain ⟨b, g1, g2, g3⟩ := B.env.ow j d h2
    exact ⟨b, by rw [← wipe_out h1]; exact g1, g2, g3.up (fun _ _ e => e) upU⟩
  · obtain ⟨g1, g2⟩ := owU j d h1
    obtain ⟨g3, g4⟩ := owU j' d' h2
    exact B.env.inj j j' d d' a g2 g4 (by rw [wipe_out g1]; exact h3) (by rw [wipe_out g3]; exact h4)
end

section
variable {X : Cx} {G : GG}
/-- a generator expression's turns, by what is left to be done -/
theorem gx_sim {J : It} {ds : List Dat} {M : Addr → Prop} {σ : L2.St} {H1 : Hp} {e1 : En} {g : SG} {t : ST} {fe : SE} {ts vs : List Nat} {Y : YP} {Q' : List V → Hp → Prop} {S : List Dat → En → List Dat → Prop} {fn : En → List Dat → Prop} {out : List Dat → Dat → En → Prop → Prop}
    (T : TgOk ts g) (hts : ∀ j ∈ ts, j ∈ vs) (hY : YMono Y) (jok : JOk X.K G (NN M σ e1) H1 J ds)
    (h0 : ∀ env acc, S [] env acc → fn env acc)
    (h1 : ∀ d ds env acc, S (d :: ds) env acc → ∃ e2, g d env = some e2 ∧ ((∃ e3, t e2 = some (false, e3) ∧ S ds (wipeE e3 vs) acc) ∨
      ∃ e3 r e4 y e5, t e2 = some (true, e3) ∧ fe e3 = some (r, e4) ∧ esc e4 r = some (y, e5) ∧ acc.length < sizeLine ∧ out acc y (wipeE e5 vs) (S ds (wipeE e5 vs) (acc ++ [y]))))
    (hf : ∀ env acc ys H', BG X.K G M σ H1 e1 vs H' env ys acc → fn env acc → Q' ys H')
    (ho : ∀ acc y env ys x H' (Kp : Prop), BG X.K G M σ H1 e1 vs H' env (ys ++ [x]) (acc ++ [y]) → out acc y env Kp → Y ys x H' Kp) :
    GTurns J (tGv X.K G false ts g) (tTv X.K G t) (tEv X.K G fe) Y Q' vs σ
      (fun i m ys H' => m = ds.length - i ∧ i ≤ ds.length ∧ ∃ env acc, BG X.K G M σ H1 e1 vs H' env ys acc ∧ S (ds.drop i) env acc) := by
  rintro i m ys H' ⟨rfl, hi', env_i, acc, B, hl⟩
  have J' := jok (NN M (wipe σ vs) env_i) H' B.up (fun b => B.env.liveN)
  by_cases hlt : i < ds.length
  · right
    have hd : ds[i]? = some ds[i] := List.getElem?_eq_getElem hlt
    obtain ⟨go, yld⟩ := J'.1 i _ hd
    rw [List.drop_eq_getElem_cons hlt] at hl
    obtain ⟨e3, q3, hl⟩ := h1 _ _ _ _ hl
    refine ⟨go, fun ys2 H2 => ∃ env2 acc2, BG X.K G M σ H1 e1 vs H2 env2 ys2 acc2 ∧ S (ds.drop (i + 1)) env2 acc2, fun ys2 H2 ⟨env2, acc2, h1, h2⟩ => ⟨ds.length - (i + 1), by omega, rfl, hlt, env2, acc2, h1, h2⟩, fun x H2 hy => ?_⟩
    obtain ⟨sam, rx⟩ := yld x H2 hy
    refine ⟨M, env_i, ds[i], e3, B.env.sam sam, (fun z => by cases z), rx, q3, fun σ3 P4 only => ?_⟩
    have hw : wipe σ3 vs = wipe σ vs := wipe_only only hts
    have B3 : Blk vs e1 e3 := B.blk.tg T hts q3
    have P5 : PostS X.K G false M (wipe σ vs) H' env_i σ3 H2 e3 := ((Post.sam B.env sam).st (fun z => by cases z)).trans P4
    have own3 : ∀ b e, Shp e3 e → Own σ3 e b → Own σ e1 b := fun b e s z => by
      obtain ⟨j, d', h1, h2⟩ := s.own z
      obtain ⟨h3, d'', h4⟩ := B3.ow j d' h1
      have : (wipe σ3 vs)[j]? = (wipe σ vs)[j]? := by rw [hw]
      rw [wipe_out h3, wipe_out h3] at this
      exact ⟨j, d'', h4, by rw [← this]; exact h2⟩
    -- a turn's end
    have fin : ∀ {H3 : Hp} {e4 : En} {ys' : List V} {acc' : List Dat}, Post X.K G M σ3 H2 e3 H3 e4 → RelDs X.K G (NN M σ3 e4) H3 ys' acc' → BG X.K G M σ H1 e1 vs H3 (wipeE e4 vs) ys' acc' := fun {H3 e4 ys' acc'} p ro => by
      have e6 := p.env.wipe vs
      rw [hw] at e6
      refine ⟨e6, (B3.shp p.shp).wipe, fun b o nt e n => p.fr.k b o nt (P5.fr.k b o nt (B.fr b o nt e n) fun z => n (blk_own B.blk z)) fun z => n (own3 b e3 (Shp.refl _) z), fun b h => p.fr.l b (P5.fr.l b (B.live b h)), fun b h => p.fr.t b (P5.fr.t b (B.tab b h)), ro.up (less_up fun b z => ?_)⟩
      rcases z with z | z
      · exact .inl z
      · rw [← hw] at z
        exact .inr (own_wipe z)
    have rys := B.out.up P5.up
    refine ⟨hw, ?_⟩
    rcases hl with ⟨e4, q4, hS⟩ | ⟨e4, r, e5, y, e6, q4, q5, q6, hz, hS⟩
    · refine tTv_run P4.env q4 fun H3 p3 => ?_
      rw [if_neg Bool.false_ne_true]
      exact ⟨wipeE e4 vs, acc, fin p3 (rys.up p3.up), hS⟩
    · refine tTv_run P4.env q4 fun H3 p3 => ?_
      rw [if_pos rfl]
      refine tEv_run p3.env q5 fun w H4 p4 z4 n4 => ?_
      obtain ⟨p5, z5⟩ := esc_ok p4.env z4 q6
      have pp := (p3.trans p4).trans p5
      have B6 : BG X.K G M σ H1 e1 vs H4 (wipeE e6 vs) (ys ++ [w]) (acc ++ [y]) := fin pp (relDs_append (rys.up pp.up) ⟨w, [], rfl, z5, rfl⟩)
      refine ⟨by rw [relDs_len B.out]; exact hz, hY _ _ _ _ _ (fun k => ?_) (ho acc y (wipeE e6 vs) ys w H4 _ B6 hS)⟩
      exact ⟨wipeE e6 vs, acc ++ [y], B6, k⟩
  · left
    have e : i = ds.length := by omega
    subst e
    rw [List.drop_length] at hl
    exact ⟨J'.2, hf env_i acc ys H' B (h0 _ _ hl)⟩

/-! ### all(elt for .. in ..) -/
def alLoop (g : SG) (t : ST) (fe : SE) (vs : List Nat) : List Dat → En → Option (Bool × En)
  | [], env => some (true, env)
  | d :: ds, env => match g d env with
    | some e2 => match t e2 with
      | some (true, e3) => match fe e3 with
        | some (r, e4) => match esc e4 r with
          | some (.bl true, e5) => alLoop g t fe vs ds (wipeE e5 vs)
          | some (.bl false, e5) => some (false, wipeE e5 vs)
          | _ => none
        | none => none
      | some (false, e3) => alLoop g t fe vs ds (wipeE e3 vs)
      | none => none
    | none => none
def zAll (it : SI) (g : SG) (t : ST) (fe : SE) (vs : List Nat) : SE := fun env => match it env with
  | some (ds, e1) => if plainB e1 vs && sizeOk ds.length then match alLoop g t fe vs ds (wipeE e1 vs) with
    | some (b, e2) => some (.val (.bl b), unwipe e1 e2 vs)
    | none => none
    else none
  | none => none
theorem al_imp {it : SI} {g : SG} {t : ST} {fe : SE} {ts vs : List Nat} {P : Addr} (hP : P ∈ G.ts) (T : TgOk ts g) (hts : ∀ j ∈ ts, j ∈ vs) (σ : L2.St) (H : Hp) (Q : VK) (h : tEv X.K G (zAll it g t fe vs) σ H Q) :
    tAllX P (tIv X.K G it) (tGv X.K G false ts g) (tTv X.K G t) (tEv X.K G fe) vs σ H Q := by
  obtain ⟨M, env, r, env', re, q, k⟩ := h
  unfold zAll at q
  split at q <;> try cases q
  rename_i ds e1 q1
  split at q <;> try cases q
  rename_i hpl
  simp only [Bool.and_eq_true] at hpl
  obtain ⟨hpl, hsz⟩ := hpl
  split at q <;> try cases q
  rename_i bF e2 q2
  refine ⟨M, env, ds, e1, re, q1, fun J H1 p1 jok => ⟨p1.env.tab P hP, fun H2 ht => ?_⟩⟩
  have sam := tabbed_sam (p1.env.tab P hP) ht
  refine ⟨_, ds.length, ⟨by simp, Nat.zero_le _, wipeE e1 vs, [], ⟨(p1.env.sam sam).wipe vs, Blk.start, fun b o nt e _ => sam.k b o nt e, fun b h => sam.live h, fun b h => sam.t b h, rfl⟩, by simpa using sizeOk_le hsz, by simpa using q2⟩,
    gx_sim (S := fun ds env acc => acc.length + ds.length ≤ sizeLine ∧ alLoop g t fe vs ds env = some (bF, e2)) (fn := fun env acc => bF = true ∧ env = e2) (out := fun acc y env Kp => ∃ b, y = .bl b ∧ if b = true then Kp else bF = false ∧ env = e2) T hts (yAll_mono _) jok (fun env acc ⟨_, h⟩ => ?_) (fun d ds env acc ⟨hz, h⟩ => ?_) (fun env acc ys H' B ⟨h1, h2⟩ => ?_) fun acc y env ys x H' Kp B ⟨b, ey, h⟩ => ?_⟩
  · cases h
    exact ⟨rfl, rfl⟩
  · unfold alLoop at h
    simp only [List.length_cons] at hz
    split at h <;> try cases h
    rename_i e3 q3
    refine ⟨e3, q3, ?_⟩
    split at h <;> try cases h
    · rename_i e4 q4
      split at h <;> try cases h
      rename_i r5 e5 q5
      split at h <;> try cases h
      · rename_i e6 q6
        refine .inr ⟨e4, r5, e5, _, e6, q4, q5, q6, by omega, true, rfl, ?_⟩
        rw [if_pos rfl]
        exact ⟨by simp only [List.length_append, List.length_singleton]; omega, h⟩
      · rename_i q6 _
        refine .inr ⟨e4, r5, e5, _, _, q4, q5, q6, by omega, false, rfl, ?_⟩
        rw [if_neg Bool.false_ne_true]
        exact ⟨rfl, rfl⟩
    · rename_i e4 q4
      exact .inl ⟨e4, q4, by omega, h⟩
  · subst h1
    subst h2
    obtain ⟨p2, _⟩ := B.post p1.env hpl
    exact k _ H' (p1.trans p2) rfl trivial
  · have rx : RelD X.K G (NN M (wipe σ vs) env) H' x (.bl b) := by
      have := relDs_get' (i := ys.length) (v := x) B.out (by simp)
      obtain ⟨d, e, r⟩ := this
      have hl := relDs_len B.out
      have e' : d = y := by
        have hl2 : ys.length = acc.length := by simpa using hl
        rw [hl2] at e
        simpa using e.symm
      rw [e', ey] at r
      exact r
    refine ⟨b, rx, ?_⟩
    cases b with
    | true =>
      rw [if_pos rfl] at h ⊢
      exact h
    | false =>
      rw [if_neg Bool.false_ne_true] at h ⊢
      obtain ⟨h1, h2⟩ := h
      subst h1
      subst h2
      obtain ⟨p2, _⟩ := B.post p1.env hpl
      exact k _ H' (p1.trans p2) rfl trivial

/-! ### tuple(elt for .. in ..) -/
def zTupG (it : SI) (g : SG) (t : ST) (fe : SE) (vs : List Nat) : SE := fun env => match it env with
  | some (ds, e1) => if plainB e1 vs then match lcLoop g t fe vs ds (wipeE e1 vs) [] with
    | some (acc, e2) => some (.val (.tup acc), unwipe e1 e2 vs)
    | none => none
    else none
  | none => none
theorem tg_imp {it : SI} {g : SG} {t : ST} {fe : SE} {ts vs : List Nat} {P : Addr} (hP : P ∈ G.ts) (T : TgOk ts g) (hts : ∀ j ∈ ts, j ∈ vs) (σ : L2.St) (H : Hp) (Q : VK) (h : tEv X.K G (zTupG it g t fe vs) σ H Q) :
    tTupX P (tIv X.K G it) (tGv X.K G false ts g) (tTv X.K G t) (tEv X.K G fe) vs σ H Q := by
  obtain ⟨M, env, r, env', re, q, k⟩ := h
  unfold zTupG at q
  split at q <;> try cases q
  rename_i ds e1 q1
  split at q <;> try cases q
  rename_i hpl
  split at q <;> try cases q
  rename_i accF e2 q2
  refine ⟨M, env, ds, e1, re, q1, fun J H1 p1 jok => ⟨p1.env.tab P hP, fun H2 ht => ?_⟩⟩
  have sam := tabbed_sam (p1.env.tab P hP) ht
  refine ⟨_, ds.length, ⟨by simp, Nat.zero_le _, wipeE e1 vs, [], ⟨(p1.env.sam sam).wipe vs, Blk.start, fun b o nt e _ => sam.k b o nt e, fun b h => sam.live h, fun b h => sam.t b h, rfl⟩, by simpa using q2⟩,
    gx_sim (S := fun ds env acc => lcLoop g t fe vs ds env acc = some (accF, e2)) (fn := fun env acc => acc = accF ∧ env = e2) (out := fun acc y env Kp => Kp) T hts yAny_mono jok (fun env acc h => ?_) (fun d ds env acc h => ?_) (fun env acc ys H' B ⟨h1, h2⟩ => ?_) fun acc y env ys x H' Kp B h => h⟩
  · cases h
    exact ⟨rfl, rfl⟩
  · unfold lcLoop at h
    split at h <;> try cases h
    rename_i e3 q3
    refine ⟨e3, q3, ?_⟩
    split at h <;> try cases h
    · rename_i e4 q4
      split at h <;> try cases h
      rename_i r5 e5 q5
      split at h <;> try cases h
      rename_i y e6 q6
      split at h <;> try cases h
      rename_i hz
      exact .inr ⟨e4, r5, e5, y, e6, q4, q5, q6, Nat.lt_of_lt_of_le (Nat.lt_succ_self _) (sizeOk_le hz), h⟩
    · rename_i e4 q4
      exact .inl ⟨e4, q4, h⟩
  · subst h1
    subst h2
    obtain ⟨p2, ro⟩ := B.post p1.env hpl
    intro p hp
    obtain ⟨p3, z3, n3⟩ := res0_ok (r := .val (.tup acc)) (v := .ref p) p2.env (Sam.new (o := .tup ys) hp) (show RelD X.K G _ _ _ _ from ⟨p, ys, rfl, .inl ⟨.inl upd_same, fun z => p2.env.liveN z hp⟩, ro.up (Sam.new hp).up⟩)
    exact k _ _ ((p1.trans p2).trans p3) z3 trivial
end
end Zz
end

section
set_option Elab.async false
set_option linter.all false
set_option maxRecDepth 100000
namespace Zz
open PySem PySem.Spec PyProof.Rows L2

/-! ### what a datum is -/
section
variable {K : PySem.W.Frag} {G : GG} {N : Addr → Prop} {H : Hp} {v : V}
theorem ofL {ds : List Dat} (h : RelT K G N H v (.lst ds)) : ∃ a vs, v = .ref a ∧ SqL K H a vs ∧ RelDs K G N H vs ds := by
  rcases h with ⟨a, vs, e, h1, h2⟩ | ⟨a, e, vs, h1, h2⟩
  · exact ⟨a, vs, e, h1.imp (fun z => z.1) id, h2⟩
  · exact ⟨a, vs, e, .inl (.inl h1), h2⟩
theorem ofT {ds : List Dat} (h : RelT K G N H v (.tup ds)) : ∃ a vs, v = .ref a ∧ SqT K H a vs ∧ RelDs K G N H vs ds := by
  rcases h with ⟨a, vs, e, h1, h2⟩ | ⟨a, e, h1⟩
  · exact ⟨a, vs, e, h1.imp (fun z => z.1) id, h2⟩
  · exact h1.elim
theorem ofI {i : Int} (h : RelT K G N H v (.int i)) : v = .int i := by
  rcases h with h | ⟨a, _, h⟩
  · exact h
  · exact h.elim
theorem ofB {b : Bool} (h : RelT K G N H v (.bl b)) : v = .bl b := by
  rcases h with h | ⟨a, _, h⟩
  · exact h
  · exact h.elim
theorem ofN (h : RelT K G N H v .non) : v = .non := by
  rcases h with h | ⟨a, _, h⟩
  · exact h
  · exact h.elim
theorem ofS {x : Str} (h : RelT K G N H v (.str x)) : v = .str x := by
  rcases h with h | ⟨a, _, h⟩
  · exact h
  · exact h.elim
/-- a scalar, fully known -/
def sclD : V → Dat → Prop
  | .int i, .int j => i = j
  | .bl a, .bl b => a = b
  | .non, .non => True
  | .str x, .str y => x = y
  | _, _ => False
theorem sclD_rel {d : Dat} (h : sclD v d) : RelD K G N H v d := by
  cases v <;> cases d <;> first | (exact False.elim h) | (cases h; rfl) | rfl
end

section
variable {X : Cx} {G : GG}
/-- an operation on two ints -/
def gII (g : Int → Int → Option Dat) : Dat → Dat → Option R
  | .int i, .int j => (g i j).map R.val
  | _, _ => none
theorem opz_ii {f : Value → Value → Sem Value} {C : Int → Int → Prop} {r : Int → Int → V} {g : Int → Int → Option Dat} (h : OpR X f (rI C r)) (hg : ∀ i j d, g i j = some d → C i j ∧ sclD (r i j) d) : OpZ X G f (gII g) := by
  refine ⟨_, h, fun N x y d1 d2 res H Q hl h1 h2 q k => ?_⟩
  unfold gII at q
  split at q <;> try cases q
  rename_i i j
  cases e : g i j with
  | none => rw [e] at q; cases q
  | some d =>
    rw [e] at q
    cases q
    obtain ⟨c, s⟩ := hg i j d e
    exact ⟨i, j, ofI h1, ofI h2, c, k _ H (Sam.refl H) (sclD_rel s)⟩
theorem opz_ii0 {f : Value → Value → Sem Value} {r : Int → Int → V} {g : Int → Int → Option Dat} (h : OpR X f (rI0 r)) (hg : ∀ i j d, g i j = some d → sclD (r i j) d) : OpZ X G f (gII g) := by
  refine ⟨_, h, fun N x y d1 d2 res H Q hl h1 h2 q k => ?_⟩
  unfold gII at q
  split at q <;> try cases q
  rename_i i j
  cases e : g i j with
  | none => rw [e] at q; cases q
  | some d =>
    rw [e] at q
    cases q
    exact ⟨i, j, ofI h1, ofI h2, k _ H (Sam.refl H) (sclD_rel (hg i j d e))⟩
/-- either of two -/
def gOr (a b : Dat → Dat → Option R) : Dat → Dat → Option R := fun x y => match a x y with
  | some r => some r
  | none => b x y
theorem opz_or {f : Value → Value → Sem Value} {a b : Dat → Dat → Option R} (h1 : OpZ X G f a) (h2 : OpZ X G f b) : OpZ X G f (gOr a b) := by
  obtain ⟨r1, o1, k1⟩ := h1
  obtain ⟨r2, o2, k2⟩ := h2
  refine ⟨_, o1.or o2, fun N x y d1 d2 res H Q hl e1 e2 q k => ?_⟩
  unfold gOr at q
  split at q
  · rename_i r e
    cases q
    exact .inl (k1 N x y d1 d2 _ H Q hl e1 e2 e k)
  · exact .inr (k2 N x y d1 d2 res H Q hl e1 e2 q k)

/-! ### + - * // % ** on ints, + on tuples and lists -/
def gCatT : Dat → Dat → Option R
  | .tup a, .tup b => if sizeOk (a.length + b.length) then some (.val (.tup (a ++ b))) else none
  | _, _ => none
def gCatL : Dat → Dat → Option R
  | .lst a, .lst b => if sizeOk (a.length + b.length) then some (.fresh (.lst (a ++ b))) else none
  | _, _ => none
theorem new_notin {N : Addr → Prop} {H : Hp} {p : Addr} (hl : ∀ b, N b → H b ≠ none) (hp : H p = none) : ¬ N p := fun z => hl p z hp
theorem opz_catT : OpZ X G (binaryOp .Add) gCatT := by
  refine ⟨_, op_catA, fun N x y d1 d2 res H Q hl h1 h2 q k => ?_⟩
  unfold gCatT at q
  split at q <;> try cases q
  split at q <;> try cases q
  rename_i as bs hz
  obtain ⟨a, vs, rfl, s1, r1⟩ := ofT h1
  obtain ⟨b, ws, rfl, s2, r2⟩ := ofT h2
  have l1 := relDs_len r1
  have l2 := relDs_len r2
  refine ⟨a, b, vs, ws, rfl, rfl, s1, s2, by rw [l1, l2]; exact sizeOk_le hz, fun e => ?_, fun _ e => ?_, fun _ _ p hp => ?_⟩
  · subst e
    have e' : as = [] := by simpa using l1.symm
    subst e'
    refine k _ H (Sam.refl H) ?_
    rcases h2 with z | ⟨c, _, z⟩
    · show RelD X.K G N H _ (.tup ([] ++ bs))
      simpa using z
    · exact z.elim
  · subst e
    have e' : bs = [] := by simpa using l2.symm
    subst e'
    refine k _ H (Sam.refl H) ?_
    rcases h1 with z | ⟨c, _, z⟩
    · show RelD X.K G N H _ (.tup (as ++ []))
      simpa using z
    · exact z.elim
  · exact k _ _ (Sam.new hp) (show RelD X.K G N _ _ _ from ⟨p, _, rfl, .inl ⟨.inl upd_same, new_notin hl hp⟩, (relDs_append r1 r2).up (Sam.new hp).up⟩)
/-- a + b on lists, of any kind -/
def rCatL (K : PySem.W.Frag) : R2 := fun x y H Q => ∃ l b xs zs, x = .ref l ∧ y = .ref b ∧ SqL K H l xs ∧ SqL K H b zs ∧ xs.length + zs.length ≤ sizeLine ∧ ∀ p, H p = none → Q (.ref p) (upd H p (.lst (xs ++ zs)))
theorem op_catL : OpR X (binaryOp .Add) (rCatL X.K) := by
  intro pins s σ H x y v u Q I rx ry h
  obtain ⟨l, b, xs, zs, rfl, rfl, h1, h2, hz, q⟩ := h
  cases rx
  cases ry
  obtain ⟨its, r1, ⟨o1, n1, e1, c1, d1, t1⟩, z1⟩ := I.list h1
  obtain ⟨its2, r2, ⟨o2, n2, e2, c2, d2, t2⟩, z2⟩ := I.list h2
  have l1 := r1.length
  have l2 := r2.length
  obtain ⟨cls1, dd1, dat1, sl1⟩ := o1
  obtain ⟨cls2, dd2, dat2, sl2⟩ := o2
  simp only at c1 d1 t1 c2 d2 t2
  subst c1 d1 t1 c2 d2 t2
  refine concat_meets ⟨_, e1, rfl⟩ ⟨_, e2, rfl⟩ noFill_list_add seq_list_add PySem.F.slot_list_add PySem.F.entry_list_add (PySem.F.args_list_add_2 _ _)
    (list_addW l b its.toArray its2.toArray n1 n2 none none sl1 sl2 (by rw [List.size_toArray, List.size_toArray]; omega)) ⟨e1, e2, ?_⟩
  have ea : its.toArray ++ its2.toArray = (its ++ its2).toArray := by simp
  rw [ea]
  exact ⟨.ref _, _, I.lnew (t' := s.toks) (r1.append r2) (by rw [List.length_append]; omega), rfl, q _ I.fresh⟩
theorem opz_catL : OpZ X G (binaryOp .Add) gCatL := by
  refine ⟨_, op_catL, fun N x y d1 d2 res H Q hl h1 h2 q k => ?_⟩
  unfold gCatL at q
  split at q <;> try cases q
  split at q <;> try cases q
  rename_i as bs hz
  obtain ⟨a, vs, rfl, s1, r1⟩ := ofL h1
  obtain ⟨b, ws, rfl, s2, r2⟩ := ofL h2
  refine ⟨a, b, vs, ws, rfl, rfl, s1, s2, by rw [relDs_len r1, relDs_len r2]; exact sizeOk_le hz, fun p hp => ?_⟩
  exact k _ _ (Sam.new hp) ⟨p, rfl, hp, _, upd_same, (relDs_append r1 r2).up (new_up hp)⟩
def gAdd : Dat → Dat → Option R := gOr (gII fun i j => some (.int (i + j))) (gOr gCatT gCatL)
theorem oz_add : OpZ X G (binaryOp .Add) gAdd := opz_or (opz_ii0 op_add fun i j d e => by cases e; rfl) (opz_or opz_catT opz_catL)
def gSub : Dat → Dat → Option R := gII fun i j => some (.int (i - j))
theorem oz_sub : OpZ X G (binaryOp .Sub) gSub := opz_ii0 op_sub fun i j d e => by cases e; rfl
def smallB (i : Int) : Bool := decide (-(2 ^ 64) < i) && decide (i < 2 ^ 64)
def gMul : Dat → Dat → Option R := gII fun i j => if smallB i || smallB j then some (.int (i * j)) else none
theorem oz_mul : OpZ X G (binaryOp .Mult) gMul := opz_ii op_mul fun i j d e => by
  split at e <;> try cases e
  rename_i h
  refine ⟨?_, rfl⟩
  simp only [smallB, Bool.or_eq_true, Bool.and_eq_true, decide_eq_true_eq] at h
  exact h
def gDiv : Dat → Dat → Option R := gII fun i j => if decide (0 < j) && decide (j < 1073741824) then some (.int (i / j)) else none
theorem oz_div : OpZ X G (binaryOp .FloorDiv) gDiv := opz_ii op_fdiv fun i j d e => by
  split at e <;> try cases e
  rename_i h
  simp only [Bool.and_eq_true, decide_eq_true_eq] at h
  exact ⟨h, rfl⟩
def gMod : Dat → Dat → Option R := gII fun i j => if decide (0 < j) then some (.int (i % j)) else none
theorem oz_mod : OpZ X G (binaryOp .Mod) gMod := opz_ii op_mod fun i j d e => by
  split at e <;> try cases e
  rename_i h
  exact ⟨of_decide_eq_true h, rfl⟩
def gPow : Dat → Dat → Option R := gII fun i j => if decide (0 ≤ j) && decide (j ≤ 1000) && decide (i.natAbs < 2 ^ 64) then some (.int (i ^ j.toNat)) else none
theorem oz_pow : OpZ X G (binaryOp .Pow) gPow := opz_ii op_pow fun i j d e => by
  split at e <;> try cases e
  rename_i h
  simp only [Bool.and_eq_true, decide_eq_true_eq] at h
  exact ⟨⟨h.1.1, by omega, h.2⟩, rfl⟩
def gLt : Dat → Dat → Option R := gII fun i j => some (.bl (decide (i < j)))
def gLe : Dat → Dat → Option R := gII fun i j => some (.bl (decide (i ≤ j)))
def gGt : Dat → Dat → Option R := gII fun i j => some (.bl (decide (j < i)))
def gGe : Dat → Dat → Option R := gII fun i j => some (.bl (decide (j ≤ i)))
theorem oz_lt : OpZ X G (compareOp .Lt) gLt := opz_ii0 op_lt fun i j d e => by cases e; rfl
theorem oz_le : OpZ X G (compareOp .LtE) gLe := opz_ii0 op_le fun i j d e => by cases e; rfl
theorem oz_gt : OpZ X G (compareOp .Gt) gGt := opz_ii0 op_gt fun i j d e => by cases e; rfl
theorem oz_ge : OpZ X G (compareOp .GtE) gGe := opz_ii0 op_ge fun i j d e => by cases e; rfl

/-! ### == and != of data -/
mutual
def toP : Dat → Option PyData
  | .non => some .none
  | .bl b => some (.bool b)
  | .int i => some (.int i)
  | .str x => some (.str x)
  | .tup l => (toPs l).map .tuple
  | .lst l => (toPs l).map .list
  | _ => none
def toPs : List Dat → Option (List PyData)
  | [] => some []
  | d :: ds => match toP d, toPs ds with
    | some p, some ps => some (p :: ps)
    | _, _ => none
end
mutual
theorem dp_of {N : Addr → Prop} {H : Hp} : ∀ {d : Dat} {v : V} {p : PyData}, RelD X.K G N H v d → toP d = some p → Dp X.K H v p
  | .non, _, _, h, e => by cases h; cases e; exact .non
  | .bl b, _, _, h, e => by cases h; cases e; exact .bl b
  | .int i, _, _, h, e => by cases h; cases e; exact .int i
  | .str x, _, _, h, e => by cases h; cases e; exact .str x
  | .tup l, _, _, ⟨a, vs, ev, h1, h2⟩, e => by
    unfold toP at e
    cases q : toPs l with
    | none => rw [q] at e; cases e
    | some ps =>
      rw [q] at e
      cases e
      subst ev
      exact .tup (h1.imp (fun z => z.1) id) (dps_of h2 q)
  | .lst l, _, _, ⟨a, vs, ev, h1, h2⟩, e => by
    unfold toP at e
    cases q : toPs l with
    | none => rw [q] at e; cases e
    | some ps =>
      rw [q] at e
      cases e
      subst ev
      exact .lst (h1.imp (fun z => z.1) id) (dps_of h2 q)
  | .dct _ _, _, _, _, e => by cases e
  | .set _, _, _, _, e => by cases e
  | .fn _, _, _, _, e => by cases e
  | .ty _, _, _, _, e => by cases e
theorem dps_of {N : Addr → Prop} {H : Hp} : ∀ {ds : List Dat} {vs : List V} {ps : List PyData}, RelDs X.K G N H vs ds → toPs ds = some ps → DpAll X.K H vs ps
  | [], _, _, h, e => by
    have h : _ = [] := h
    subst h
    cases e
    exact .nil
  | d :: ds, _, _, ⟨v, r, ev, h1, h2⟩, e => by
    unfold toPs at e
    subst ev
    split at e <;> try cases e
    rename_i p ps q1 q2
    exact .cons (dp_of h1 q1) (dps_of h2 q2)
end
theorem dpT_of {N : Addr → Prop} {H : Hp} {d : Dat} {v : V} {p : PyData} (h : RelT X.K G N H v d) (e : toP d = some p) : Dp X.K H v p := by
  cases d with
  | lst l =>
    obtain ⟨a, vs, rfl, h1, h2⟩ := ofL h
    unfold toP at e
    cases q : toPs l with
    | none => rw [q] at e; cases e
    | some ps =>
      rw [q] at e
      cases e
      exact .lst h1 (dps_of h2 q)
  | _ =>
    rcases h with h | ⟨a, _, h⟩
    · exact dp_of h e
    · first | exact h.elim | cases e
/-- a == b, of plain data -/
def eqD (a b : Dat) : Option Bool := match toP a, toP b with
  | some p, some q => if SeqAt.shaped p && SeqAt.shaped q then some (PyData.eqv p q) else none
  | _, _ => none
def gEq : Dat → Dat → Option R := fun a b => (eqD a b).map fun k => .val (.bl k)
def gNe : Dat → Dat → Option R := fun a b => (eqD a b).map fun k => .val (.bl (!k))
theorem oz_eq (hu : X.A.units + 64 < cLine) : OpZ X G (compareOp .Eq) gEq := by
  refine ⟨_, op_eqD hu, fun N x y d1 d2 res H Q hl h1 h2 q k => ?_⟩
  unfold gEq eqD at q
  split at q <;> try cases q
  rename_i p1 p2 e1 e2
  split at q <;> try cases q
  rename_i hs
  simp only [Bool.and_eq_true] at hs
  exact ⟨p1, p2, dpT_of h1 e1, dpT_of h2 e2, hs.1, hs.2, k _ H (Sam.refl H) rfl⟩
theorem oz_ne (hu : X.A.units + 64 < cLine) : OpZ X G (compareOp .NotEq) gNe := by
  refine ⟨_, op_neD hu, fun N x y d1 d2 res H Q hl h1 h2 q k => ?_⟩
  unfold gNe eqD at q
  split at q <;> try cases q
  rename_i p1 p2 e1 e2
  split at q <;> try cases q
  rename_i hs
  simp only [Bool.and_eq_true] at hs
  exact ⟨p1, p2, dpT_of h1 e1, dpT_of h2 e2, hs.1, hs.2, k _ H (Sam.refl H) rfl⟩
/-- a is None, a is True -/
def gIs : Dat → Dat → Option R
  | .non, .non => some (.val (.bl true))
  | .bl _, .non => some (.val (.bl false))
  | .int _, .non => some (.val (.bl false))
  | .str _, .non => some (.val (.bl false))
  | .tup _, .non => some (.val (.bl false))
  | .lst _, .non => some (.val (.bl false))
  | .bl a, .bl b => some (.val (.bl (decide (a = b))))
  | _, _ => none
def gIsNot : Dat → Dat → Option R := fun a b => match gIs a b with
  | some (.val (.bl k)) => some (.val (.bl (!k)))
  | _ => none
theorem oz_is : OpZ X G (compareOp .Is) gIs := by
  refine ⟨_, op_isN.or op_is_bl, fun N x y d1 d2 res H Q hl h1 h2 q k => ?_⟩
  unfold gIs at q
  split at q <;> try cases q
  · have e1 := ofN h1
    have e2 := ofN h2
    subst e1 e2
    exact .inl ⟨rfl, by simpa using k (.bl true) H (Sam.refl H) rfl⟩
  · have e1 := ofB h1
    have e2 := ofN h2
    subst e1 e2
    exact .inl ⟨rfl, by simpa using k (.bl false) H (Sam.refl H) rfl⟩
  · have e1 := ofI h1
    have e2 := ofN h2
    subst e1 e2
    exact .inl ⟨rfl, by simpa using k (.bl false) H (Sam.refl H) rfl⟩
  · have e1 := ofS h1
    have e2 := ofN h2
    subst e1 e2
    exact .inl ⟨rfl, by simpa using k (.bl false) H (Sam.refl H) rfl⟩
  · obtain ⟨a, vs, rfl, _⟩ := ofT h1
    have e2 := ofN h2
    subst e2
    exact .inl ⟨rfl, by simpa using k (.bl false) H (Sam.refl H) rfl⟩
  · obtain ⟨a, vs, rfl, _⟩ := ofL h1
    have e2 := ofN h2
    subst e2
    exact .inl ⟨rfl, by simpa using k (.bl false) H (Sam.refl H) rfl⟩
  · have e1 := ofB h1
    have e2 := ofB h2
    subst e1 e2
    exact .inr ⟨_, _, rfl, rfl, k _ H (Sam.refl H) rfl⟩
end
end Zz
end

section
set_option Elab.async false
set_option linter.all false
set_option maxRecDepth 100000
namespace Zz
open PySem PySem.Spec PyProof.Rows L2

section
variable {X : Cx} {G : GG}
/-! ### names of the top -/
theorem pz_gv {x : Str} {v : V} {u : Value} {d : Dat} {pos : Pos} (hg : Gl X x) (hm : X.mg x = some u) (r : RelV v u) (rd : ∀ N H, RelD X.K G N H v d) (hd : (x == ("__debug__" : Str)) = false) : PE X (.Name x pos) (tEv X.K G (zC d)) := by
  refine PE.imp (pe_glob hg hm r hd) ?_
  rintro σ H Q ⟨M, env, r, env', e, q, k⟩
  cases q
  exact k _ H (.refl e) (rd _ _) trivial
theorem pz_bv {x : Str} {n : String} {pos : Pos} (hg : Gl X x) (hm : X.mg x = none) (hv : bootBuiltins x = some (.type n)) (hn : x ≠ "__name__") (hd : (x == ("__debug__" : Str)) = false) : PE X (.Name x pos) (tEv X.K G (zC (.ty n))) := by
  refine PE.imp (pe_bltn (v := .ty n) hg hm hv rfl hn hd) ?_
  rintro σ H Q ⟨M, env, r, env', e, q, k⟩
  cases q
  exact k _ H (.refl e) rfl trivial

/-! ### a[i], a[i:j] -/
def gIx : Dat → Dat → Option R
  | .lst l, .int i => (atI l i).map R.val
  | .tup l, .int i => (atI l i).map R.val
  | _, _ => none
theorem atI_rel {N : Addr → Prop} {H : Hp} {vs : List V} {ds : List Dat} {i : Int} {d : Dat} (h : RelDs X.K G N H vs ds) (e : atI ds i = some d) : ∃ v, atI vs i = some v ∧ RelD X.K G N H v d := by
  unfold atI at e ⊢
  rw [relDs_len h]
  cases q : ixN ds.length i with
  | none => rw [q] at e; cases e
  | some j =>
    rw [q] at e
    exact relDs_get h e
theorem pz_ix {a b : Expr} {pos : Pos} {fa fb : SE} (ha : PE X a (tEv X.K G fa)) (hb : PE X b (tEv X.K G fb)) (hs : PlainIx b) : PE X (.Subscript a b pos) (tEv X.K G (zBin gIx fa fb)) := by
  refine PE.imp (pe_ix ix_seq ha hb hs) ?_
  rintro σ H Q ⟨M, env, r, env', e, q, k⟩
  unfold zBin at q
  split at q <;> try cases q
  rename_i r1 e1 q1
  split at q <;> try cases q
  rename_i r2 e2 q2
  split at q <;> try cases q
  rename_i d1 d2 q3 q4
  split at q <;> try cases q
  rename_i r0 q5
  refine two_ok e q1 q2 fun x y H' p ex ey => ?_
  have rx := rdv_ok p.env ex q3
  have ry := rdv_ok p.env ey.nrm q4
  unfold gIx at q5
  split at q5 <;> try cases q5
  · rename_i l i
    obtain ⟨a, vs, rfl, s1, h1⟩ := ofL rx
    cases q6 : atI l i with
    | none => rw [q6] at q5; cases q5
    | some d =>
      rw [q6] at q5
      cases q5
      obtain ⟨v, h2, h3⟩ := atI_rel h1 q6
      have ei := ofI ry
      subst ei
      exact .inl ⟨a, vs, i, v, rfl, rfl, s1, h2, k v H' p h3 trivial⟩
  · rename_i l i
    obtain ⟨a, vs, rfl, s1, h1⟩ := ofT rx
    cases q6 : atI l i with
    | none => rw [q6] at q5; cases q5
    | some d =>
      rw [q6] at q5
      cases q5
      obtain ⟨v, h2, h3⟩ := atI_rel h1 q6
      have ei := ofI ry
      subst ei
      exact .inr (.inl ⟨a, vs, i, v, rfl, rfl, s1, h2, k v H' p h3 trivial⟩)
abbrev SO := En → Option (Option Int × En)
def tOv (K : PySem.W.Frag) (G : GG) (f : SO) : TO := fun σ H Q => ∃ (M : Addr → Prop) (env : En) (o : Option Int) (env' : En), REnv K G M σ H env ∧ f env = some (o, env') ∧ ∀ H', Post K G M σ H env H' env' → Q o H'
def zNoP : SO := fun env => some (none, env)
def zP (fa : SE) : SO := fun env => match fa env with
  | some (r, e1) => match rdv e1 r with
    | some (.int i) => some (some i, e1)
    | _ => none
  | none => none
theorem poz_none : PO X none (tOv X.K G zNoP) := ⟨fun pins s σ H Q I ⟨M, env, o, env', e, q, k⟩ => po_none.run pins s σ H Q I (by cases q; exact k H (.refl e))⟩
theorem poz_some {a : Expr} {fa : SE} (ha : PE X a (tEv X.K G fa)) : PO X (some a) (tOv X.K G (zP fa)) := ⟨fun pins s σ H Q I ⟨M, env, o, env', e, q, k⟩ => (po_some ha).run pins s σ H Q I (by
  unfold zP at q
  split at q <;> try cases q
  rename_i r e1 q1
  split at q <;> try cases q
  rename_i i q2
  exact tEv_run e q1 fun v H' p z _ => ⟨i, ofI (rdv_ok p.env z q2), k H' p⟩)⟩
def cutD (l : List Dat) (lo hi : Option Int) : List Dat := (l.drop (HT.sIx l.length 0 lo)).take (HT.sIx l.length l.length hi - HT.sIx l.length 0 lo)
def gSl : Dat → Option Int → Option Int → Option R
  | .lst l, lo, hi => some (.fresh (.lst (cutD l lo hi)))
  | .tup l, lo, hi => some (.val (.tup (cutD l lo hi)))
  | _, _, _ => none
def zSl (fa : SE) (fl fh : SO) : SE := fun env => match fa env with
  | some (r1, e1) => match fl e1 with
    | some (lo, e2) => match fh e2 with
      | some (hi, e3) => match rdv e3 (nrm r1) with
        | some d => match gSl d lo hi with
          | some r => some (r, e3)
          | none => none
        | none => none
      | none => none
    | none => none
  | none => none
theorem cut_rel {N : Addr → Prop} {H : Hp} {vs : List V} {ds : List Dat} {lo hi : Option Int} (h : RelDs X.K G N H vs ds) : RelDs X.K G N H (cutV vs lo hi) (cutD ds lo hi) := by
  unfold cutV cutD
  rw [relDs_len h]
  exact relDs_take _ (relDs_drop _ h)
theorem cut_all {l : List Dat} {lo hi : Option Int} (h : HT.sIx l.length 0 lo = 0 ∧ HT.sIx l.length l.length hi = l.length) : cutD l lo hi = l := by
  unfold cutD
  rw [h.1, h.2]
  simp
theorem pz_slice {e : Expr} {lo hi : Option Expr} {p2 pos : Pos} {fa : SE} {fl fh : SO} (he : PE X e (tEv X.K G fa)) (hl : PO X lo (tOv X.K G fl)) (hh : PO X hi (tOv X.K G fh)) : PE X (.Subscript e (.Slice lo hi none p2) pos) (tEv X.K G (zSl fa fl fh)) := by
  refine PE.imp (pe_slice (sl_list.or sl_tupA) he hl hh) ?_
  rintro σ H Q ⟨M, env, r, env', e, q, k⟩
  unfold zSl at q
  split at q <;> try cases q
  rename_i r1 e1 q1
  split at q <;> try cases q
  rename_i lo' e2 q2
  split at q <;> try cases q
  rename_i hi' e3 q3
  split at q <;> try cases q
  rename_i d q4
  split at q <;> try cases q
  rename_i r0 q5
  refine tEv_run e q1 fun v H1 p1 z1 _ => ⟨M, e1, lo', e2, p1.env, q2, fun H2 p2 => ⟨M, e2, hi', env', p2.env, q3, fun H3 p3 => ?_⟩⟩
  have pp := (p1.trans p2).trans p3
  have rx := rdv_ok p3.env ((z1.nrm.keep p2).keep p3) q4
  unfold gSl at q5
  split at q5 <;> try cases q5
  · rename_i l
    obtain ⟨a, vs, rfl, s1, h1⟩ := ofL rx
    refine .inl ⟨a, vs, rfl, s1, fun p hp => ?_⟩
    obtain ⟨p4, z4, n4⟩ := res0_ok (r := .fresh (.lst (cutD l lo' hi'))) (v := .ref p) p3.env (Sam.new (o := .lst (cutV vs lo' hi')) hp) (show Res0 X.K G _ _ _ _ _ from ⟨p, rfl, hp, _, upd_same, (cut_rel h1).up (new_up hp)⟩)
    exact k _ _ (pp.trans p4) z4 (n4.back pp)
  · rename_i l
    obtain ⟨a, vs, rfl, s1, h1⟩ := ofT rx
    have hlen := relDs_len h1
    refine .inr ⟨a, vs, rfl, s1, fun hw => ?_, fun _ p hp => ?_⟩
    · rw [hlen] at hw
      rw [cut_all hw] at k
      refine k _ _ pp ?_ trivial
      rcases rx with z | ⟨c, _, z⟩
      · exact z
      · exact z.elim
    · obtain ⟨p4, z4, n4⟩ := res0_ok (r := .val (.tup (cutD l lo' hi'))) (v := .ref p) p3.env (Sam.new (o := .tup (cutV vs lo' hi')) hp) (show RelD X.K G _ _ _ _ from ⟨p, _, rfl, .inl ⟨.inl upd_same, fun z => p3.env.liveN z hp⟩, (cut_rel h1).up (Sam.new hp).up⟩)
      exact k _ _ (pp.trans p4) z4 trivial

/-! ### a op b op c -/
def zChain (g g' : Dat → Dat → Option R) (fa fb fc : SE) : SE := fun env => match fa env with
  | some (r1, e1) => match fb e1 with
    | some (r2, e2) => match rdv e2 (nrm r1), rdv e2 (nrm r2) with
      | some d1, some d2 => match g d1 d2 with
        | some (.val (.bl true)) => match fc e2 with
          | some (r3, e3) => match rdv e3 (nrm r2), rdv e3 (nrm r3) with
            | some d2, some d3 => match g' d2 d3 with
              | some (.val (.bl b)) => some (.val (.bl b), e3)
              | _ => none
            | _, _ => none
          | none => none
        | some (.val (.bl false)) => some (.val (.bl false), e2)
        | _ => none
      | _, _ => none
    | none => none
  | none => none
theorem pz_chain {a b c : Expr} {op op' : CmpOp} {pos : Pos} {fa fb fc : SE} {g g' : Dat → Dat → Option R} (ho : OpZ X G (compareOp op) g) (ho' : OpZ X G (compareOp op') g') (ha : PE X a (tEv X.K G fa)) (hb : PE X b (tEv X.K G fb)) (hc : PE X c (tEv X.K G fc))
    (hm : lastMarks [op, op'] [b, c] = false) : PE X (.Compare a [op, op'] [b, c] pos) (tEv X.K G (zChain g g' fa fb fc)) := by
  obtain ⟨rr, h1, h2⟩ := ho
  obtain ⟨rr', h1', h2'⟩ := ho'
  refine PE.imp (pe_chain h1 h1' ha hb hc hm) ?_
  rintro σ H Q ⟨M, env, r, env', e, q, k⟩
  unfold zChain at q
  split at q <;> try cases q
  rename_i r1 e1 q1
  split at q <;> try cases q
  rename_i r2 e2 q2
  split at q <;> try cases q
  rename_i d1 d2 q3 q4
  split at q <;> try cases q
  · rename_i q5
    split at q <;> try cases q
    rename_i r3 e3 q6
    split at q <;> try cases q
    rename_i d2' d3 q7 q8
    split at q <;> try cases q
    rename_i bb q9
    refine two_ok e q1 q2 fun x y H' p ex ey => h2 (NN M σ e2) x y d1 d2 _ H' _ (fun b => p.env.liveN) (rdv_ok p.env ex q3) (rdv_ok p.env ey.nrm q4) q5 fun v H2 s z => ?_
    obtain ⟨p2, z2, n2⟩ := res0_ok p.env s z
    refine ⟨true, z2, ?_⟩
    rw [if_pos rfl]
    refine tEv_run p2.env q6 fun w H3 p3 z3 n3 => ?_
    refine h2' (NN M σ env') y w d2' d3 _ H3 Q (fun b => p3.env.liveN) (rdv_ok p3.env ((ey.nrm.keep p2).keep p3) q7) (rdv_ok p3.env z3.nrm q8) q9 fun v' H4 s4 z4 => ?_
    obtain ⟨p5, z5, n5⟩ := res0_ok p3.env s4 z4
    exact k v' H4 (((p.trans p2).trans p3).trans p5) z5 trivial
  · rename_i q5
    refine two_ok e q1 q2 fun x y H' p ex ey => h2 (NN M σ env') x y d1 d2 _ H' _ (fun b => p.env.liveN) (rdv_ok p.env ex q3) (rdv_ok p.env ey.nrm q4) q5 fun v H2 s z => ?_
    obtain ⟨p2, z2, n2⟩ := res0_ok p.env s z
    refine ⟨false, z2, ?_⟩
    rw [if_neg Bool.false_ne_true]
    exact k _ H2 (p.trans p2) rfl trivial

/-! ### a def's call -/
theorem pz_call {k : Nat} {f : Addr} {fd : FuncData} {ps : List Str} {fs : FS} {x : Str} {p pos : Pos} {e : Expr} {es : List Expr} {fa : SA} (F : FnOk X.prog X.w X.K X.mg X.base CX0 k f fd ps (SpF X.K G fs)) (hr : Room k X.A) (hg : Gl X x) (hm : X.mg x = some (.ref f)) (hk : PySem.W.keepIn X.K (.ref f) = true) (hb : L2.Binds X.K fd ps [])
    (ha : PA X (e :: es) (tAv X.K G fa)) (hn : Nrm fa) (hdb : (x == ("__debug__" : Str)) = false) (he : starEach (e :: es) X.env = (false, eval e X.env) :: starEach es X.env) (hpl : (backTo pos (starEach es X.env)).any (·.1) = false) :
    PE X (.Call (.Name x p) (e :: es) [] pos) (tEv X.K G (zCall fs fa)) :=
  PE.imp (pe_call (E := E0) F hr hg hm hk hb .nil pass0 ha hdb he hpl) fun σ H Q h => call_imp hn σ H Q h

/-! ### len, isinstance, max, min, int, list, tuple -/
def gLen : List Dat → Option R
  | [.lst l] => some (.val (.int l.length))
  | [.tup l] => some (.val (.int l.length))
  | [.str x] => if sizeOk x.length then some (.val (.int x.length)) else none
  | _ => none
theorem one_of {N : Addr → Prop} {H : Hp} {vs : List V} {d : Dat} (h : Paired (fun v d => RelT X.K G N H v d) vs [d]) : ∃ v, vs = [v] ∧ RelT X.K G N H v d := by
  cases h with
  | cons h1 h2 =>
    cases h2
    exact ⟨_, rfl, h1⟩
theorem two_of {N : Addr → Prop} {H : Hp} {vs : List V} {d d' : Dat} (h : Paired (fun v d => RelT X.K G N H v d) vs [d, d']) : ∃ v w, vs = [v, w] ∧ RelT X.K G N H v d ∧ RelT X.K G N H w d' := by
  cases h with
  | cons h1 h2 =>
    obtain ⟨w, rfl, h3⟩ := one_of h2
    exact ⟨_, w, rfl, h1, h3⟩
theorem cz_len : CallZ X G (.builtin "len") gLen := by
  refine ⟨_, call_len, fun N vs ds r H Q hl h q k => ?_⟩
  unfold gLen at q
  split at q <;> try cases q
  · obtain ⟨v, rfl, h0⟩ := one_of h
    obtain ⟨a, us, rfl, s1, h1⟩ := ofL h0
    refine ⟨_, us.length, rfl, .inl ⟨us, s1, rfl⟩, ?_⟩
    rw [relDs_len h1]
    exact k _ H (Sam.refl H) rfl
  · obtain ⟨v, rfl, h0⟩ := one_of h
    obtain ⟨a, us, rfl, s1, h1⟩ := ofT h0
    refine ⟨_, us.length, rfl, .inr ⟨us, s1, rfl⟩, ?_⟩
    rw [relDs_len h1]
    exact k _ H (Sam.refl H) rfl
  · split at q <;> try cases q
    rename_i x hz
    obtain ⟨v, rfl, h0⟩ := one_of h
    have e := ofS h0
    subst e
    exact ⟨_, x.length, rfl, ⟨sizeOk_le hz, rfl⟩, k _ H (Sam.refl H) rfl⟩
def gMax2 : List Dat → Option R
  | [.int i, .int j] => some (.val (.int (if j > i then j else i)))
  | _ => none
def gMin2 : List Dat → Option R
  | [.int i, .int j] => some (.val (.int (if j < i then j else i)))
  | _ => none
theorem cz_max2 (hc : X.calm = true) : CallZ X G (.builtin "max") gMax2 := by
  refine ⟨_, call_max2 hc, fun N vs ds r H Q hl h q k => ?_⟩
  unfold gMax2 at q
  split at q <;> try cases q
  obtain ⟨v, w, rfl, h1, h2⟩ := two_of h
  have e1 := ofI h1
  have e2 := ofI h2
  subst e1 e2
  exact ⟨_, _, rfl, k _ H (Sam.refl H) rfl⟩
theorem cz_min2 (hc : X.calm = true) : CallZ X G (.builtin "min") gMin2 := by
  refine ⟨_, call_min2 hc, fun N vs ds r H Q hl h q k => ?_⟩
  unfold gMin2 at q
  split at q <;> try cases q
  obtain ⟨v, w, rfl, h1, h2⟩ := two_of h
  have e1 := ofI h1
  have e2 := ofI h2
  subst e1 e2
  exact ⟨_, _, rfl, k _ H (Sam.refl H) rfl⟩
def gInt : List Dat → Option R
  | [.int i] => some (.val (.int i))
  | [.bl b] => some (.val (.int (if b then 1 else 0)))
  | _ => none
theorem cz_int : CallZ X G (.type "int") gInt := by
  refine ⟨_, call_int1, fun N vs ds r H Q hl h q k => ?_⟩
  unfold gInt at q
  split at q <;> try cases q
  · obtain ⟨v, rfl, h0⟩ := one_of h
    have e := ofI h0
    subst e
    exact .inl ⟨_, rfl, k _ H (Sam.refl H) rfl⟩
  · obtain ⟨v, rfl, h0⟩ := one_of h
    have e := ofB h0
    subst e
    exact .inr ⟨_, rfl, k _ H (Sam.refl H) rfl⟩
def gList : List Dat → Option R
  | [.lst l] => some (.fresh (.lst l))
  | [.tup l] => some (.fresh (.lst l))
  | _ => none
theorem cz_list : CallZ X G (.type "list") gList := by
  refine ⟨_, call_list_of, fun N vs ds r H Q hl h q k => ?_⟩
  unfold gList at q
  split at q <;> try cases q
  · obtain ⟨v, rfl, h0⟩ := one_of h
    obtain ⟨a, us, rfl, s1, h1⟩ := ofL h0
    exact ⟨a, us, rfl, .inl s1, fun p hp => k _ _ (Sam.new hp) ⟨p, rfl, hp, _, upd_same, h1.up (new_up hp)⟩⟩
  · obtain ⟨v, rfl, h0⟩ := one_of h
    obtain ⟨a, us, rfl, s1, h1⟩ := ofT h0
    exact ⟨a, us, rfl, .inr s1, fun p hp => k _ _ (Sam.new hp) ⟨p, rfl, hp, _, upd_same, h1.up (new_up hp)⟩⟩
def gTuple : List Dat → Option R
  | [.lst l] => some (.val (.tup l))
  | [.tup l] => some (.val (.tup l))
  | _ => none
theorem cz_tuple : CallZ X G (.type "tuple") gTuple := by
  refine ⟨_, call_tuple_of, fun N vs ds r H Q hl h q k => ?_⟩
  unfold gTuple at q
  split at q <;> try cases q
  · obtain ⟨v, rfl, h0⟩ := one_of h
    obtain ⟨a, us, rfl, s1, h1⟩ := ofL h0
    exact ⟨a, us, rfl, .inl ⟨s1, fun p hp => k _ _ (Sam.new hp) (show RelD X.K G N _ _ _ from ⟨p, us, rfl, .inl ⟨.inl upd_same, new_notin hl hp⟩, h1.up (Sam.new hp).up⟩)⟩⟩
  · obtain ⟨v, rfl, h0⟩ := one_of h
    obtain ⟨a, us, rfl, s1, h1⟩ := ofT h0
    refine ⟨a, us, rfl, .inr ⟨s1, k _ H (Sam.refl H) ?_⟩⟩
    rcases h0 with z | ⟨c, _, z⟩
    · exact z
    · exact z.elim
/-- isinstance by the built-in types that the programs name -/
def tyD : Dat → Option String
  | .non => some "NoneType"
  | .bl _ => some "bool"
  | .int _ => some "int"
  | .str _ => some "str"
  | .tup _ => some "tuple"
  | .lst _ => some "list"
  | _ => none
def isiT (a b : String) : Option Bool :=
  if ["NoneType", "bool", "int", "str", "tuple", "list"].contains a && ["bool", "int", "str", "tuple", "list"].contains b then some (a == b || (a == "bool" && b == "int")) else none
theorem isiT_kit {K : PySem.W.Frag} {a b : String} {r : Bool} (h : isiT a b = some r) : PySem.W.kitOne K (.type a) (.type b) = some r := by
  unfold isiT at h
  split at h <;> try cases h
  rename_i hc
  simp only [Bool.and_eq_true, List.contains_iff_mem, List.mem_cons, List.not_mem_nil, or_false] at hc
  obtain ⟨ha, hb⟩ := hc
  refine kit_ty ?_
  rcases ha with rfl | rfl | rfl | rfl | rfl | rfl <;> rcases hb with rfl | rfl | rfl | rfl | rfl <;> decide +kernel
theorem tyx_of {N : Addr → Prop} {H : Hp} {v : V} {d : Dat} {t : String} (h : RelT X.K G N H v d) (e : tyD d = some t) : TyX X.K H v (.type t) := by
  cases d with
  | non => cases e; rw [ofN h]; exact .base .non
  | bl b => cases e; rw [ofB h]; exact .base (.bl b)
  | int i => cases e; rw [ofI h]; exact .base (.int i)
  | str x => cases e; rw [ofS h]; exact .base (.str x)
  | tup l =>
    cases e
    obtain ⟨a, vs, rfl, s1, _⟩ := ofT h
    rcases s1 with (s1 | ⟨o, s1⟩) | ⟨o, its, n, s1, s2, _⟩
    · exact .base (.tup s1)
    · exact .fTuple s1
    · exact .kTuple s1 s2
  | lst l =>
    cases e
    obtain ⟨a, vs, rfl, s1, _⟩ := ofL h
    rcases s1 with (s1 | ⟨o, s1⟩) | ⟨o, its, n, s1, s2, _⟩
    · exact .base (.lst s1)
    · exact .base (.frz s1)
    · exact .kList s1 s2
  | _ => cases e
def tysOf : List Dat → Option (List String)
  | [] => some []
  | .ty n :: r => (tysOf r).map (n :: ·)
  | _ => none
def isiAny (a : String) : List String → Option Bool
  | [] => some false
  | b :: r => match isiT a b with
    | some true => some true
    | some false => isiAny a r
    | none => none
def gIsi : List Dat → Option R
  | [d, .ty n] => match tyD d with
    | some t => (isiT t n).map fun b => .val (.bl b)
    | none => none
  | [d, .tup cs] => match tyD d, tysOf cs with
    | some t, some ns => (isiAny t ns).map fun b => .val (.bl b)
    | _, _ => none
  | _ => none
def rIsiS (K : PySem.W.Frag) : List V → Hp → VK → Prop := fun xs H Q => ∃ (x : V) (tp : Addr) (cs : List V) (t : Value) (us : List Value) (b : Bool), xs = [x, .ref tp] ∧ SqT K H tp cs ∧ Paired ClsV cs us ∧ TyX K H x t ∧ PySem.W.kitAny K t us = some b ∧ Q (.bl b) H
theorem call_isiS : CallR X (.builtin "isinstance") (rIsiS X.K) := by
  intro pins s σ H xs us Q I r h
  obtain ⟨x, tp, cs, t, ws, b, rfl, hT, k, ty, e, q⟩ := h
  obtain ⟨u1, u2, rfl, r1, r2⟩ := vals2 r
  cases (show u2 = Value.ref tp from r2)
  obtain ⟨P, Z, p, hx⟩ := kit_of I r1 ty
  obtain ⟨its, rv, ⟨o, h1, h2, n, h3⟩, _⟩ := I.tuple hT
  have e3 := ClsV.all k rv
  subst e3
  obtain ⟨oc, od, dt, sl⟩ := o
  simp only at h2 h3
  subst h2 h3
  exact PySem.W.kia_tup Z I.kIn p h1 e hx fun tk => ⟨.bl b, H, I.tok tk, rfl, q⟩
theorem tys_rel {N : Addr → Prop} {H : Hp} : ∀ {cs : List Dat} {vs : List V} {ns : List String}, RelDs X.K G N H vs cs → tysOf cs = some ns → Paired ClsV vs (ns.map Value.type)
  | [], vs, ns, h, e => by
    have h : vs = [] := h
    subst h
    cases e
    exact .nil
  | .ty n :: r, vs, ns, ⟨v, w, ev, h1, h2⟩, e => by
    unfold tysOf at e
    cases q : tysOf r with
    | none => rw [q] at e; cases e
    | some m =>
      rw [q] at e
      cases e
      subst ev
      have h1 : v = .ty n := h1
      subst h1
      exact .cons (.ty n) (tys_rel h2 q)
  | .non :: _, _, _, _, e => by cases e
  | .bl _ :: _, _, _, _, e => by cases e
  | .int _ :: _, _, _, _, e => by cases e
  | .str _ :: _, _, _, _, e => by cases e
  | .tup _ :: _, _, _, _, e => by cases e
  | .lst _ :: _, _, _, _, e => by cases e
  | .dct _ _ :: _, _, _, _, e => by cases e
  | .set _ :: _, _, _, _, e => by cases e
  | .fn _ :: _, _, _, _, e => by cases e
theorem isiAny_kit {K : PySem.W.Frag} {a : String} : ∀ {ns : List String} {r : Bool}, isiAny a ns = some r → PySem.W.kitAny K (.type a) (ns.map Value.type) = some r
  | [], r, h => by cases h; rfl
  | n :: ns, r, h => by
    unfold isiAny at h
    split at h <;> try cases h
    · rename_i q
      exact kitAny_cons (isiT_kit q) (fun z => by cases z) fun _ => rfl
    · rename_i q
      exact kitAny_cons (isiT_kit q) (fun _ => isiAny_kit h) fun z => by cases z
theorem cz_isi : CallZ X G (.builtin "isinstance") gIsi := by
  refine ⟨_, call_isi.or call_isiS, fun N vs ds r H Q hl h q k => ?_⟩
  unfold gIsi at q
  split at q <;> try cases q
  · rename_i d n
    split at q <;> try cases q
    rename_i t q1
    cases q2 : isiT t n with
    | none => rw [q2] at q; cases q
    | some b =>
      rw [q2] at q
      cases q
      obtain ⟨v, w, rfl, h1, h2⟩ := two_of h
      have e : w = .ty n := by
        rcases h2 with z | ⟨c, _, z⟩
        · exact z
        · exact z.elim
      subst e
      exact .inl ⟨v, .ty n, _, _, b, rfl, .ty n, tyx_of h1 q1, isiT_kit q2, k _ H (Sam.refl H) rfl⟩
  · rename_i d cs
    split at q <;> try cases q
    rename_i t ns q1 q2
    cases q3 : isiAny t ns with
    | none => rw [q3] at q; cases q
    | some b =>
      rw [q3] at q
      cases q
      obtain ⟨v, w, rfl, h1, h2⟩ := two_of h
      obtain ⟨a, us, rfl, s1, h3⟩ := ofT h2
      exact .inr ⟨v, a, us, _, _, b, rfl, s1, tys_rel h3 q2, tyx_of h1 q1, isiAny_kit q3, k _ H (Sam.refl H) rfl⟩
end
end Zz
end

section
set_option Elab.async false
set_option linter.all false
set_option maxRecDepth 100000
namespace Zz
open PySem PySem.Spec PyProof.Rows L2

/-! ### sorted -/
def encP (d : Dat) : PyData := (toP d).getD .none
section
variable {prog : Program} {w : World} {A : Around} {E : Value → Shared → Prop} {s : Shared}
/-- the items of a list or a tuple, collected: the heap as it is then -/
abbrev colHeap (h : Heap) (items : Array Value) : Heap := (h.push { cls := .type "list", data := .seq ([] : List Value).toArray }).update h.objs.size (Obj.mapSeq (· ++ items))
theorem col_seq {Q : List Value → Shared → Prop} (it : Addr) {T : String} {o : Obj} {items : Array Value} {n : Nat} (hT : T = "list" ∨ T = "tuple") (ho : s.heap.get? it = some o) (hc : o.cls = .type T) (hd : o.data = .seq items n)
    (hQ : Q items.toList { s with heap := colHeap s.heap items }) (hsz : items.size ≤ sizeLine) : wpAny (model prog w) A (collect (.ref it)) Q E s := by
  unfold collect
  refine wpAny_bind (wpAny_runValue (codeAny_builtin F.entry_proto_collect ?_))
  rw [Around.under_plainId F.plain_proto_collect _]
  show wpAny _ A.in1 (newList [] >>= fun l => again (.builtin "list.__iadd__" ⟨[l, .ref it], []⟩)) _ _ s
  refine wpAny_bind (wpAny_newObj_type ?_ (by show 0 ≤ sizeLine; decide))
  refine wpAny_pure ⟨plainId_quiet F.plain_list_iadd _, codeAny_builtin F.entry_list_iadd ?_⟩
  rw [Around.under_plainId F.plain_list_iadd _]
  show wpAny _ A.in1 (Builtin.List.listExtendWith (.ref s.heap.objs.size) (.ref it) (.ref s.heap.objs.size)) _ _ _
  have hS : (s.heap.push { cls := .type "list", data := .seq ([] : List Value).toArray }).get? s.heap.objs.size = some { cls := .type "list", data := .seq #[] 0 } := Heap.get?_push_size _ rfl
  have hS2 := Heap.get?_update_self (Obj.mapSeq (· ++ items)) hS rfl
  have fin : wpAny (model prog w) A (match Value.ref s.heap.objs.size with
      | Value.ref a => do
        match (← load a).data with
          | Data.seq xs _ => pure xs.toList
          | _ => unsupported "internal:collect"
      | _ => unsupported "internal:collect") Q E { s with heap := colHeap s.heap items } := by
    show wpAny _ A (load s.heap.objs.size >>= _) _ _ _
    refine wpAny_bind (wpAny_load hS2 ?_)
    refine wpAny_pure ?_
    have e : ((#[] : Array Value) ++ items).toList = items.toList := by simp
    show Q ((#[] : Array Value) ++ items).toList _
    rw [e]
    exact hQ
  refine wpAny_mono (wpAny_extend_seq (hsz := hsz) (A := A) (R := fun r s' => r = .ok (.ret (.ref s.heap.objs.size)) ∧ s' = { s with heap := colHeap s.heap items })
    (s := { s with heap := s.heap.push { cls := .type "list", data := .seq ([] : List Value).toArray } }) _ it _ 0 hT hS (Heap.get?_push_of_some _ ho) hc hd ⟨rfl, rfl⟩) (fun f s' h => ?_) fun e s' h => ?_
  · cases f with
    | done f =>
      obtain ⟨e, rfl⟩ := h
      cases e
      exact fin
    | again c' => exact ⟨h.1, codeAny_mono h.2 fun r s'' hr => by obtain ⟨rfl, rfl⟩ := hr; exact fin⟩
  · exact absurd h.1 (by simp)
/-- sorted of a list or a tuple, its items data -/
theorem srt_seq {it : Addr} {T : String} {o : Obj} {items : List Value} {n : Nat} {Rr : Value → Dat → Prop} {ds : List Dat} {b : Bool} {kw : List (Str × Value)} {Q : Value → Shared → Prop} (hkw : (kw = [] ∧ b = false) ∨ kw = [(Str.ofString "reverse", .bool b)])
    (hT : T = "list" ∨ T = "tuple") (ho : s.heap.get? it = some o) (hc : o.cls = .type T) (hd : o.data = .seq items.toArray n) (hz : items.length ≤ sizeLine)
    (e : PySem.W.EachIs Rr items ds) (er : PySem.W.EachIs (fun v d => ∃ as, Reads s.heap v (encP d) as) items ds) (hal : PySem.W.AllAlike (ds.map encP)) (hk : PySem.W.Sortable (ds.map encP)) (hu : ∀ d, d ∈ ds → A.units + 2 + (encP d).depth < cLine)
    (h : ∀ (a : Addr) (h' : Heap) (out : List Value) (ep : Nat), s.heap.objs.size ≤ a → (∀ b ob, s.heap.get? b = some ob → h'.get? b = some ob) → h'.get? a = some (seqObj "list" out.toArray ep) → PySem.W.EachIs Rr out (ds.mergeSort (PySem.W.dataLe b encP)) → out.length = items.length → Q (.ref a) { s with heap := h' }) :
    wpAny (model prog w) A (call (.builtin "sorted") [.ref it] kw) Q E s := by
  have ha1 : argsOk "sorted" ⟨[.ref it], kw⟩ := by
    rcases hkw with ⟨rfl, _⟩ | rfl
    · exact args_sorted1 _
    · exact args_sorted_rev _ _
  have ha2 : ∀ x, argsOk "list.sort" ⟨[.ref x], kw⟩ := fun x => by
    rcases hkw with ⟨rfl, _⟩ | rfl
    · exact args_list_sort _
    · exact args_list_sort_rev _ _
  refine call_function_entry_kw kind_sorted plain_sorted entry_sorted ha1 ?_
  unfold Builtin.«sorted»
  refine wpAny_bind (m := checkCount "sorted" 1 1 _) (wpAny_pure ?_)
  refine wpAny_bind (col_seq it hT ho hc hd ?_ (by rw [List.size_toArray]; exact hz))
  refine wpAny_bind (wpAny_newList ?_ (by simpa using hz))
  have sz1 : (colHeap s.heap items.toArray).objs.size = s.heap.objs.size + 1 := by
    show ((s.heap.push _).update _ _).objs.size = _
    rw [Heap.size_update, Heap.size_push]
  have k1 : ∀ b ob, s.heap.get? b = some ob → (colHeap s.heap items.toArray).get? b = some ob := fun b ob q => (Heap.get?_update_other _ _ (Nat.ne_of_gt (Heap.lt_size q))).trans (Heap.get?_push_of_some _ q)
  generalize colHeap s.heap items.toArray = h1 at sz1 k1 ⊢
  have tl : items.toArray.toList = items := by simp
  rw [tl]
  have hat : (h1.push (seqObj "list" items.toArray 0)).get? h1.objs.size = some (seqObj "list" items.toArray 0) := Heap.get?_push_size _ rfl
  have k2 : ∀ b ob, s.heap.get? b = some ob → (h1.push (seqObj "list" items.toArray 0)).get? b = some ob := fun b ob q => Heap.get?_push_of_some _ (k1 b ob q)
  have nea : ∀ b ob, s.heap.get? b = some ob → b ≠ h1.objs.size := fun b ob q => by
    rw [sz1]
    exact Nat.ne_of_lt (Nat.lt_succ_of_lt (Heap.lt_size q))
  have lt2 : ∀ b ob, s.heap.get? b = some ob → b < (h1.push (seqObj "list" items.toArray 0)).objs.size := fun b ob q => by
    rw [Heap.size_push, sz1]
    exact Nat.lt_succ_of_lt (Nat.lt_succ_of_lt (Heap.lt_size q))
  have kS : ∀ b ob, s.heap.get? b = some ob → (PySem.W.sortingHeap (h1.push (seqObj "list" items.toArray 0)) h1.objs.size items).get? b = some ob := fun b ob q => PySem.W.sortingHeap_old (nea b ob q) (k2 b ob q)
  have er' : PySem.W.EachIs (fun v d => ∃ as, Reads (PySem.W.sortingHeap (h1.push (seqObj "list" items.toArray 0)) h1.objs.size items) v (encP d) as) items ds := er.mono fun _ _ ⟨as, r⟩ => ⟨as, PyProof.Rows.Reads.keeps kS r⟩
  have hlen : ∀ out, out = PySem.W.sortVals (PySem.W.dataKind (PySem.W.sortingHeap (h1.push (seqObj "list" items.toArray 0)) h1.objs.size items) (ds.map encP)) b items items → out.length = items.length := fun out e => by
    rw [e]
    exact PySem.W.sortVals_length b rfl
  refine wpAny_bind (wpAny_holding (wpAny_call_entry_kw slot_list_sort ⟨_, hat, rfl⟩ entry_list_sort ?_ (ha2 _)))
  have body : ∀ P : PySem.Fin → Shared → Prop, (∀ s', (∃ out ep, s'.heap.get? h1.objs.size = some (seqObj "list" out.toArray ep) ∧ PySem.W.EachIs Rr out (ds.mergeSort (PySem.W.dataLe b encP)) ∧ out.length = items.length ∧ (∀ b ob, s.heap.get? b = some ob → s'.heap.get? b = some ob) ∧ s' = { s with heap := s'.heap }) → P (.done (.ret .none)) s') →
      wpAny (model prog w) A.in1.in1 (Builtin.«list.sort» ⟨[.ref h1.objs.size], [(Str.ofString "reverse", .bool b)]⟩) P (fun _ _ => False) { s with heap := h1.push (seqObj "list" items.toArray 0) } := fun P hP => by
    refine PySem.W.list_sort_rev_vals (κ := PySem.W.dataKind (PySem.W.sortingHeap (h1.push (seqObj "list" items.toArray 0)) h1.objs.size items) (ds.map encP)) (s := { s with heap := h1.push (seqObj "list" items.toArray 0) }) hat
      (PySem.W.SortsAt.data (s := { s with heap := PySem.W.sortingHeap (h1.push (seqObj "list" items.toArray 0)) h1.objs.size items }) (PySem.W.each_map (R := fun v d => ∃ as, Reads (PySem.W.sortingHeap (h1.push (seqObj "list" items.toArray 0)) h1.objs.size items) v d as) encP er') hal hk (PySem.W.bound_map hu)) hz ?_
    obtain ⟨ep, he⟩ := sortedHeap_at (vs := items) (out := (PySem.W.sortVals (PySem.W.dataKind (PySem.W.sortingHeap (h1.push (seqObj "list" items.toArray 0)) h1.objs.size items) (ds.map encP)) b items items).toArray) hat
    exact hP _ ⟨_, ep, he, PySem.W.sortVals_data b e er' hal, hlen _ rfl, fun b ob q => (sortedHeap_old (nea b ob q) (lt2 b ob q)).trans (k2 b ob q), rfl⟩
  have body2 : ∀ P : PySem.Fin → Shared → Prop, (∀ s', (∃ out ep, s'.heap.get? h1.objs.size = some (seqObj "list" out.toArray ep) ∧ PySem.W.EachIs Rr out (ds.mergeSort (PySem.W.dataLe b encP)) ∧ out.length = items.length ∧ (∀ b ob, s.heap.get? b = some ob → s'.heap.get? b = some ob) ∧ s' = { s with heap := s'.heap }) → P (.done (.ret .none)) s') →
      wpAny (model prog w) A.in1.in1 (Builtin.«list.sort» ⟨[.ref h1.objs.size], kw⟩) P (fun _ _ => False) { s with heap := h1.push (seqObj "list" items.toArray 0) } := fun P hP => by
    rcases hkw with ⟨rfl, rfl⟩ | rfl
    · rw [PySem.W.plain_is_rev]
      exact body P hP
    · exact body P hP
  refine wpAny_mono (body2 (fun f s' => ∃ v, f = .done (.ret v) ∧ _) fun s' hs => ⟨.none, rfl, ?_⟩) (fun f s' hf => hf) fun _ _ e => e.elim
  obtain ⟨out, ep, q1, q2, q3, q4, q5⟩ := hs
  have fin := h h1.objs.size s'.heap out ep (by rw [sz1]; exact Nat.le_succ _) q4 q1 q2 q3
  rw [← q5] at fin
  exact wpAny_pure ⟨_, rfl, fin⟩
end

/-! ### sorted(xs), sorted(xs, reverse=True) of plain data -/
def tupHd : PyData → Bool
  | .tuple (_ :: _) => true
  | _ => false
def plainHd : PyData → Bool
  | .none => false
  | .tuple _ => false
  | _ => true
def srtOk (ds : List Dat) : Bool := ds.all (fun d => (toP d).isSome && decide ((encP d).depth ≤ 32)) && (ds.all fun a => ds.all fun b => PySem.W.alike (encP a) (encP b)) && (ds.all (fun d => tupHd (encP d)) || ds.all (fun d => plainHd (encP d))) && sizeOk ds.length
def srtD (b : Bool) (ds : List Dat) : List Dat := ds.mergeSort (PySem.W.dataLe b encP)
def gSorted (b : Bool) : List Dat → Option R
  | [.lst l] => if srtOk l then some (.fresh (.lst (srtD b l))) else none
  | [.tup l] => if srtOk l then some (.fresh (.lst (srtD b l))) else none
  | _ => none
section
variable {X : Cx} {G : GG}
def rSrtD (K : PySem.W.Frag) (G : GG) (b : Bool) : List V → Hp → VK → Prop := fun xs H Q => ∃ (N : Addr → Prop) (a : Addr) (vs : List V) (ds : List Dat), xs = [.ref a] ∧ (SqL K H a vs ∨ SqT K H a vs) ∧ RelDs K G N H vs ds ∧ srtOk ds = true ∧
  ∀ p ys, H p = none → RelDs K G N H ys (srtD b ds) → Q (.ref p) (upd H p (.lst ys))
def RvD (K : PySem.W.Frag) (G : GG) (N : Addr → Prop) (H : Hp) (v : Value) (d : Dat) : Prop := ∃ x, RelV x v ∧ RelD K G N H x d
theorem each_in {N : Addr → Prop} {H : Hp} : ∀ {vs : List V} {us : List Value} {ds : List Dat}, Vals vs us → RelDs X.K G N H vs ds → PySem.W.EachIs (RvD X.K G N H) us ds
  | _, _, [], .nil, _ => .nil
  | _, _, [], .cons _ _, h => by cases (show _ :: _ = [] from h)
  | vs, us, d :: ds, r, ⟨v, ws, ev, h1, h2⟩ => by
    subst ev
    cases r with
    | cons r1 r2 => exact .cons ⟨v, r1, h1⟩ (each_in r2 h2)
theorem each_out {N : Addr → Prop} {H : Hp} : ∀ {us : List Value} {ds : List Dat}, PySem.W.EachIs (RvD X.K G N H) us ds → ∃ vs, Vals vs us ∧ RelDs X.K G N H vs ds
  | _, _, .nil => ⟨[], .nil, rfl⟩
  | _, _, .cons ⟨v, r, h⟩ t => by
    obtain ⟨vs, h1, h2⟩ := each_out t
    exact ⟨v :: vs, .cons r h1, v, vs, rfl, h, h2⟩
theorem srt_run {b : Bool} {kw : List (Str × Value)} (hkw : (kw = [] ∧ b = false) ∨ kw = [(Str.ofString "reverse", .bool b)]) (hu : X.A.units + 64 < cLine) {pins : List (Addr × Obj)} {s : Shared} {σ : L2.St} {H : Hp} {xs : List V} {us : List Value} {Q : VK}
    (I : Inv X pins σ H s) (r : Vals xs us) (h : rSrtD X.K G b xs H Q) : wpAny (model X.prog X.w) X.A (call (.builtin "sorted") us kw) (EP X pins σ Q) X.xe s := by
  obtain ⟨N, a, vs, ds, rfl, hs, hr, ok, k⟩ := h
  obtain ⟨u, rfl, ru⟩ := vals1 r
  cases ru
  simp only [srtOk, Bool.and_eq_true, Bool.or_eq_true, List.all_eq_true, decide_eq_true_eq] at ok
  obtain ⟨⟨⟨o1, o2⟩, o3⟩, o4⟩ := ok
  have hp : ∀ d ∈ ds, toP d = some (encP d) := fun d hd => by
    have := (o1 d hd).1
    unfold encP
    cases q : toP d with
    | none => rw [q] at this; cases this
    | some p => rfl
  obtain ⟨T, o, its, n, hT, ho, hc, hd, rv⟩ : ∃ (T : String) (o : Obj) (its : List Value) (n : Nat), (T = "list" ∨ T = "tuple") ∧ s.heap.get? a = some o ∧ o.cls = .type T ∧ o.data = .seq its.toArray n ∧ Vals vs its := by
    rcases hs with hs | hs
    · obtain ⟨its, rv, ⟨o, n, e, c, _, d⟩, _⟩ := I.list hs
      exact ⟨_, o, its, n, .inl rfl, e, c, d, rv⟩
    · obtain ⟨its, rv, ⟨o, e, c, n, d⟩, _⟩ := I.tuple hs
      exact ⟨_, o, its, n, .inr rfl, e, c, d, rv⟩
  have el := relDs_len hr
  have rl := rv.length
  have ein := each_in (X := X) (G := G) rv hr
  have eread : PySem.W.EachIs (fun v d => ∃ as, Reads s.heap v (encP d) as) its ds := (PySem.W.each_mem ein).mono fun v d ⟨⟨x, r1, r2⟩, hm⟩ => Dp.reads I (encP d) x v (dp_of r2 (hp d hm)) r1
  refine srt_seq hkw hT ho hc hd (by rw [← rl, el]; exact sizeOk_le o4) ein eread (fun d hd d' hd' => ?_) ?_ (fun d hd => ?_) fun p h' out ep hsz kp hp' eo hl => ?_
  · obtain ⟨x, hx, rfl⟩ := List.mem_map.mp hd
    obtain ⟨y, hy, rfl⟩ := List.mem_map.mp hd'
    exact o2 x hx y hy
  · rcases o3 with o3 | o3
    · refine .inl fun d hd => ?_
      obtain ⟨x, hx, rfl⟩ := List.mem_map.mp hd
      have := o3 x hx
      cases q : encP x <;> rw [q] at this <;> try cases this
      rename_i l
      cases l with
      | nil => cases this
      | cons y ys => exact ⟨y, ys, rfl⟩
    · refine .inr fun d hd => ?_
      obtain ⟨x, hx, rfl⟩ := List.mem_map.mp hd
      have := o3 x hx
      cases q : encP x <;> rw [q] at this <;> first | (cases this; done) | exact ⟨(fun z => by cases z), fun xs z => by cases z⟩
  · have := (o1 d hd).2
    omega
  · obtain ⟨ys, r1, r2⟩ := each_out eo
    have hf : H p = none := I.hok.fresh hsz
    have hyl : ys.length ≤ sizeLine := by rw [r1.length, hl, ← rl, el]; exact sizeOk_le o4
    exact ⟨.ref p, upd H p (.lst ys), I.laid (t' := s.toks) kp hsz ⟨hyl, out, ep, r1, hp'⟩, rfl, k p ys hf r2⟩
theorem call_srt (hu : X.A.units + 64 < cLine) : CallR X (.builtin "sorted") (rSrtD X.K G false) := fun pins s σ H xs us Q I r h => srt_run (.inl ⟨rfl, rfl⟩) hu I r h
theorem call_srtR (hu : X.A.units + 64 < cLine) {b : Bool} : CallRK X (.builtin "sorted") [Str.ofString "reverse"] (fun xs zs H Q => zs = [.bl b] ∧ rSrtD X.K G b xs H Q) := fun pins s σ H xs zs us ws Q I r rz ⟨e, h⟩ => by
  subst e
  obtain ⟨u, rfl, ru⟩ := vals1 rz
  cases ru
  exact srt_run (.inr rfl) hu I r h
theorem srt_imp {b : Bool} {N : Addr → Prop} {vs : List V} {ds : List Dat} {r : R} {H : Hp} {Q : VK} (hl : ∀ b, N b → H b ≠ none) (h : Paired (fun v d => RelT X.K G N H v d) vs ds) (q : gSorted b ds = some r) (k : ∀ v H', Sam H H' → Res0 X.K G N H v H' r → Q v H') : rSrtD X.K G b vs H Q := by
  unfold gSorted at q
  split at q <;> try cases q
  · split at q <;> try cases q
    rename_i l ok
    obtain ⟨v, rfl, h0⟩ := one_of h
    obtain ⟨a, us, rfl, s1, h1⟩ := ofL h0
    exact ⟨N, a, us, l, rfl, .inl s1, h1, ok, fun p ys hp hr => k _ _ (Sam.new hp) ⟨p, rfl, hp, ys, upd_same, hr.up (new_up hp)⟩⟩
  · split at q <;> try cases q
    rename_i l ok
    obtain ⟨v, rfl, h0⟩ := one_of h
    obtain ⟨a, us, rfl, s1, h1⟩ := ofT h0
    exact ⟨N, a, us, l, rfl, .inr s1, h1, ok, fun p ys hp hr => k _ _ (Sam.new hp) ⟨p, rfl, hp, ys, upd_same, hr.up (new_up hp)⟩⟩
theorem cz_sorted (hu : X.A.units + 64 < cLine) : CallZ X G (.builtin "sorted") (gSorted false) := ⟨_, call_srt (G := G) hu, fun N vs ds r H Q hl h q k => srt_imp hl h q k⟩
/-- sorted(e, reverse=b) -/
theorem pz_sortedR {e : Expr} {b : Bool} {p pos kpos cpos : Pos} {j : Nat} {fs : SA} (hu : X.A.units + 64 < cLine) (hg : Gl X "sorted") (hm : X.mg "sorted" = none) (hv : bootBuiltins "sorted" = some (.builtin "sorted")) (ha : PA X [e] (tAv X.K G fs))
    (he : backTo pos (starEach [e] X.env) = (false, eval e X.env) :: backTo pos (starEach [] X.env)) (hpl : (backTo pos (starEach [e] X.env)).any (·.1) = false)
    (hall : (backToKw pos (keywordEach [⟨some (Str.ofString "reverse"), .Constant (.bool b) j cpos, kpos⟩] X.env)).all (·.1.isSome) = true) (hnone : (backToKw pos (keywordEach [⟨some (Str.ofString "reverse"), .Constant (.bool b) j cpos, kpos⟩] X.env)).any (·.1.isNone) = false)
    (hks : (backToKw pos (keywordEach [⟨some (Str.ofString "reverse"), .Constant (.bool b) j cpos, kpos⟩] X.env)).filterMap (·.1) = [Str.ofString "reverse"]) :
    PE X (.Call (.Name "sorted" p) [e] [⟨some (Str.ofString "reverse"), .Constant (.bool b) j cpos, kpos⟩] pos) (tEv X.K G (zCallB (gSorted b) fs)) := by
  refine PE.imp (pe_callBK (call_srtR (G := G) (b := b) hu) hg hm hv ha (pk_cons pe_bl pk_nil) (by decide) (by decide) he hpl hall hnone hks) ?_
  rintro σ H Q ⟨M, env, r, env', e, q, k⟩
  unfold zCallB at q
  split at q <;> try cases q
  rename_i rs e1 q1
  split at q <;> try cases q
  rename_i ds q2
  split at q <;> try cases q
  rename_i r0 q3
  refine tAv_run e q1 fun vs H1 p1 z1 => ?_
  refine ⟨rfl, srt_imp (N := NN M σ env') (fun b => p1.env.liveN) (rdvs_ok p1.env z1 q2) q3 fun v H2 s z => ?_⟩
  obtain ⟨p2, z2, n2⟩ := res0_ok p1.env s z
  exact k v H2 (p1.trans p2) z2 (n2.back p1)
end
end Zz
end

section
set_option Elab.async false
set_option linter.all false
set_option maxRecDepth 100000
namespace Zz
open PySem PySem.Spec PyProof.Rows L2

/-! ### one's own list is changed -/
section
variable {K : PySem.W.Frag} {G : GG} {M : Addr → Prop} {σ : L2.St} {H : Hp} {env : En} {i : Nat} {l : List Dat}
theorem own_upd (e : REnv K G M σ H env) (hi : env[i]? = some (some (Sl.ow (.lst l)))) : ∃ a vs, σ[i]? = some (some (V.ref a)) ∧ H a = some (.lst vs) ∧ RelDs K G (NN M σ env) H vs l ∧
    ∀ vs' l', RelDs K G (NN M σ env) H vs' l' → Post K G M σ H env (upd H a (.lst vs')) (env.set i (some (.ow (.lst l')))) := by
  obtain ⟨a, h1, h2, vs, h3, h4⟩ := e.ow i _ hi
  refine ⟨a, vs, h1, h3, h4, fun vs' l' hr => ?_⟩
  have il : i < env.length := (List.getElem?_eq_some_iff.mp hi).1
  have self : (env.set i (some (Sl.ow (.lst l'))))[i]? = some (some (Sl.ow (.lst l'))) := List.getElem?_set_self il
  have other : ∀ (j : Nat), j ≠ i → (env.set i (some (Sl.ow (.lst l'))))[j]? = env[j]? := fun j hj => List.getElem?_set_ne (Ne.symm hj)
  have ownA : Own σ env a := ⟨i, _, hi, h1⟩
  have own : ∀ b, Own σ (env.set i (some (Sl.ow (.lst l')))) b → Own σ env b := fun b ⟨j, d', q1, q2⟩ => by
    by_cases hj : j = i
    · subst hj
      exact ⟨j, _, hi, q2⟩
    · rw [other j hj] at q1
      exact ⟨j, d', q1, q2⟩
  have ne : ∀ b o, H b = some o → ¬ Own σ env b → b ≠ a := fun b o _ n z => n (by rw [z]; exact ownA)
  have up : Up (NN M σ env) H (NN M σ (env.set i (some (Sl.ow (.lst l'))))) (upd H a (.lst vs')) := fun b u hu q n => by
    have hb : b ≠ a := fun z => n (.inr (by rw [z]; exact ownA))
    exact ⟨rd_same hu q fun o nt e => by rw [upd_ne hb]; exact e, fun z => n (z.imp id (own b))⟩
  have live : ∀ b, H b ≠ none → upd H a (.lst vs') b ≠ none := fun b h => by
    by_cases hb : b = a
    · rw [hb, upd_same]
      exact fun z => by cases z
    · rw [upd_ne hb]; exact h
  have tab : ∀ b, GxR.TabG H b → GxR.TabG (upd H a (.lst vs')) b := fun b ⟨ps, q1, q2⟩ => ⟨ps, by
    rw [upd_ne (fun z => by rw [z, h3] at q1; cases q1)]
    exact q1, q2⟩
  refine ⟨⟨fun b o nt e n => by rw [upd_ne (ne b o e n)]; exact e, live, tab⟩, ⟨by simp, fun j d' q => ?_, fun j s q => ?_⟩, ⟨by simpa using e.len, fun j d' q => ?_, fun j d' q => ?_, fun j j' d1 d2 b q1 q2 q3 q4 => ?_, fun b hb => live b (e.live b hb), fun P hP => tab P (e.tab P hP)⟩⟩
  · by_cases hj : j = i
    · subst hj
      exact ⟨_, hi⟩
    · rw [other j hj] at q
      exact ⟨d', q⟩
  · by_cases hj : j = i
    · subst hj
      exact ⟨_, self⟩
    · exact ⟨s, by rw [other j hj]; exact q⟩
  · by_cases hj : j = i
    · subst hj
      rw [self] at q
      cases q
    · rw [other j hj] at q
      obtain ⟨v, q1, q2⟩ := e.sh j d' q
      exact ⟨v, q1, q2.up up⟩
  · by_cases hj : j = i
    · subst hj
      rw [self] at q
      cases q
      exact ⟨a, h1, h2, vs', upd_same, hr.up up⟩
    · rw [other j hj] at q
      obtain ⟨b, q1, q2, q3⟩ := e.ow j d' q
      have hb : b ≠ a := fun z => hj (e.inj j i d' _ a q hi (by rw [← z]; exact q1) h1)
      exact ⟨b, q1, q2, q3.up (fun o _ e => by rw [upd_ne hb]; exact e) up⟩
  · have g : ∀ (j : Nat) (d' : Dat), (env.set i (some (Sl.ow (.lst l'))))[j]? = some (some (Sl.ow d')) → ∃ d'', env[j]? = some (some (Sl.ow d'')) := fun j d' q => by
      by_cases hj : j = i
      · subst hj
        exact ⟨_, hi⟩
      · rw [other j hj] at q
        exact ⟨d', q⟩
    obtain ⟨_, g1⟩ := g j d1 q1
    obtain ⟨_, g2⟩ := g j' d2 q2
    exact e.inj j j' _ _ b g1 g2 q3 q4
end

section
variable {X : Cx} {G : GG} {io : Bool}
/-- l.append(e), l one's own -/
def zApp (i : Nat) (fa : SE) : SE := fun env => match env[i]? with
  | some (some (.ow (.lst _))) => match fa env with
    | some (r, e1) => match esc e1 r with
      | some (d, e2) => match e2[i]? with
        | some (some (.ow (.lst l))) => if sizeOk (l.length + 1) then some (.val .non, e2.set i (some (.ow (.lst (l ++ [d]))))) else none
        | _ => none
      | none => none
    | none => none
  | _ => none
theorem recv_ty {M : Addr → Prop} {σ : L2.St} {H : Hp} {env : En} {i : Nat} {l : List Dat} {v : V} (re : REnv X.K G M σ H env) (h0 : env[i]? = some (some (Sl.ow (.lst l)))) (h : ResOk X.K G M σ H env v (.bor i)) : ∃ a vs, v = .ref a ∧ σ[i]? = some (some (V.ref a)) ∧ H a = some (.lst vs) := by
  obtain ⟨a, g1, _, vs, g2, _⟩ := re.ow i _ h0
  obtain ⟨h1, _⟩ := h
  rw [g1] at h1
  cases h1
  exact ⟨a, vs, rfl, g1, g2⟩
theorem pz_app {o e : Expr} {apos cpos : Pos} {i : Nat} {fa : SE} (ho : PE X o (tEv X.K G (zVar i))) (ha : PE X e (tEv X.K G fa)) (hbase : attributeBase o "append" X.env (eval o X.env) = eval o X.env)
    (hfew : ((backTo cpos (starEach [e] X.env)).all (fun x => !x.1) && (backToKw cpos (keywordEach [] X.env)).all (fun x => x.1.isSome) && decide (([e] : List Expr).length + ([] : List Keyword).length + (if ([] : List Keyword).isEmpty then 0 else 1) < 30)) = true)
    (hline : (apos.endLine == cpos.line) = true) (hs : starEach [e] X.env = (false, eval e X.env) :: starEach [] X.env) (hplain : (backTo cpos (starEach [] X.env)).any (·.1) = false) :
    PE X (.Call (.Attribute o "append" apos) [e] [] cpos) (tEv X.K G (zApp i fa)) := by
  refine PE.imp (pe_bm PySem.F.plainAttrs_list PySem.F.slot_list_append PySem.F.type_list_append mt_append ho (pa_cons ha pa_nil hs) hbase hfew hline hs hplain) ?_
  rintro σ H Q ⟨M, env, r, env', re, q, k⟩
  unfold zApp at q
  split at q <;> try cases q
  rename_i l0 h0
  split at q <;> try cases q
  rename_i r1 e1 q1
  split at q <;> try cases q
  rename_i d e2 q2
  split at q <;> try cases q
  rename_i l q3
  split at q <;> try cases q
  rename_i hz
  refine tEv_run (r := .bor i) (env' := env) re (by unfold zVar; rw [h0]) fun v H0 p0 z0 _ => ?_
  obtain ⟨a, vs0, ev, hσ, hH0⟩ := recv_ty p0.env h0 z0
  subst ev
  refine ⟨.inl ⟨rfl, vs0, .inl (.inl hH0)⟩, ?_⟩
  refine tEv_run p0.env q1 fun x H1 p1 z1 _ => ?_
  obtain ⟨p2, z2⟩ := esc_ok p1.env z1 q2
  obtain ⟨a', vs, g1, g2, g3, up⟩ := own_upd p2.env q3
  rw [hσ] at g1
  cases g1
  have hl := relDs_len g3
  refine ⟨a, vs, x, rfl, rfl, g2, by rw [hl]; exact Nat.lt_of_lt_of_le (Nat.lt_succ_self _) (sizeOk_le hz), ?_⟩
  have p3 := up (vs ++ [x]) (l ++ [d]) (relDs_append g3 ⟨x, [], rfl, z2, rfl⟩)
  exact k .non _ (((p0.trans p1).trans p2).trans p3) rfl trivial
/-- l.pop(e), l one's own -/
def zPopI (i : Nat) (fa : SE) : SE := fun env => match env[i]? with
  | some (some (.ow (.lst _))) => match fa env with
    | some (r, e1) => match rdv e1 r with
      | some (.int k) => match e1[i]? with
        | some (some (.ow (.lst l))) => match ixN l.length k with
          | some j => match l[j]? with
            | some y => if sizeOk l.length then some (.val y, e1.set i (some (.ow (.lst (l.eraseIdx j))))) else none
            | none => none
          | none => none
        | _ => none
      | _ => none
    | none => none
  | _ => none
theorem relDs_erase {N : Addr → Prop} {H : Hp} : ∀ {ds : List Dat} {vs : List V} (j : Nat), RelDs X.K G N H vs ds → RelDs X.K G N H (vs.eraseIdx j) (ds.eraseIdx j)
  | [], vs, j, h => by
    have h : vs = [] := h
    subst h
    exact (rfl : ([] : List V) = [])
  | d :: ds, vs, 0, ⟨v, r, e, h1, h2⟩ => by subst e; exact h2
  | d :: ds, vs, j + 1, ⟨v, r, e, h1, h2⟩ => by subst e; exact ⟨v, _, rfl, h1, relDs_erase j h2⟩
theorem pz_popI {o e : Expr} {apos cpos : Pos} {i : Nat} {fa : SE} (ho : PE X o (tEv X.K G (zVar i))) (ha : PE X e (tEv X.K G fa)) (hbase : attributeBase o "pop" X.env (eval o X.env) = eval o X.env)
    (hfew : ((backTo cpos (starEach [e] X.env)).all (fun x => !x.1) && (backToKw cpos (keywordEach [] X.env)).all (fun x => x.1.isSome) && decide (([e] : List Expr).length + ([] : List Keyword).length + (if ([] : List Keyword).isEmpty then 0 else 1) < 30)) = true)
    (hline : (apos.endLine == cpos.line) = true) (hs : starEach [e] X.env = (false, eval e X.env) :: starEach [] X.env) (hplain : (backTo cpos (starEach [] X.env)).any (·.1) = false) :
    PE X (.Call (.Attribute o "pop" apos) [e] [] cpos) (tEv X.K G (zPopI i fa)) := by
  refine PE.imp (pe_bm PySem.F.plainAttrs_list PySem.F.slot_list_pop PySem.F.type_list_pop mt_popAt ho (pa_cons ha pa_nil hs) hbase hfew hline hs hplain) ?_
  rintro σ H Q ⟨M, env, r, env', re, q, k⟩
  unfold zPopI at q
  split at q <;> try cases q
  rename_i l0 h0
  split at q <;> try cases q
  rename_i r1 e1 q1
  split at q <;> try cases q
  rename_i kk q2
  split at q <;> try cases q
  rename_i l q3
  split at q <;> try cases q
  rename_i j q4
  split at q <;> try cases q
  rename_i y q5
  split at q <;> try cases q
  rename_i hz
  refine tEv_run (r := .bor i) (env' := env) re (by unfold zVar; rw [h0]) fun v H0 p0 z0 _ => ?_
  obtain ⟨a, vs0, ev, hσ, hH0⟩ := recv_ty p0.env h0 z0
  subst ev
  refine ⟨.inl ⟨rfl, vs0, .inl (.inl hH0)⟩, ?_⟩
  refine tEv_run p0.env q1 fun x H1 p1 z1 _ => ?_
  have ex := ofI (rdv_ok p1.env z1 q2)
  subst ex
  obtain ⟨a', vs, g1, g2, g3, up⟩ := own_upd p1.env q3
  rw [hσ] at g1
  cases g1
  have hl := relDs_len g3
  obtain ⟨w, hw, rw_⟩ := relDs_get g3 q5
  obtain ⟨s1, s2, s3, s4⟩ := ixN_seq q4
  have hz' := sizeOk_le hz
  rw [sizeLine_eq] at hz'
  refine ⟨a, vs, kk, j, w, rfl, rfl, g2, by omega, by omega, by rw [hl]; exact s1, hw, ?_⟩
  have p3 := up (vs.eraseIdx j) (l.eraseIdx j) (relDs_erase j g3)
  exact k w _ ((p0.trans p1).trans p3) (p3.rel rw_) trivial

/-! ### targets that change the heap -/
def tGh (K : PySem.W.Frag) (G : GG) (io : Bool) (g : SG) : TG := fun v σ H Q => ∃ (M : Addr → Prop) (env : En) (d : Dat) (env' : En), REnv K G M σ H env ∧ PinOk io env ∧ RelD K G (NN M σ env) H v d ∧ g d env = some env' ∧
  ∀ σ' H', PostS K G io M σ H env σ' H' env' → Q σ' H'
theorem pgh_of {e : Expr} {ts : List Nat} {g : SG} (h : PG X e (tGv X.K G io ts g)) : PG X e (tGh X.K G io g) :=
  ⟨fun pins s σ H v u Q I r ⟨M, env, d, env', re, hp, hr, q, k⟩ => h.run pins s σ H v u Q I r ⟨M, env, d, env', re, hp, hr, q, fun σ' p _ => k σ' H p⟩⟩
def gSubL (io : Bool) (i : Nat) (fi : SE) : SG := fun d env => match env[i]? with
  | some (some (.ow (.lst _))) => match fi env with
    | some (r, e1) => match rdv e1 r with
      | some (.int k) => match e1[i]? with
        | some (some (.ow (.lst l))) => match ixN l.length k with
          | some j => if pinB io (e1.set i (some (.ow (.lst (l.set j d))))) then some (e1.set i (some (.ow (.lst (l.set j d))))) else none
          | none => none
        | _ => none
      | _ => none
    | none => none
  | _ => none
theorem pgz_sub {o e : Expr} {pos : Pos} {i : Nat} {fi : SE} (ho : PE X o (tEv X.K G (zVar i))) (hi : PE X e (tEv X.K G fi))
    (ha : ∀ v, assign (.Subscript o e pos) X.env v = (do
      let ov ← holding [v] (eval o X.env)
      let iv ← holding [v, ov] (eval e X.env)
      standAt pos
      holding [v, ov, iv] (setItem ov iv v)
      release [v, ov, iv] [])) : PG X (.Subscript o e pos) (tGh X.K G io (gSubL io i fi)) := by
  refine ⟨fun pins s σ H v u Q I r ⟨M, env, d, env', re, hp, hr, q, k⟩ => (pg_sub ho hi set_list ha).run pins s σ H v u Q I r ?_⟩
  unfold gSubL at q
  split at q <;> try cases q
  rename_i l0 h0
  split at q <;> try cases q
  rename_i r1 e1 q1
  split at q <;> try cases q
  rename_i kk q2
  split at q <;> try cases q
  rename_i l q3
  split at q <;> try cases q
  rename_i j q4
  split at q <;> try cases q
  rename_i hb
  refine tEv_run (r := .bor i) (env' := env) re (by unfold zVar; rw [h0]) fun v0 H0 p0 z0 _ => ?_
  obtain ⟨a, vs0, ev, hσ, hH0⟩ := recv_ty p0.env h0 z0
  subst ev
  refine tEv_run p0.env q1 fun x H1 p1 z1 _ => ?_
  have ex := ofI (rdv_ok p1.env z1 q2)
  subst ex
  obtain ⟨a', vs, g1, g2, g3, up⟩ := own_upd p1.env q3
  rw [hσ] at g1
  cases g1
  have hl := relDs_len g3
  have p3 := up (vs.set j v) (l.set j d) (relDs_set j (p1.rel (p0.rel hr)) g3)
  exact ⟨a, vs, kk, j, rfl, rfl, g2, by rw [hl]; exact q4, k σ _ (((p0.trans p1).trans p3).st (pinB_ok hb))⟩
def tGsh (K : PySem.W.Frag) (G : GG) (io : Bool) (gs : List SG) : TGs := fun vs σ H Q => ∃ (M : Addr → Prop) (env : En) (ds : List Dat) (env' : En), REnv K G M σ H env ∧ PinOk io env ∧ RelDs K G (NN M σ env) H vs ds ∧ gTs gs ds env = some env' ∧
  ∀ σ' H', PostS K G io M σ H env σ' H' env' → Q σ' H'
theorem pgsh_nil : PGs X [] (tGsh X.K G io []) := by
  refine ⟨fun pins s σ H vs us Q I r ⟨M, env, ds, env', re, hp, hr, q, k⟩ => pgs_nil.run pins s σ H vs us Q I r ?_⟩
  cases ds with
  | cons d ds => cases q
  | nil =>
    cases q
    exact ⟨hr, k σ H (PostS.refl re hp)⟩
theorem pgsh_cons {e : Expr} {es : List Expr} {g : SG} {gs : List SG} (h1 : PG X e (tGh X.K G io g)) (h2 : PGs X es (tGsh X.K G io gs)) (hs : (assignEach (e :: es) X.env).map (·.2) = assign e X.env :: (assignEach es X.env).map (·.2)) :
    PGs X (e :: es) (tGsh X.K G io (g :: gs)) := by
  refine ⟨fun pins s σ H vs us Q I r ⟨M, env, ds, env', re, hp, hr, q, k⟩ => (pgs_cons h1 h2 hs).run pins s σ H vs us Q I r ?_⟩
  cases ds with
  | nil => cases q
  | cons d ds =>
    obtain ⟨v, ws, rfl, hv, hw⟩ := hr
    unfold gTs at q
    split at q <;> try cases q
    rename_i e1 q1
    exact ⟨v, ws, rfl, M, env, d, e1, re, hp, hv, q1, fun σ1 H1 p1 => ⟨M, e1, ds, env', p1.env, PinOk.of p1, hw.up p1.up, q, fun σ2 H2 p2 => k σ2 H2 (p1.trans p2)⟩⟩
theorem pgh_tup {es : List Expr} {kk : Nat} {pos : Pos} {gs : List SG} (hc : X.calm = true) (h : PGs X es (tGsh X.K G io gs)) (hl : gs.length = es.length)
    (hn : (assignEach es X.env).length = es.length) (hst : (assignEach es X.env).findIdx? (·.1) = none) : PG X (.Tuple es kk pos) (tGh X.K G io (gT gs)) := by
  refine ⟨fun pins s σ H v u Q I r ⟨M, env, d, env', re, hp, hr, q, k⟩ => (pg_tup (k := kk) (pos := pos) hc h hn hst).run pins s σ H v u Q I r ?_⟩
  unfold gT at q
  split at q <;> try cases q
  rename_i ds
  obtain ⟨a, vs, rfl, h1, h2⟩ := relD_tup hr
  have hlen := gTs_len q
  exact ⟨a, vs, rfl, h2 _ _ up_refl, by rw [relDs_len h1, hlen, hl], M, env, ds, env', re, hp, h1, q, k⟩
/-- target = e -/
def zAsg (io : Bool) (fa : SE) (g : SG) : SS := fun env => match fa env with
  | some (r, e1) => match esc e1 r with
    | some (d, e2) => if pinB io e2 then match g d e2 with
      | some e3 => some (.next e3)
      | none => none
      else none
    | none => none
  | none => none
theorem pz_asg {tg e : Expr} {pos : Pos} {fa : SE} {g : SG} (he : PE X e (tEv X.K G fa)) (hg : PG X tg (tGh X.K G io g)) (hs : swapsWithSole [tg] e pos.line X.env = pure false) (hw : swappedStores [tg] e X.env = pure none)
    (h1 : (assignEach [tg] X.env).map (·.2) = [assign tg X.env]) : PS X (.Assign [tg] e pos) (tSv X.K G io (zAsg io fa g)) := by
  refine PS.imp (ps_asg he hg hs hw h1) ?_
  rintro D σ H ⟨M, env, fl, re, hp, q, k⟩
  unfold zAsg at q
  split at q <;> try cases q
  rename_i r e1 q1
  split at q <;> try cases q
  rename_i d e2 q2
  split at q <;> try cases q
  rename_i hb
  split at q <;> try cases q
  rename_i e3 q3
  refine tEv_run re q1 fun v H1 p1 z1 _ => ?_
  obtain ⟨p2, z2⟩ := esc_ok p1.env z1 q2
  exact ⟨M, e2, d, e3, p2.env, pinB_ok hb, z2, q3, fun σ' H' p3 => k σ' H' (((p1.trans p2).st (pinB_ok hb)).trans p3)⟩

/-! ### a, b = x, y -/
def zPar (io : Bool) (i j : Nat) (fa fb : SE) : SS := fun env => match fa env with
  | some (r1, e1) => match fb e1 with
    | some (r2, e2) => match r1 with
      | .bor _ => none
      | r1 => if pinB io e1 && pinB io e2 then match put io j r2 e2 with
        | some e3 => match put io i r1 e3 with
          | some e4 => some (.next e4)
          | none => none
        | none => none
        else none
    | none => none
  | none => none
theorem PostS.less {M M' : Addr → Prop} {σ σ' : L2.St} {H H' : Hp} {env env' : En} (p : PostS X.K G io M' σ H env σ' H' env') (k : ∀ b, M b → M' b) : PostS X.K G io M σ H env σ' H' env' := ⟨p.fr, p.own, p.env.less k, p.pin⟩
theorem pz_par {i j : Nat} {x y : Str} {a b : Expr} {px py pt : Pos} {kt k2 : Nat} {pt2 pos : Pos} {fa fb : SE} (hc : X.calm = true) (hN : X.N.Nodup) (hi : X.N[i]? = some x) (hj : X.N[j]? = some y) (hij : i ≠ j)
    (hx : X.env.scope.names.lookup x = some .local) (hy : X.env.scope.names.lookup y = some .local) (ha : PE X a (tEv X.K G fa)) (hb : PE X b (tEv X.K G fb)) (h1 : starEach [a, b] X.env = (false, eval a X.env) :: starEach [b] X.env) (h2 : starEach [b] X.env = (false, eval b X.env) :: starEach [] X.env)
    (hw : swappedStores [.Tuple [.Name x px, .Name y py] kt pt] (.Tuple [a, b] k2 pt2) X.env = pure (some [x, y]))
    (hs : swapsWithSole [.Tuple [.Name x px, .Name y py] kt pt] (.Tuple [a, b] k2 pt2) pos.line X.env = pure false) :
    PS X (.Assign [.Tuple [.Name x px, .Name y py] kt pt] (.Tuple [a, b] k2 pt2) pos) (tSv X.K G io (zPar io i j fa fb)) := by
  refine PS.imp (ps_par hc hN hi hj hij hx hy (pa_cons ha (pa_cons hb pa_nil h2) h1) hw hs) ?_
  rintro D σ H ⟨M, env, fl, re, hp, q, k⟩
  unfold zPar at q
  split at q <;> try cases q
  rename_i r1 e1 q1
  split at q <;> try cases q
  rename_i r2 e2 q2
  refine tEv_run re q1 fun v H1 p1 z1 n1 => ?_
  cases r1 with
  | bor i => cases q
  | val d1 =>
    dsimp only at q
    split at q <;> try cases q
    rename_i hb
    simp only [Bool.and_eq_true] at hb
    split at q <;> try cases q
    rename_i e3 q3
    split at q <;> try cases q
    rename_i e4 q4
    refine tEv_run p1.env q2 fun w H2 p2 z2 n2 => ?_
    refine ⟨v, w, rfl, ?_⟩
    have s1 := p1.st (pinB_ok hb.1)
    have s2 := p2.st (pinB_ok hb.2)
    have s3 := put_ok s2 z2 n2 q3
    have hr : RelD X.K G (NN M (σ.set j (some w)) e3) H2 v d1 := RelD.up (s3.up) z1
    have s4 := put_ok (r := .val d1) (v := v) (s1.trans s3) hr trivial q4
    rw [List.set_comm (some v) (some w) hij]
    exact k _ H2 s4
  | fresh d1 =>
    dsimp only at q
    split at q <;> try cases q
    rename_i hb
    simp only [Bool.and_eq_true] at hb
    split at q <;> try cases q
    rename_i e3 q3
    split at q <;> try cases q
    rename_i e4 q4
    obtain ⟨a1, rfl, na, ra, oa⟩ := z1
    refine tEv_run ra q2 fun w H2 p2 z2 n2 => ?_
    refine ⟨_, w, rfl, ?_⟩
    have s1 := p1.st (pinB_ok hb.1)
    have s2 := p2.st (pinB_ok hb.2)
    have s3 := put_ok s2 z2 n2 q3
    have nOwn : ¬ Own σ e1 a1 := fun z => na (.inr z)
    have oa3 : OwnAt X.K G (NN (fun b => M b ∨ b = a1) (σ.set j (some w)) e3) H2 a1 d1 := oa.up (fun o nt e => s3.fr.k a1 o nt e nOwn) s3.up
    have na3 : ¬ NN M (σ.set j (some w)) e3 a1 := fun z => by
      rcases z with z | ⟨jj, d', g1, g2⟩
      · exact na (.inl z)
      · obtain ⟨b, g3, g4, _⟩ := s3.env.ow jj d' g1
        rw [g2] at g3
        cases g3
        exact g4 (.inr rfl)
    have s4 := put_ok (r := .fresh d1) (v := .ref a1) (s1.trans (s3.less fun b z => .inl z)) ⟨a1, rfl, na3, s3.env, oa3⟩ n1 q4
    rw [List.set_comm (some (V.ref a1)) (some w) hij]
    exact k _ H2 s4
end
end Zz
end

section
set_option Elab.async false
set_option linter.all false
set_option maxRecDepth 100000
namespace Zz
open PySem PySem.Spec PyProof.Rows L2

/-! ### the head's facts, with the tables of the code objects that make generators -/
def cdA (K : PySem.W.Frag) (p : Str × Option Str) : Addr := match K.lookup (He.fAd K p) with
  | some ⟨_, _, .func fd, _⟩ => (match fd.code with
    | .ref c => c
    | _ => 0)
  | _ => 0
def tbA (K : PySem.W.Frag) (c : Addr) : Addr := match K.lookup c with
  | some ⟨_, _, .fields vs, _⟩ => (match (vs[11]? : Option Value) with
    | some (.ref P) => P
    | _ => 0)
  | _ => 0
def noTab : Option Obj → Bool
  | some ⟨.none, none, .fields vs, sl⟩ => vs.isEmpty && sl.isEmpty
  | _ => false
theorem noTab_ok {o : Option Obj} (h : noTab o = true) : o = some { cls := .none, data := .fields #[] } := by
  unfold noTab at h
  split at h
  · rename_i vs sl
    obtain ⟨h1, h2⟩ := Bool.and_eq_true_iff.mp h
    have e1 : vs = #[] := by simpa using h1
    have e2 : sl = #[] := by simpa using h2
    subst e1 e2
    rfl
  · cases h
def isCd (K : PySem.W.Frag) (p : Str × Option Str) : Bool := match K.lookup (He.fAd K p) with
  | some ⟨_, _, .func fd, _⟩ => (match fd.code with
    | .ref _ => true
    | _ => false)
  | _ => false
def tabOk (K : PySem.W.Frag) (g : Addr → Option Obj) (p : Str × Option Str) : Bool := isCd K p && (PySem.W.codeHdIn K (cdA K p) (tbA K (cdA K p)) && (noTab (g (tbA K (cdA K p))) && (K.lookup (tbA K (cdA K p))).isNone))
abbrev AlT : Type := He.AlD × Bool
def kT (n : Nat) (tb : List (Str × Option Str)) (g : Addr → Option Obj) : PySem.W.Frag :=
  let as := He.asD g n
  let K0 := He.frG g as
  let ts := tb.map fun p => tbA K0 (cdA K0 p)
  He.frG g (as.filter fun a => !ts.contains a)
def obsT (n : Nat) (fa : List He.Fa) (fn : List He.DefD) (tb : List (Str × Option Str)) (g : Addr → Option Obj) : AlT := (He.obsD fa fn (kT n tb g), tb.all fun p => tabOk (kT n tb g) g p)
def SaysT (fa : List He.Fa) (fn : List He.DefD) (tb : List (Str × Option Str)) (K : PySem.W.Frag) (h : Heap) : Prop := He.SaysD fa fn K ∧
  ∀ p ∈ tb, isCd K p = true ∧ PySem.W.codeHdIn K (cdA K p) (tbA K (cdA K p)) = true ∧ h.get? (tbA K (cdA K p)) = some { cls := .none, data := .fields #[] } ∧ K.lookup (tbA K (cdA K p)) = none
theorem frG_in2 {as : List Addr} {h : Heap} : (He.frG h.get? as).In h := He.frG_in
def hookT (n : Nat) (fa : List He.Fa) (fn : List He.DefD) (tb : List (Str × Option Str)) : PySem.W.Hook where
  α := AlT
  obs := fun s => obsT n fa fn tb s.heap.get?
  val := fun _ => (He.valD fn, true)
  says := fun _ h => ∃ K : PySem.W.Frag, K.In h ∧ SaysT fa fn tb K h
  of := fun _ s e => by
    have e1 : He.obsD fa fn (kT n tb s.heap.get?) = He.valD fn := congrArg (fun z : AlT => z.1) e
    have e2 : (tb.all fun p => tabOk (kT n tb s.heap.get?) s.heap.get? p) = true := congrArg (fun z : AlT => z.2) e
    refine ⟨kT n tb s.heap.get?, He.frG_in, e1, fun p hp => ?_⟩
    have h1 := List.all_eq_true.mp e2 p hp
    obtain ⟨a1, h2⟩ := Bool.and_eq_true_iff.mp h1
    obtain ⟨a2, h3⟩ := Bool.and_eq_true_iff.mp h2
    obtain ⟨a3, a4⟩ := Bool.and_eq_true_iff.mp h3
    exact ⟨a1, a2, noTab_ok a3, by simpa using a4⟩
  keeps := fun _ h h' ⟨K, hK, c, t⟩ k => ⟨K, PySem.W.Frag.In.keeps hK k, c, fun p hp => let ⟨a, b, d, e⟩ := t p hp; ⟨a, b, k _ _ d, e⟩⟩
theorem obsT_eq {n : Nat} {fa : List He.Fa} {fn : List He.DefD} {tb : List (Str × Option Str)} {g : Addr → Option Obj} {s : Shared} (h : ∀ a, g a = s.heap.get? a) : obsT n fa fn tb g = (hookT n fa fn tb).obs s := by
  have e : g = s.heap.get? := funext h
  rw [e] <;> rfl

/-! ### a def as it stands -/
/-- a def and where it stands; its code object, where its table is known -/
structure Df (K : PySem.W.Frag) (x : Str) (st : Stmt) (f : Addr) (fd : FuncData) (cd : Value) : Prop where
  ex : ∃ (oc : Value) (od : Option Addr) (kV doc pm : Value) (an : Option Addr) (ct : Value) (osl : Array (Option Value)),
    fd = PySem.W.fnOf x x (defArgs st) (defBody st) (defScope st) .none kV doc pm an cd ct ∧ K.lookup f = some ⟨oc, od, .func fd, osl⟩ ∧ PySem.W.codeIn K cd x = true
  kp : PySem.W.keepIn K (.ref f) = true
def dfOf (x : Str) (st : Stmt) : He.DefD := ⟨(x, none), x, x, defArgs st, defBody st, defScope st, [], []⟩
section
variable {K : PySem.W.Frag} {fa : List He.Fa} {fn : List He.DefD} {tb : List (Str × Option Str)} {h : Heap} {x : Str} {st : Stmt}
theorem SaysT.df (c : SaysT fa fn tb K h) (i : Nat) (e : fn[i]? = some (dfOf x st)) : ∃ fd cd, Df K x st (He.ga K x) fd cd := by
  obtain ⟨fd, F⟩ := c.1.def_ i e
  obtain ⟨oc, od, dV, kV, doc, pm, an, cdv, ct, osl, e1, e2, e3, e4, _⟩ := F.ex
  have ed : dV = .none := by
    rcases e4 with ⟨_, z⟩ | ⟨z, _⟩
    · exact z
    · exact absurd rfl z
  subst ed
  exact ⟨fd, cdv, ⟨⟨oc, od, kV, doc, pm, an, ct, osl, e1, e2, e3⟩, F.kp⟩⟩
/-- .. one that makes generators -/
theorem SaysT.dft (c : SaysT fa fn tb K h) (i : Nat) (e : fn[i]? = some (dfOf x st)) (ht : (x, none) ∈ tb) : ∃ fd, Df K x st (He.ga K x) fd (.ref (cdA K (x, none))) := by
  obtain ⟨fd, cd, F⟩ := c.df i e
  obtain ⟨a1, _⟩ := c.2 _ ht
  obtain ⟨oc, od, kV, doc, pm, an, ct, osl, e1, e2, e3⟩ := id F.ex
  refine ⟨fd, ?_⟩
  have ec : cd = .ref (cdA K (x, none)) := by
    have e2' : K.lookup (He.fAd K (x, none)) = some ⟨oc, od, .func fd, osl⟩ := e2
    unfold isCd at a1
    unfold cdA
    rw [e2'] at a1 ⊢
    have ecd : fd.code = cd := by rw [e1]
    dsimp only at a1 ⊢
    rw [ecd] at a1 ⊢
    cases cd <;> first | rfl | cases a1
  rw [← ec]
  exact F
theorem Df.binds {f : Addr} {fd : FuncData} {cd : Value} {ps : List Str} (F : Df K x st f fd cd)
    (h : ∀ (kV doc pm : Value) (an : Option Addr) (cdv ct : Value) (us : List Value), us.length = ps.length → bindArgs (PySem.W.fnOf x x (defArgs st) (defBody st) (defScope st) .none kV doc pm an cdv ct) ⟨us, []⟩ = pure (ps.zip us)) : L2.Binds K fd ps [] := by
  obtain ⟨oc, od, kV, doc, pm, an, ct, osl, rfl, lk, hcd⟩ := F.ex
  exact .all (h kV doc pm an cd ct)
theorem Df.bindsA {f : Addr} {fd : FuncData} {cd : Value} {ps : List Str} (F : Df K x st f fd cd)
    (h : ∀ (kV doc pm : Value) (an : Option Addr) (cdv ct : Value) (us : List Value), us.length = ps.length → bindArgs (PySem.W.fnOf x x (defArgs st) (defBody st) (defScope st) .none kV doc pm an cdv ct) ⟨us, []⟩ = pure (ps.zip us)) (s : Shared) (us : List Value) (hl : us.length = ps.length) : BindsTo s fd ⟨us, []⟩ (ps.zip us) := by
  obtain ⟨oc, od, kV, doc, pm, an, ct, osl, rfl, lk, hcd⟩ := F.ex
  exact .of_eq (h kV doc pm an cd ct us hl)
/-- a def keeps its promise, by its body -/
theorem Df.ok {P : Program} {w : World} {G : GG} {base : Heap} {f : Addr} {fd : FuncData} {cd : Value} {N ps : List Str} {k : Nat} {fs : FS} {g : SS} (F : Df K x st f fd cd) (S : FnScope N ps (defScope st)) (har : fs.ar = ps.length) (hpos : fs.io = true → 0 < fs.ar)
    (body : ∀ (A : Around) (outer : List Env) (s : Shared) (H : Hp) (E : XK), Room k (A.deeper (envOfC x (defScope st) s.heap.objs.size f cd)) →
      PSs (cxOf CX0 P w K G.mg base N x (defScope st) f cd A outer s H E).nox (defBody st) (tSv K G fs.io g))
    (run : ∀ ds out, ds.length = fs.ar → fs.run ds = some out → zDef N.length fs.io g ds = some out) : FnOk P w K G.mg base CX0 (k + 1) f fd ps (SpF K G fs) := by
  obtain ⟨oc, od, kV, doc, pm, an, ct, osl, rfl, lk, hcd⟩ := F.ex
  refine fn_of lk hcd S (fun vs H Q E h => (fn_len h).trans har) fun A outer s H vs Q E hr h => ⟨tSv K G fs.io g, (body A outer s H E hr).nox, def_core hpos run h⟩
end
/-- the tables' facts over a base -/
theorem tabG_of {base : Heap} {mg : Str → Option Value} {c P : Addr} (h : LamX.TabB base mg c P) : GxR.TabB base mg c P := ⟨h.code, h.bm, h.gP⟩

/-! ### the law's end -/
/-- the law's promise: of a script's ints, True -/
def lawFS (n : Nat) : FS := ⟨1, false, fun ds => match ds with
  | [.lst l] => if l.length ≤ n && l.all (fun d => match d with | .int i => decide (Builtin.Int.intBits i ≤ 1048576) | _ => false) then some (.bl true, false, .non) else none
  | _ => none⟩
end Zz
end

section
set_option Elab.async false
set_option linter.all false
set_option maxRecDepth 100000
namespace Zz
open PySem PySem.Spec PyProof.Rows L2
theorem relDs_ints {K : PySem.W.Frag} {G : GG} {N : Addr → Prop} {H : Hp} : ∀ ns : List Int, RelDs K G N H (ns.map V.int) (ns.map Dat.int)
  | [] => rfl
  | n :: ns => ⟨.int n, _, rfl, rfl, relDs_ints ns⟩
theorem law_at {l : PySem.W.OpenLaw} {w : World} {K : PySem.W.Frag} {mg : Str → Option Value} {fa : List He.Fa} {fn : List He.DefD} {tb : List (Str × Option Str)} {h : Heap} {k n : Nat} {x : Str} {f : Addr} {fd : FuncData} (KX : K.In h) (c : SaysT fa fn tb K h) (hb : ∀ (s : Shared) (u : Value), BindsTo s fd ⟨[u], []⟩ [(x, u)])
    (hF : ∀ base : Heap, K.In base → base.Ns mainGlobals mg → (∀ p ∈ tb, GxR.TabB base mg (cdA K p) (tbA K (cdA K p))) → FnOk l.prog w K mg base CX0 k f fd [x] (SpF K ⟨mg, tb.map fun p => tbA K (cdA K p)⟩ (lawFS n))) : LamX.LawAtS l w K CX0 k n x mg f h := by
  refine ⟨fd, tb.map fun p => (cdA K p, tbA K (cdA K p)), _, fun q hq => ?_, fun q hq => ?_, fun q hq => ?_, hb, fun H a ns hl hbits hT hS => ?_, fun base hK hN hT => hF base hK hN fun p hp => tabG_of (hT (cdA K p, tbA K (cdA K p)) (List.mem_map.mpr ⟨p, hp, rfl⟩))⟩
  · obtain ⟨p, hp, rfl⟩ := List.mem_map.mp hq
    exact (c.2 p hp).2.2.1
  · obtain ⟨p, hp, rfl⟩ := List.mem_map.mp hq
    exact (c.2 p hp).2.2.2
  · obtain ⟨p, hp, rfl⟩ := List.mem_map.mp hq
    exact PySem.W.codeHd_of_K KX (c.2 p hp).2.1
  · refine ⟨fun _ => False, [.lst (ns.map Dat.int)], .bl true, false, .non, rfl, ?_, ?_, fun v H' _ _ hr _ => hr⟩
    · refine args_env (vs := [.ref a]) ⟨.ref a, [], rfl, ⟨a, ns.map V.int, rfl, hS.imp (fun z => ⟨z, fun q => q⟩) id, relDs_ints ns⟩, rfl⟩ (fun b z => z.elim) fun P hP => ?_
      obtain ⟨p, hp, rfl⟩ := List.mem_map.mp hP
      exact ⟨#[], hT (cdA K p, tbA K (cdA K p)) (List.mem_map.mpr ⟨p, hp, rfl⟩), by first | trivial | decide⟩
    · show (if _ then _ else _) = _
      rw [if_pos]
      rw [Bool.and_eq_true]
      refine ⟨by simpa using hl, List.all_eq_true.mpr fun d hd => ?_⟩
      obtain ⟨i, hi, rfl⟩ := List.mem_map.mp hd
      exact decide_eq_true (hbits i hi)
end Zz
end

section
set_option Elab.async false
set_option linter.all false
set_option maxRecDepth 100000
namespace Zz
open PySem PySem.Spec PyProof.Rows L2
/-- an expression whose value is a bool, as a test -/
def zTB (f : SE) : ST := fun env => match f env with
  | some (.val (.bl b), e1) => some (b, e1)
  | _ => none
section
variable {X : Cx} {G : GG}
theorem pz_tcmp {a b : Expr} {op : CmpOp} {pos : Pos} {fa fb : SE} {g : Dat → Dat → Option R} (ho : OpZ X G (compareOp op) g) (ha : PE X a (tEv X.K G fa)) (hb : PE X b (tEv X.K G fb)) (hm : behindInMarks op b = false) :
    PT X (.Compare a [op] [b] pos) (tTv X.K G (zTB (zBin g fa fb))) := by
  obtain ⟨rr, h1, h2⟩ := ho
  refine PT.imp (pt_cmpR h1 ha hb hm) ?_
  rintro σ H Q ⟨M, env, bb, env', e, q, k⟩
  unfold zTB zBin at q
  split at q <;> try cases q
  rename_i q0
  split at q0 <;> try cases q0
  rename_i r1 e1 q1
  split at q0 <;> try cases q0
  rename_i r2 e2 q2
  split at q0 <;> try cases q0
  rename_i d1 d2 q3 q4
  split at q0 <;> try cases q0
  rename_i q5
  refine two_ok (R' := fun x y H1 => rr x y H1 fun v H' => ∃ k, v = .bl k ∧ Q k H') e q1 q2 fun x y H' p ex ey => ?_
  refine h2 (NN M σ env') x y d1 d2 _ H' _ (fun b => p.env.liveN) (rdv_ok p.env ex q3) (rdv_ok p.env ey.nrm q4) q5 fun v H2 s z => ?_
  obtain ⟨p2, z2, n2⟩ := res0_ok p.env s z
  exact ⟨bb, z2, k H2 (p.trans p2)⟩
theorem pz_tchain {a b c : Expr} {op op' : CmpOp} {pos : Pos} {fa fb fc : SE} {g g' : Dat → Dat → Option R} (ho : OpZ X G (compareOp op) g) (ho' : OpZ X G (compareOp op') g') (ha : PE X a (tEv X.K G fa)) (hb : PE X b (tEv X.K G fb)) (hc : PE X c (tEv X.K G fc))
    (hm : lastMarks [op, op'] [b, c] = false) : PT X (.Compare a [op, op'] [b, c] pos) (tTv X.K G (zTB (zChain g g' fa fb fc))) := by
  obtain ⟨rr, h1, h2⟩ := ho
  obtain ⟨rr', h1', h2'⟩ := ho'
  refine PT.imp (pt_chain h1 h1' ha hb hc hm) ?_
  rintro σ H Q ⟨M, env, bb, env', e, q, k⟩
  unfold zTB zChain at q
  split at q <;> try cases q
  rename_i q0
  split at q0 <;> try cases q0
  rename_i r1 e1 q1
  split at q0 <;> try cases q0
  rename_i r2 e2 q2
  split at q0 <;> try cases q0
  rename_i d1 d2 q3 q4
  split at q0 <;> try cases q0
  · rename_i q5
    split at q0 <;> try cases q0
    rename_i r3 e3 q6
    split at q0 <;> try cases q0
    rename_i d2' d3 q7 q8
    split at q0 <;> try cases q0
    rename_i q9
    refine two_ok e q1 q2 fun x y H' p ex ey => h2 (NN M σ e2) x y d1 d2 _ H' _ (fun b => p.env.liveN) (rdv_ok p.env ex q3) (rdv_ok p.env ey.nrm q4) q5 fun v H2 s z => ?_
    obtain ⟨p2, z2, n2⟩ := res0_ok p.env s z
    refine ⟨true, z2, ?_⟩
    rw [if_pos rfl]
    refine tEv_run p2.env q6 fun w H3 p3 z3 n3 => ?_
    refine h2' (NN M σ env') y w d2' d3 _ H3 _ (fun b => p3.env.liveN) (rdv_ok p3.env ((ey.nrm.keep p2).keep p3) q7) (rdv_ok p3.env z3.nrm q8) q9 fun v' H4 s4 z4 => ?_
    obtain ⟨p5, z5, n5⟩ := res0_ok p3.env s4 z4
    exact ⟨bb, z5, k H4 (((p.trans p2).trans p3).trans p5)⟩
  · rename_i q5
    refine two_ok e q1 q2 fun x y H' p ex ey => h2 (NN M σ env') x y d1 d2 _ H' _ (fun b => p.env.liveN) (rdv_ok p.env ex q3) (rdv_ok p.env ey.nrm q4) q5 fun v H2 s z => ?_
    obtain ⟨p2, z2, n2⟩ := res0_ok p.env s z
    refine ⟨false, z2, ?_⟩
    rw [if_neg Bool.false_ne_true]
    exact ⟨false, rfl, k H2 (p.trans p2)⟩
/-- not a, by a's truth -/
theorem pz_notT {a : Expr} {pos : Pos} {fa : SE} (ha : PE X a (tEv X.K G fa)) : PE X (.UnaryOp .Not a pos) (tEv X.K G (zOfT (zTNot (zTru fa)))) := by
  refine PE.imp (pe_notT ha) ?_
  rintro σ H Q ⟨M, env, r, env', e, q, k⟩
  unfold zOfT zTNot zTru at q
  split at q <;> try cases q
  rename_i q0
  split at q0 <;> try cases q0
  rename_i q1
  split at q1 <;> try cases q1
  rename_i r1 e1 q2
  split at q1 <;> try cases q1
  rename_i d q3
  split at q1 <;> try cases q1
  rename_i q4
  exact tEv_run e q2 fun v H' p z _ => ⟨_, relT_tru (rdv_ok p.env z q3) q4, k _ H' p rfl trivial⟩
/-- a def that is known by its name -/
structure Kn (P : Program) (w : World) (K : PySem.W.Frag) (G : GG) (base : Heap) (x : Str) (k : Nat) (fs : FS) : Prop where
  ex : ∃ (f : Addr) (fd : FuncData) (ps : List Str), FnOk P w K G.mg base CX0 k f fd ps (SpF K G fs) ∧ G.mg x = some (.ref f) ∧ PySem.W.keepIn K (.ref f) = true ∧ L2.Binds K fd ps []
theorem pz_callK {k : Nat} {fs : FS} {x : Str} {p pos : Pos} {e : Expr} {es : List Expr} {fa : SA} (F : Kn X.prog X.w X.K G X.base x k fs) (hmg : X.mg = G.mg) (hr : Room k X.A) (hg : Gl X x) (ha : PA X (e :: es) (tAv X.K G fa)) (hn : Nrm fa) (hdb : (x == ("__debug__" : Str)) = false)
    (he : starEach (e :: es) X.env = (false, eval e X.env) :: starEach es X.env) (hpl : (backTo pos (starEach es X.env)).any (·.1) = false) : PE X (.Call (.Name x p) (e :: es) [] pos) (tEv X.K G (zCall fs fa)) := by
  obtain ⟨f, fd, ps, h1, h2, h3, h4⟩ := F.ex
  rw [← hmg] at h1 h2
  exact pz_call h1 hr hg h2 h3 h4 ha hn hdb he hpl
theorem zl1 {fa : SE} : ∀ env rs e1, zCons fa zNil env = some (rs, e1) → rs.length = 1 := by
  intro env rs e1 h
  unfold zCons zNil at h
  split at h <;> try cases h
  rfl
theorem zl2 {fa fb : SE} : ∀ env rs e1, zCons fa (zCons fb zNil) env = some (rs, e1) → rs.length = 2 := by
  intro env rs e1 h
  have key : ∀ (f : SA) (n : Nat), (∀ env rs e1, f env = some (rs, e1) → rs.length = n) → zCons fa f env = some (rs, e1) → rs.length = n + 1 := by
    intro f n hf h
    unfold zCons at h
    split at h <;> try cases h
    split at h <;> try cases h
    rename_i q
    rw [List.length_cons, hf _ _ _ q]
  exact key _ 1 zl1 h
theorem pz_allG {c P : Addr} {elt tg iter : Expr} {ifs : List Expr} {p pos gpos : Pos} {scope : Scope} {own : List (Str × Nat)} {it : SI} {g : SG} {t : ST} {fe : SE} {ts : List Nat} {k : Nat}
    (hr : Room (k + 3) X.A) (hc : X.calm = true) (hN : X.N.Nodup) (TB : GxR.TabB X.base X.mg c P) (hP : P ∈ G.ts) (hcode : X.env.code = .ref c) (hgl : Gl X "all") (hm : X.mg "all" = none) (hb : bootBuiltins "all" = some (.builtin "all")) (B : GBlk X.N X.env.scope scope own) (hi : PI X tg iter (tIv X.K G it))
    (hg : ∀ (s : Shared) (H : Hp) (C : Addr) (cd : Value) (fp : List Addr) (A : Around) (pn : List (Addr × Obj)), PG (gCx X s H scope C cd fp A pn) tg (tGv X.K G false ts g))
    (ht : ∀ (s : Shared) (H : Hp) (C : Addr) (cd : Value) (fp : List Addr) (A : Around) (pn : List (Addr × Obj)), Room k (gCx X s H scope C cd fp A pn).A → PTs (gCx X s H scope C cd fp A pn) ifs (tTv X.K G t))
    (he : ∀ (s : Shared) (H : Hp) (C : Addr) (cd : Value) (fp : List Addr) (A : Around) (pn : List (Addr × Obj)), Room k (gCx X s H scope C cd fp A pn).A → PE (gCx X s H scope C cd fp A pn) elt (tEv X.K G fe))
    (hs : ∀ v, genFold iter X.env v = pure v) (T : TgOk ts g) (hts : ∀ j ∈ ts, j ∈ own.map (·.2))
    (hse : starEach [.GeneratorExp elt [⟨tg, iter, ifs, 0⟩] scope gpos] X.env = (false, eval (.GeneratorExp elt [⟨tg, iter, ifs, 0⟩] scope gpos) X.env) :: starEach [] X.env) :
    PE X (.Call (.Name "all" p) [.GeneratorExp elt [⟨tg, iter, ifs, 0⟩] scope gpos] [] pos) (tEv X.K G (zAll it g t fe (own.map (·.2)))) :=
  PE.imp (pe_allX hr hc hN TB hcode hgl hm hb B hi hg ht he hs hse) (al_imp hP T hts)
theorem pz_tupGx {c P : Addr} {elt tg iter : Expr} {ifs : List Expr} {p pos gpos : Pos} {scope : Scope} {own : List (Str × Nat)} {it : SI} {g : SG} {t : ST} {fe : SE} {ts : List Nat} {k : Nat}
    (hr : Room (k + 5) X.A) (hc : X.calm = true) (hN : X.N.Nodup) (TB : GxR.TabB X.base X.mg c P) (hP : P ∈ G.ts) (hcode : X.env.code = .ref c) (hgl : Gl X "tuple") (hm : X.mg "tuple" = none) (hb : bootBuiltins "tuple" = some (.type "tuple")) (B : GBlk X.N X.env.scope scope own) (hi : PI X tg iter (tIv X.K G it))
    (hg : ∀ (s : Shared) (H : Hp) (C : Addr) (cd : Value) (fp : List Addr) (A : Around) (pn : List (Addr × Obj)), PG (gCx X s H scope C cd fp A pn) tg (tGv X.K G false ts g))
    (ht : ∀ (s : Shared) (H : Hp) (C : Addr) (cd : Value) (fp : List Addr) (A : Around) (pn : List (Addr × Obj)), Room k (gCx X s H scope C cd fp A pn).A → PTs (gCx X s H scope C cd fp A pn) ifs (tTv X.K G t))
    (he : ∀ (s : Shared) (H : Hp) (C : Addr) (cd : Value) (fp : List Addr) (A : Around) (pn : List (Addr × Obj)), Room k (gCx X s H scope C cd fp A pn).A → PE (gCx X s H scope C cd fp A pn) elt (tEv X.K G fe))
    (hs : ∀ v, genFold iter X.env v = pure v) (T : TgOk ts g) (hts : ∀ j ∈ ts, j ∈ own.map (·.2))
    (hse : starEach [.GeneratorExp elt [⟨tg, iter, ifs, 0⟩] scope gpos] X.env = (false, eval (.GeneratorExp elt [⟨tg, iter, ifs, 0⟩] scope gpos) X.env) :: starEach [] X.env) :
    PE X (.Call (.Name "tuple" p) [.GeneratorExp elt [⟨tg, iter, ifs, 0⟩] scope gpos] [] pos) (tEv X.K G (zTupG it g t fe (own.map (·.2)))) :=
  PE.imp (pe_tupX hr hc hN TB hcode hgl hm hb B hi hg ht he hs hse) (tg_imp hP T hts)
theorem pz_callB' {x : Str} {p pos : Pos} {e : Expr} {es : List Expr} {id : String} {g : List Dat → Option R} {fs : SA} (hg : Gl X x) (hm : X.mg x = none) (hv : bootBuiltins x = some (.builtin id)) (hc : CallZ X G (.builtin id) g)
    (hn : x ≠ "__name__") (hdb : (x == ("__debug__" : Str)) = false) (ha : PA X (e :: es) (tAv X.K G fs))
    (he : starEach (e :: es) X.env = (false, eval e X.env) :: starEach es X.env) (hpl : (backTo pos (starEach es X.env)).any (·.1) = false) : PE X (.Call (.Name x p) (e :: es) [] pos) (tEv X.K G (zCallB g fs)) := pz_callB hc hg hm hv hn hdb ha he hpl
theorem pz_callTy' {x : Str} {p pos : Pos} {e : Expr} {es : List Expr} {id : String} {g : List Dat → Option R} {fs : SA} (hg : Gl X x) (hm : X.mg x = none) (hv : bootBuiltins x = some (.type id)) (hc : CallZ X G (.type id) g)
    (hn : x ≠ "__name__") (hdb : (x == ("__debug__" : Str)) = false) (ha : PA X (e :: es) (tAv X.K G fs))
    (he : starEach (e :: es) X.env = (false, eval e X.env) :: starEach es X.env) (hpl : (backTo pos (starEach es X.env)).any (·.1) = false) : PE X (.Call (.Name x p) (e :: es) [] pos) (tEv X.K G (zCallB g fs)) := pz_callTy hc hg hm hv hn hdb ha he hpl
def zYes : ST := fun env => some (true, env)
theorem ptz_nil : PTs X [] (tTv X.K G zYes) := ⟨fun pins s σ H Q I ⟨M, env, b, env', re, q, k⟩ => pts_nil.run pins s σ H Q I (by cases q; exact k H (.refl re))⟩
theorem ptz_one {c : Expr} {t : ST} (h : PT X c (tTv X.K G t)) : PTs X [c] (tTv X.K G t) := pts_one h
end
end Zz
end

section
set_option Elab.async false
set_option linter.all false
set_option maxRecDepth 100000
namespace Zz
open PySem PySem.Spec PyProof.Rows L2
/-! ### blocks, by a look -/
def kOf (sc : Scope) (x : Str) : Option NameKind := sc.names.lookup x
def blkB (N : List Str) (sc scope : Scope) (own : List (Str × Nat)) : Bool :=
  decide (scope.kind = .function) && (scope.names.all (fun y => decide (scope.names.lookup y.1 = some y.2))) && (own.all fun p => decide (N[p.2]? = some p.1)) &&
  (scope.names.all fun y => !(decide (y.2 = .free)) || (decide (sc.names.lookup y.1 = some .cell) || decide (sc.names.lookup y.1 = some .free))) &&
  scope.names.all fun y => !(decide (y.2 = .local) || decide (y.2 = .cell)) || (decide (y.1 ∈ own.map (·.1)) || decide (y.1 ∉ N))
theorem blkB_ok {N : List Str} {sc scope : Scope} {own : List (Str × Nat)} (h : blkB N sc scope own = true) : BlkOk N sc scope own := by
  simp only [blkB, Bool.and_eq_true, List.all_eq_true, decide_eq_true_eq, Bool.or_eq_true, Bool.not_eq_true', decide_eq_false_iff_not, Bool.or_eq_false_iff] at h
  obtain ⟨⟨⟨⟨h1, h2⟩, h3⟩, h4⟩, h5⟩ := h
  refine ⟨h1, fun y hy => h2 y hy, fun p hp => h3 p hp, fun y hy e => (h4 y hy).resolve_left fun z => z e, fun y hy e => (h5 y hy).resolve_left fun z => ?_⟩
  rcases e with e | e
  · exact z.1 e
  · exact z.2 e
def gblkB (N : List Str) (sc scope : Scope) (own : List (Str × Nat)) : Bool :=
  decide (scope.kind = .function) && decide (scope.isCoroutine = false) && (scope.names.all fun y => !(decide (y.2 = .cell))) && decide (scope.names.lookup (".0" : Str) = some NameKind.local) && (own.all fun p => decide (N[p.2]? = some p.1)) &&
  (scope.names.all fun y => !(decide (y.2 = .free)) || (decide (sc.names.lookup y.1 = some .cell) || decide (sc.names.lookup y.1 = some .free))) &&
  scope.names.all fun y => !(decide (y.2 = .local)) || (decide (y.1 ∈ own.map (·.1)) || decide (y.1 ∉ N))
theorem gblkB_ok {N : List Str} {sc scope : Scope} {own : List (Str × Nat)} (h : gblkB N sc scope own = true) : GBlk N sc scope own := by
  simp only [gblkB, Bool.and_eq_true, List.all_eq_true, decide_eq_true_eq, Bool.or_eq_true, Bool.not_eq_true', decide_eq_false_iff_not] at h
  obtain ⟨⟨⟨⟨⟨⟨h1, h2⟩, h3⟩, h4⟩, h5⟩, h6⟩, h7⟩ := h
  exact ⟨h1, h2, fun y hy => h3 y hy, h4, fun p hp => h5 p hp, fun y hy e => (h6 y hy).resolve_left fun z => z e, fun y hy e => (h7 y hy).resolve_left fun z => z e⟩
end Zz
end

section
set_option Elab.async false
set_option linter.all false
set_option maxRecDepth 100000
namespace Zz
open PySem PySem.Spec PyProof.Rows L2
section
variable {X : Cx} {G : GG}
/-! ### xs[::-1], a list -/
def gRev : Dat → Option R
  | .lst l => some (.fresh (.lst l.reverse))
  | _ => none
def zRev (fa : SE) : SE := fun env => match fa env with
  | some (r1, e1) => match rdv e1 (nrm r1) with
    | some d => match gRev d with
      | some r => some (r, e1)
      | none => none
    | none => none
  | none => none
theorem relDs_rev {N : Addr → Prop} {H : Hp} : ∀ {vs : List V} {ds : List Dat}, RelDs X.K G N H vs ds → RelDs X.K G N H vs.reverse ds.reverse := by
  intro vs ds h
  induction ds generalizing vs with
  | nil => cases vs with
    | nil => simpa using h
    | cons v vs => exact absurd (relDs_len h) (by simp)
  | cons d ds ih => cases vs with
    | nil => exact absurd (relDs_len h) (by simp)
    | cons v vs =>
      rw [List.reverse_cons, List.reverse_cons]
      obtain ⟨h1, h2⟩ := relDs_cons.mp h
      exact relDs_append (ih h2) (relDs_cons.mpr ⟨h1, relDs_nil⟩)
theorem pz_rev {e : Expr} {k : Nat} {p1 p2 p3 pos : Pos} {fa : SE} (he : PE X e (tEv X.K G fa)) : PE X (.Subscript e (.Slice none none (some (.UnaryOp .USub (.Constant (.int 1) k p1) p2)) p3) pos) (tEv X.K G (zRev fa)) := by
  refine PE.imp (pe_revL he) ?_
  rintro σ H Q ⟨M, env, r, env', e, q, k⟩
  unfold zRev at q
  split at q <;> try cases q
  rename_i r1 e1 q1
  split at q <;> try cases q
  rename_i d q4
  split at q <;> try cases q
  rename_i r0 q5
  refine tEv_run e q1 fun v H1 p1 z1 _ => ?_
  have rx := rdv_ok p1.env z1.nrm q4
  unfold gRev at q5
  split at q5 <;> try cases q5
  rename_i l
  obtain ⟨a, vs, rfl, s1, h1⟩ := ofL rx
  refine ⟨a, vs, rfl, s1, fun p hp => ?_⟩
  obtain ⟨p4, z4, n4⟩ := res0_ok (r := .fresh (.lst l.reverse)) (v := .ref p) p1.env (Sam.new (o := .lst vs.reverse) hp) (show Res0 X.K G _ _ _ _ _ from ⟨p, rfl, hp, _, upd_same, (relDs_rev h1).up (new_up hp)⟩)
  exact k _ _ (p1.trans p4) z4 (n4.back p1)
/-! ### list(range(..)) -/
def zListRng (fa : SE) : SE := fun env => match fa env with
  | some (r1, e1) => match rdv e1 (nrm r1) with
    | some (.int j) => if decide (j < 16777216) && decide (-16777216 < j) then some (.fresh (.lst (rngD 0 j.toNat)), e1) else none
    | _ => none
  | none => none
theorem rgV_rel {N : Addr → Prop} {H : Hp} {j : Int} : RelDs X.K G N H (rgV 0 j) (rngD 0 j.toNat) := by
  have key : ∀ (n : Nat) (lo : Int), RelDs X.K G N H ((List.range n).map fun i => V.int (lo + (i : Nat))) (rngD lo n) := by
    intro n
    induction n with
    | zero => intro lo; exact relDs_nil
    | succ n ih =>
      intro lo
      rw [List.range_succ_eq_map, List.map_cons, List.map_map]
      unfold rngD
      refine relDs_cons.mpr ⟨by show V.int _ = V.int _; simp, ?_⟩
      have := ih (lo + 1)
      have e : ((fun i : Nat => V.int (lo + (i : Nat))) ∘ Nat.succ) = fun i : Nat => V.int (lo + 1 + (i : Nat)) := by
        funext i
        show V.int (lo + ((i + 1 : Nat) : Int)) = V.int (lo + 1 + (i : Int))
        congr 1
        omega
      rw [e]
      exact this
  unfold rgV
  have := key (j - 0).toNat 0
  rw [Int.sub_zero] at this ⊢
  exact this
theorem pz_listRng {a : Expr} {p p2 pos pos2 : Pos} {fa : SE} (hc : X.calm = true) (hg : Gl X "list") (hm : X.mg "list" = none) (hg2 : Gl X "range") (hm2 : X.mg "range" = none) (ha : PE X a (tEv X.K G fa))
    (na : starEach [a] X.env = (false, eval a X.env) :: starEach [] X.env) (na2 : starEach [Expr.Call (.Name "range" p2) [a] [] pos2] X.env = (false, eval (Expr.Call (.Name "range" p2) [a] [] pos2) X.env) :: starEach [] X.env) :
    PE X (.Call (.Name "list" p) [.Call (.Name "range" p2) [a] [] pos2] [] pos) (tEv X.K G (zListRng fa)) := by
  refine PE.imp (pe_listRg hc hg hm (prg_1 hg2 hm2 ha na) na2) ?_
  rintro σ H Q ⟨M, env, r, env', e, q, k⟩
  unfold zListRng at q
  split at q <;> try cases q
  rename_i r1 e1 q1
  split at q <;> try cases q
  rename_i j q4
  split at q <;> try cases q
  rename_i hb
  simp only [Bool.and_eq_true, decide_eq_true_eq] at hb
  refine tEv_run e q1 fun v H1 p1 z1 _ => ?_
  have rx := rdv_ok p1.env z1.nrm q4
  refine ⟨j, ofI rx, ⟨by omega, by omega, by omega, by omega, by omega⟩, fun p hp => ?_⟩
  obtain ⟨p4, z4, n4⟩ := res0_ok (r := .fresh (.lst (rngD 0 j.toNat))) (v := .ref p) p1.env (Sam.new (o := .lst (rgV 0 j)) hp) (show Res0 X.K G _ _ _ _ _ from ⟨p, rfl, hp, _, upd_same, rgV_rel⟩)
  exact k _ _ (p1.trans p4) z4 (n4.back p1)
/-! ### range(a, b, -1) -/
def dwnD (hi : Int) : Nat → List Dat
  | 0 => []
  | n + 1 => .int hi :: dwnD (hi - 1) n
theorem dwnD_len : ∀ (n : Nat) (lo : Int), (dwnD lo n).length = n
  | 0, _ => rfl
  | n + 1, lo => by simp [dwnD, dwnD_len n]
theorem dwnD_get : ∀ (n : Nat) (lo : Int) (i : Nat) (d : Dat), (dwnD lo n)[i]? = some d → i < n ∧ d = .int (lo + (i : Nat) * (-1))
  | 0, _, i, d, h => by simp [dwnD] at h
  | n + 1, lo, 0, d, h => by
    simp [dwnD] at h
    subst h
    exact ⟨by omega, by simp⟩
  | n + 1, lo, i + 1, d, h => by
    simp only [dwnD, List.getElem?_cons_succ] at h
    obtain ⟨h1, h2⟩ := dwnD_get n (lo - 1) i d h
    refine ⟨by omega, ?_⟩
    rw [h2]
    have e : lo - 1 + (i : Int) * (-1) = lo + ((i + 1 : Nat) : Int) * (-1) := by omega
    rw [e]
def zDwn (fs : SA) : SI := fun env => match fs env with
  | some (rs, e1) => match rdvs e1 rs with
    | some [.int i, .int j, .int c] => if inB i && inB j && decide (c = -1) then some (dwnD i (i - j).toNat, e1) else none
    | _ => none
  | none => none
theorem jok_dwn {N : Addr → Prop} {H : Hp} {lo : Int} {n : Nat} : JOk X.K G N H (Itc lo (-1) n) (dwnD lo n) := fun N' H' up hl => by
  refine ⟨fun i d e => ?_, by rw [dwnD_len]; exact Nat.le_refl _⟩
  obtain ⟨h1, rfl⟩ := dwnD_get _ _ _ _ e
  refine ⟨h1, fun x H'' ⟨e1, e2⟩ => ?_⟩
  subst e1 e2
  exact ⟨Sam.refl _, rfl⟩
theorem paired3 {α β : Type} {R : α → β → Prop} {xs : List α} {y z w : β} (h : Paired R xs [y, z, w]) : ∃ a b c, xs = [a, b, c] ∧ R a y ∧ R b z ∧ R c w := by
  cases h with
  | cons a b => cases b with | cons c d => cases d with | cons e f => cases f; exact ⟨_, _, _, rfl, a, c, e⟩
theorem piz_dwn {tg a b c : Expr} {fs : SA} {p pos : Pos} (hg : Gl X "range") (hm : X.mg "range" = none) (ha : PA X [a, b, c] (tAv X.K G fs))
    (hs : starEach [a, b, c] X.env = (false, eval a X.env) :: starEach [b, c] X.env) (hpl : (backTo pos (starEach [b, c] X.env)).any (·.1) = false) : PI X tg (.Call (.Name "range" p) [a, b, c] [] pos) (tIv X.K G (zDwn fs)) := by
  refine ⟨fun pins s σ H R I ⟨M, env, ds, env', re, q, k⟩ => (pi_range3 hg hm ha hs hpl).run pins s σ H R I ?_⟩
  unfold zDwn at q
  split at q <;> try cases q
  rename_i rs e1 q1
  refine tAv_run re q1 fun vs H1 p1 z1 => ?_
  split at q <;> try cases q
  rename_i i j c' q2
  split at q <;> try cases q
  rename_i hb
  obtain ⟨x, y, z, rfl, hx, hy, hz⟩ := paired3 (rdvs_ok p1.env z1 q2)
  simp only [Bool.and_eq_true, decide_eq_true_eq] at hb
  obtain ⟨b1, b2⟩ := inB_ok hb.1.1
  obtain ⟨b3, b4⟩ := inB_ok hb.1.2
  obtain ⟨_, rfl⟩ := hb
  exact ⟨i, j, -1, (i - j).toNat, by rw [relT_int hx, relT_int hy, relT_int hz], RgC.neg b1 b2 b3 b4, k _ _ p1 jok_dwn⟩
end
end Zz
end

section
set_option Elab.async false
set_option linter.all false
set_option maxRecDepth 100000
namespace Zz
open PySem PySem.Spec PyProof.Rows L2
section
variable {X : Cx} {G : GG}
/-- between a block's turns, the growing list may stand already -/
structure BJ (K : PySem.W.Frag) (G : GG) (M : Addr → Prop) (σ : L2.St) (H1 : Hp) (e0 : En) (vs : List Nat) (D : Addr) (H : Hp) (e : En) (acc : List Dat) : Prop where
  env : REnv K G (fun b => M b ∨ b = D) (wipe σ vs) H e
  blk : Blk vs e0 e
  fr : ∀ b o, b ≠ D → NT o → H1 b = some o → ¬ Own σ e0 b → H b = some o
  live : ∀ b, H1 b ≠ none → H b ≠ none
  tab : ∀ b, GxR.TabG H1 b → GxR.TabG H b
  lst : ∃ ys, H D = some (.lst ys) ∧ RelDs K G (NN (fun b => M b ∨ b = D) (wipe σ vs) e) H ys acc
theorem own_blk {σ σ3 : L2.St} {e1 e : En} {vs : List Nat} {b : Addr} (hw : wipe σ3 vs = wipe σ vs) (B : Blk vs e1 e) (h : Own σ3 e b) : Own σ e1 b := by
  obtain ⟨j, d', h1, h2⟩ := h
  obtain ⟨h3, d'', h4⟩ := B.ow j d' h1
  have : (wipe σ3 vs)[j]? = (wipe σ vs)[j]? := by rw [hw]
  rw [wipe_out h3, wipe_out h3] at this
  exact ⟨j, d'', h4, by rw [← this]; exact h2⟩
theorem BJ.next {K : PySem.W.Frag} {M : Addr → Prop} {σ σ4 : L2.St} {H1 H' H4 : Hp} {e1 e e4 : En} {vs : List Nat} {D : Addr} {acc acc' : List Dat} (B : BJ K G M σ H1 e1 vs D H' e acc) (hw : wipe σ4 vs = wipe σ vs)
    (r : REnv K G (fun b => M b ∨ b = D) σ4 H4 e4) (b : Blk vs e1 e4) (fr : ∀ b o, b ≠ D → NT o → H' b = some o → ¬ Own σ e1 b → H4 b = some o) (lv : ∀ b, H' b ≠ none → H4 b ≠ none) (tb : ∀ b, GxR.TabG H' b → GxR.TabG H4 b)
    (l : ∃ ys, H4 D = some (.lst ys) ∧ RelDs K G (NN (fun b => M b ∨ b = D) σ4 e4) H4 ys acc') : BJ K G M σ H1 e1 vs D H4 (wipeE e4 vs) acc' := by
  obtain ⟨ys, h1, h2⟩ := l
  have r' := r.wipe vs
  rw [hw] at r'
  refine ⟨r', b.wipe, fun b o hb nt e n => fr b o hb nt (B.fr b o hb nt e n) n, fun b h => lv b (B.live b h), fun b h => tb b (B.tab b h), ys, h1, h2.up (less_up fun b z => ?_)⟩
  rcases z with z | z
  · exact .inl z
  · rw [← hw] at z
    exact .inr (own_wipe z)
theorem env_app {K : PySem.W.Frag} {M : Addr → Prop} {σ : L2.St} {H : Hp} {e : En} {D : Addr} {ys ys' : List V} (r : REnv K G (fun b => M b ∨ b = D) σ H e) (hD : H D = some (.lst ys)) :
    REnv K G (fun b => M b ∨ b = D) σ (upd H D (.lst ys')) e ∧ Up (NN (fun b => M b ∨ b = D) σ e) H (NN (fun b => M b ∨ b = D) σ e) (upd H D (.lst ys')) ∧ (∀ b, H b ≠ none → upd H D (.lst ys') b ≠ none) ∧ (∀ b, GxR.TabG H b → GxR.TabG (upd H D (.lst ys')) b) := by
  have kp : ∀ b o, b ≠ D → H b = some o → upd H D (.lst ys') b = some o := fun b o hb e => (upd_ne hb).trans e
  have tD : ∀ b, GxR.TabG H b → b ≠ D := fun b ⟨ps, q, _⟩ z => by
    rw [z, hD] at q
    cases q
  have kt : ∀ b, GxR.TabG H b → GxR.TabG (upd H D (.lst ys')) b := fun b h => let ⟨ps, q, t⟩ := h; ⟨ps, kp b _ (tD b h) q, t⟩
  have up : Up (NN (fun b => M b ∨ b = D) σ e) H (NN (fun b => M b ∨ b = D) σ e) (upd H D (.lst ys')) := fun b u hu q n => ⟨rd_same hu q fun o nt e => kp b o (fun z => n (.inl (.inr z))) e, n⟩
  have lv : ∀ b, H b ≠ none → upd H D (.lst ys') b ≠ none := fun b hb => by
    by_cases hbD : b = D
    · rw [hbD, upd_same]; exact fun z => by cases z
    · rw [upd_ne hbD]; exact hb
  refine ⟨⟨r.len, fun j d' h => ?_, fun j d' h => ?_, r.inj, fun b hb => lv b (r.live b hb), fun P hP => kt P (r.tab P hP)⟩, up, lv, kt⟩
  · obtain ⟨w, g1, g2⟩ := r.sh j d' h
    exact ⟨w, g1, g2.up up⟩
  · obtain ⟨b, g1, g2, g3⟩ := r.ow j d' h
    exact ⟨b, g1, g2, g3.up (fun o _ e => kp b o (fun z => g2 (.inr z)) e) up⟩
theorem notOwnD {K : PySem.W.Frag} {M : Addr → Prop} {σ : L2.St} {H : Hp} {e : En} {D : Addr} (r : REnv K G (fun b => M b ∨ b = D) σ H e) : ¬ Own σ e D := fun z => by
  obtain ⟨j, d', h1, h2⟩ := z
  obtain ⟨b, h3, h4, _⟩ := r.ow j d' h1
  rw [h2] at h3
  cases h3
  exact h4 (.inr rfl)
/-- one turn: test, element, append -/
theorem lc_turn {g : SG} {t : ST} {fe : SE} {ts vs : List Nat} (T : TgOk ts g) (hts : ∀ j ∈ ts, j ∈ vs) {M : Addr → Prop} {σ : L2.St} {H1 H' H2 : Hp} {e1 env_i e3 : En} {D : Addr} {acc : List Dat} {x : V} {d : Dat} (B : BJ X.K G M σ H1 e1 vs D H' env_i acc) (sam : Sam H' H2)
    (rx : RelD X.K G (NN (fun b => M b ∨ b = D) (wipe σ vs) env_i) H2 x d) (q3 : g d env_i = some e3) {Nx : Hp → Prop} {out : List Dat × En}
    (hR : (match t e3 with
      | some (true, e2) => match fe e2 with
        | some (r, e3) => match esc e3 r with
          | some (y, e4) => if sizeOk (acc.length + 1) then some (acc ++ [y], wipeE e4 vs) else none
          | none => none
        | none => none
      | some (false, e2) => some (acc, wipeE e2 vs)
      | none => none) = some out) (hN : ∀ H', BJ X.K G M σ H1 e1 vs D H' out.2 out.1 → Nx H') :
    tGv X.K G false ts g x (wipe σ vs) H2 fun σ2 H2 => wipe σ2 vs = wipe σ vs ∧ tTv X.K G t σ2 H2 fun b H3 => if b = true then tEv X.K G fe σ2 H3 fun y H4 => ∃ acc, H4 D = some (.lst acc) ∧ acc.length < sizeLine ∧ Nx (upd H4 D (.lst (acc ++ [y]))) else Nx H3 := by
  refine ⟨fun b => M b ∨ b = D, env_i, d, e3, B.env.sam sam, (fun z => by cases z), rx, q3, fun σ3 P4 only => ?_⟩
  have hw : wipe σ3 vs = wipe σ vs := wipe_only only hts
  have B3 : Blk vs e1 e3 := B.blk.tg T hts q3
  obtain ⟨ys, hys, rys⟩ := B.lst
  have P5 : PostS X.K G false (fun b => M b ∨ b = D) (wipe σ vs) H' env_i σ3 H2 e3 := ((Post.sam B.env sam).st (fun z => by cases z)).trans P4
  refine ⟨hw, ?_⟩
  have liveD2 : H2 D = some (.lst ys) := sam.k D _ .lst hys
  have fr2 : ∀ {H3 : Hp} {e4 : En}, Post X.K G (fun b => M b ∨ b = D) σ3 H2 e3 H3 e4 → ∀ b o, b ≠ D → NT o → H' b = some o → ¬ Own σ e1 b → H3 b = some o := fun p b o hb nt e n =>
    p.fr.k b o nt (sam.k b o nt e) fun z => n (own_blk hw B3 z)
  split at hR <;> try cases hR
  · rename_i e4 q4
    refine tTv_run P4.env q4 fun H3 p3 => ?_
    rw [if_pos rfl]
    split at hR <;> try cases hR
    rename_i r5 e5 q5
    split at hR <;> try cases hR
    rename_i y e6 q6
    split at hR <;> try cases hR
    rename_i hz
    refine tEv_run p3.env q5 fun w H4 p4 z4 n4 => ?_
    obtain ⟨p5, z5⟩ := esc_ok p4.env z4 q6
    have pp := (p3.trans p4).trans p5
    have hD4 : H4 D = some (.lst ys) := pp.fr.k D _ .lst liveD2 (notOwnD P4.env)
    have rl := relDs_len rys
    obtain ⟨a1, a2, a3, a4⟩ := env_app (ys' := ys ++ [w]) pp.env hD4
    refine ⟨ys, hD4, by rw [rl]; exact Nat.lt_of_lt_of_le (Nat.lt_succ_self _) (sizeOk_le hz), hN _ (B.next hw a1 (B3.shp pp.shp) (fun b o hb nt e n => (upd_ne hb).trans (fr2 pp b o hb nt e n)) (fun b h => a3 b (pp.fr.l b (P5.fr.l b h))) (fun b h => a4 b (pp.fr.t b (P5.fr.t b h)))
      ⟨_, upd_same, (relDs_append ?_ (relDs_cons.mpr ⟨z5, relDs_nil⟩)).up a2⟩)⟩
    exact (rys.up P5.up).up pp.up
  · rename_i e4 q4
    refine tTv_run P4.env q4 fun H3 p3 => ?_
    rw [if_neg Bool.false_ne_true]
    have hD3 : H3 D = some (.lst ys) := p3.fr.k D _ .lst liveD2 (notOwnD P4.env)
    exact hN _ (B.next hw p3.env (B3.shp p3.shp) (fr2 p3) (fun b h => p3.fr.l b (P5.fr.l b h)) (fun b h => p3.fr.t b (P5.fr.t b h)) ⟨ys, hD3, (rys.up P5.up).up p3.up⟩)
end
/-! ### a loop over data, with what it gathers -/
def foldS (st : Dat → En → List Dat → Option (List Dat × En)) : List Dat → En → List Dat → Option (List Dat × En)
  | [], e, acc => some (acc, e)
  | d :: ds, e, acc => match st d e acc with
    | some (acc', e') => foldS st ds e' acc'
    | none => none
def stepIn (g : SG) (t : ST) (fe : SE) (vs : List Nat) : Dat → En → List Dat → Option (List Dat × En) := fun d e acc => match g d e with
  | some e1 => match t e1 with
    | some (true, e2) => match fe e2 with
      | some (r, e3) => match esc e3 r with
        | some (y, e4) => if sizeOk (acc.length + 1) then some (acc ++ [y], wipeE e4 vs) else none
        | none => none
      | none => none
    | some (false, e2) => some (acc, wipeE e2 vs)
    | none => none
  | none => none
def stepOut (g : SG) (t : ST) (it1 : SI) (g1 : SG) (t1 : ST) (fe : SE) (vs vs1 : List Nat) : Dat → En → List Dat → Option (List Dat × En) := fun d e acc => match g d e with
  | some e1 => match t e1 with
    | some (true, e2) => match it1 e2 with
      | some (ds1, e3) => match foldS (stepIn g1 t1 fe vs1) ds1 (wipeE e3 vs1) acc with
        | some (acc', e4) => some (acc', wipeE e4 vs)
        | none => none
      | none => none
    | some (false, e2) => some (acc, wipeE e2 vs)
    | none => none
  | none => none
/-- [elt for target in iter if test for target1 in iter1 if test1] -/
def zLc2 (it : SI) (g : SG) (t : ST) (it1 : SI) (g1 : SG) (t1 : ST) (fe : SE) (vs vs1 : List Nat) : SE := fun env => match it env with
  | some (ds, e1) => if plainB e1 vs then match foldS (stepOut g t it1 g1 t1 fe vs vs1) ds (wipeE e1 vs) [] with
    | some (acc, e2) => some (.fresh (.lst acc), unwipe e1 e2 vs)
    | none => none
    else none
  | none => none
section
variable {X : Cx} {G : GG}
theorem loop_ok {K : PySem.W.Frag} {N : Addr → Prop} {M : Addr → Prop} {σ : L2.St} {H1 H0 : Hp} {e1 e0 eF : En} {vs : List Nat} {D : Addr} {acc0 accF : List Dat} {J : It} {ds : List Dat} {st : Dat → En → List Dat → Option (List Dat × En)} {Body : V → Hp → (Hp → Prop) → Prop} {Fin : Hp → Prop}
    (jok : JOk K G N H1 J ds) (up : ∀ H e acc, BJ K G M σ H1 e1 vs D H e acc → Up N H1 (NN (fun b => M b ∨ b = D) (wipe σ vs) e) H)
    (hb : ∀ d x H' H2 e acc out (Nx : Hp → Prop), BJ K G M σ H1 e1 vs D H' e acc → Sam H' H2 → RelD K G (NN (fun b => M b ∨ b = D) (wipe σ vs) e) H2 x d → st d e acc = some out → (∀ H', BJ K G M σ H1 e1 vs D H' out.2 out.1 → Nx H') → Body x H2 Nx)
    (B0 : BJ K G M σ H1 e1 vs D H0 e0 acc0) (q : foldS st ds e0 acc0 = some (accF, eF)) (hF : ∀ H, BJ K G M σ H1 e1 vs D H eF accF → J.stop ds.length H → Fin H) :
    ∃ W : Nat → Nat → Hp → Prop, (∃ m, W 0 m H0) ∧ ∀ i m H, W i m H → (J.stop i H ∧ Fin H) ∨ (J.go i H ∧ ∃ Nx : Hp → Prop, (∀ H', Nx H' → ∃ m', m' < m ∧ W (i + 1) m' H') ∧ ∀ x H', J.yld i H x H' → Body x H' Nx) := by
  refine ⟨fun i m H' => m = ds.length - i ∧ i ≤ ds.length ∧ ∃ env_i acc, BJ K G M σ H1 e1 vs D H' env_i acc ∧ foldS st (ds.drop i) env_i acc = some (accF, eF), ⟨ds.length, by simp, Nat.zero_le _, e0, acc0, B0, by simpa using q⟩, ?_⟩
  rintro i m H' ⟨rfl, hi', env_i, acc, B, hl⟩
  have J' := jok (NN (fun b => M b ∨ b = D) (wipe σ vs) env_i) H' (up H' env_i acc B) (fun b => B.env.liveN)
  by_cases hlt : i < ds.length
  · right
    have hd : ds[i]? = some ds[i] := List.getElem?_eq_getElem hlt
    obtain ⟨go, yld⟩ := J'.1 i _ hd
    rw [List.drop_eq_getElem_cons hlt] at hl
    unfold foldS at hl
    split at hl <;> try cases hl
    rename_i a2 e2 q2
    refine ⟨go, fun H2 => BJ K G M σ H1 e1 vs D H2 e2 a2, fun H2 h => ⟨ds.length - (i + 1), by omega, rfl, hlt, e2, a2, h, hl⟩, fun x H2 hy => ?_⟩
    obtain ⟨sam, rx⟩ := yld x H2 hy
    exact hb ds[i] x H' H2 env_i acc (a2, e2) _ B sam rx q2 fun _ h => h
  · left
    have e : i = ds.length := by omega
    subst e
    rw [List.drop_length] at hl
    have hE : acc = accF ∧ env_i = eF := by
      cases hl
      exact ⟨rfl, rfl⟩
    obtain ⟨hE1, hE2⟩ := hE
    subst hE1
    subst hE2
    exact ⟨J'.2, hF _ B J'.2⟩
theorem wipe_wipe {σ : L2.St} {vs vs1 : List Nat} (h : ∀ j ∈ vs1, j ∈ vs) : wipe (wipe σ vs1) vs = wipe σ vs := by
  apply List.ext_getElem?
  intro i
  by_cases hi : i ∈ vs
  · by_cases hl : i < σ.length
    · rw [wipe_in hi (by rw [wipe_length]; exact hl), wipe_in hi hl]
    · rw [List.getElem?_eq_none (by rw [wipe_length, wipe_length]; omega), List.getElem?_eq_none (by rw [wipe_length]; omega)]
  · rw [wipe_out hi, wipe_out hi, wipe_out fun z => hi (h i z)]
/-- behind a block -/
theorem lc_end {M : Addr → Prop} {σ : L2.St} {H H1 H' : Hp} {env e1 env_i : En} {vs : List Nat} {D : Addr} {acc : List Dat} {Q : Prop} (hpl : plainB e1 vs = true) (p1 : Post X.K G M σ H env H1 e1) (hD : H1 D = none) (B : BJ X.K G M σ H1 e1 vs D H' env_i acc)
    (k : Post X.K G M σ H1 e1 H' (unwipe e1 env_i vs) → ResOk X.K G M σ H' (unwipe e1 env_i vs) (.ref D) (.fresh (.lst acc)) → New H1 (.ref D) (.fresh (.lst acc)) → Q) : Q := by
  have neD : ∀ b o, H1 b = some o → b ≠ D := fun b o e z => by rw [z, hD] at e; cases e
  have up1 : Up (NN M σ e1) H1 (NN (fun b => M b ∨ b = D) (wipe σ vs) env_i) H' := fun b u hu q n => ⟨rd_same hu q fun o nt e => B.fr b o (neD b o e) nt e fun z => n (.inr z), fun z => by
    rcases z with (z | z) | z
    · exact n (.inl z)
    · subst z; exact rd_some q hD
    · exact n (.inr (blk_own B.blk z))⟩
  obtain ⟨ys, hys, rys⟩ := B.lst
  have hsl : σ.length = e1.length := p1.env.len
  have owU : ∀ (j : Nat) (d : Dat), (unwipe e1 env_i vs)[j]? = some (some (Sl.ow d)) → j ∉ vs ∧ env_i[j]? = some (some (Sl.ow d)) := fun j d h => by
    rcases unwipe_get h with ⟨h1, h2⟩ | h1
    · exact absurd h2 (plainB_ok hpl h1)
    · exact h1
  have ownU : ∀ b, Own σ (unwipe e1 env_i vs) b → Own (wipe σ vs) env_i b := fun b ⟨j, d, h1, h2⟩ => by
    obtain ⟨h3, h4⟩ := owU j d h1
    exact ⟨j, d, h4, by rw [wipe_out h3]; exact h2⟩
  have upU : Up (NN (fun b => M b ∨ b = D) (wipe σ vs) env_i) H' (NN (fun b => M b ∨ b = D) σ (unwipe e1 env_i vs)) H' := less_up fun b z => z.imp id (ownU b)
  have upS : Up (NN M σ e1) H1 (NN (fun b => M b ∨ b = D) σ (unwipe e1 env_i vs)) H' := fun b u hu q n => let ⟨a, c⟩ := up1 b u hu q n; upU b u hu a c
  have rD : REnv X.K G (fun b => M b ∨ b = D) σ H' (unwipe e1 env_i vs) := by
    refine ⟨by rw [unwipe_len]; exact hsl, fun j d h => ?_, fun j d h => ?_, fun j j' d d' a h1 h2 h3 h4 => ?_, B.env.live, B.env.tab⟩
    · rcases unwipe_get h with ⟨h1, h2⟩ | ⟨h1, h2⟩
      · obtain ⟨w, g1, g2⟩ := p1.env.sh j d h2
        exact ⟨w, g1, g2.up upS⟩
      · obtain ⟨w, g1, g2⟩ := B.env.sh j d h2
        exact ⟨w, by rw [← wipe_out h1]; exact g1, g2.up upU⟩
    · obtain ⟨h1, h2⟩ := owU j d h
      obtain ⟨b, g1, g2, g3⟩ := B.env.ow j d h2
      exact ⟨b, by rw [← wipe_out h1]; exact g1, g2, g3.up (fun _ _ e => e) upU⟩
    · obtain ⟨g1, g2⟩ := owU j d h1
      obtain ⟨g3, g4⟩ := owU j' d' h2
      exact B.env.inj j j' d d' a g2 g4 (by rw [wipe_out g1]; exact h3) (by rw [wipe_out g3]; exact h4)
  have p2 : Post X.K G M σ H1 e1 H' (unwipe e1 env_i vs) := by
    refine ⟨⟨fun b o nt e n => B.fr b o (neD b o e) nt e n, B.live, B.tab⟩, ⟨unwipe_len, fun j d h => ?_, fun j s h => ?_⟩, rD.less fun b z => .inl z⟩
    · obtain ⟨h1, h2⟩ := owU j d h
      exact (B.blk.ow j d h2).2
    · have hj : j < e1.length := (List.getElem?_eq_some_iff.mp h).1
      by_cases hv : j ∈ vs
      · exact ⟨s, unwipe_of hj (.inl ⟨hv, h⟩)⟩
      · obtain ⟨s', h'⟩ := B.blk.has j s hv h
        exact ⟨s', unwipe_of hj (.inr ⟨hv, h'⟩)⟩
  refine k p2 ⟨D, rfl, fun z => ?_, rD, ys, hys, rys.up upU⟩ ⟨D, rfl, hD⟩
  rcases z with z | z
  · exact p1.env.live D z hD
  · obtain ⟨j, d, h1, h2⟩ := z
    obtain ⟨b, g1, g2, _⟩ := rD.ow j d h1
    rw [h2] at g1
    cases g1
    exact g2 (.inr rfl)
theorem lc2_imp {it it1 : SI} {g g1 : SG} {t t1 : ST} {fe : SE} {ts ts1 vs vs1 : List Nat} (T : TgOk ts g) (hts : ∀ j ∈ ts, j ∈ vs) (T1 : TgOk ts1 g1) (hts1 : ∀ j ∈ ts1, j ∈ vs1) (hv : ∀ j ∈ vs1, j ∈ vs) (σ : L2.St) (H : Hp) (Q : VK) (h : tEv X.K G (zLc2 it g t it1 g1 t1 fe vs vs1) σ H Q) :
    tLc2 (tIv X.K G it) (tGv X.K G false ts g) (tTv X.K G t) (tIv X.K G it1) (tGv X.K G false ts1 g1) (tTv X.K G t1) (tEv X.K G fe) vs vs1 σ H Q := by
  obtain ⟨M, env, r, env', re, q, k⟩ := h
  unfold zLc2 at q
  split at q <;> try cases q
  rename_i ds e1 q1
  split at q <;> try cases q
  rename_i hpl
  split at q <;> try cases q
  rename_i accF e2 q2
  refine ⟨M, env, ds, e1, re, q1, fun J H1 p1 jok D hD => ?_⟩
  have neD : ∀ b o, H1 b = some o → b ≠ D := fun b o e z => by rw [z, hD] at e; cases e
  have up1 : ∀ H' e acc, BJ X.K G M σ H1 e1 vs D H' e acc → Up (NN M σ e1) H1 (NN (fun b => M b ∨ b = D) (wipe σ vs) e) H' := fun H' e acc B b u hu q n => ⟨rd_same hu q fun o nt e => B.fr b o (neD b o e) nt e fun z => n (.inr z), fun z => by
    rcases z with (z | z) | z
    · exact n (.inl z)
    · subst z; exact rd_some q hD
    · exact n (.inr (blk_own B.blk z))⟩
  refine loop_ok (H0 := upd H1 D (.lst [])) jok up1 ?_ ?_ q2 ?_
  · -- a turn of the first loop
    intro d x H' H2 e acc out Nx B sam rx q3 hN
    unfold stepOut at q3
    split at q3 <;> try cases q3
    rename_i e3 q4
    refine ⟨fun b => M b ∨ b = D, e, d, e3, B.env.sam sam, (fun z => by cases z), rx, q4, fun σ3 P4 only => ?_⟩
    have hw : wipe σ3 vs = wipe σ vs := wipe_only only hts
    have B3 : Blk vs e1 e3 := B.blk.tg T hts q4
    obtain ⟨ys, hys, rys⟩ := B.lst
    have P5 : PostS X.K G false (fun b => M b ∨ b = D) (wipe σ vs) H' e σ3 H2 e3 := ((Post.sam B.env sam).st (fun z => by cases z)).trans P4
    have liveD2 : H2 D = some (.lst ys) := sam.k D _ .lst hys
    have fr2 : ∀ {H3 : Hp} {e4 : En}, Post X.K G (fun b => M b ∨ b = D) σ3 H2 e3 H3 e4 → ∀ b o, b ≠ D → NT o → H' b = some o → ¬ Own σ e1 b → H3 b = some o := fun p b o hb nt e n =>
      p.fr.k b o nt (sam.k b o nt e) fun z => n (own_blk hw B3 z)
    refine ⟨hw, ?_⟩
    split at q3 <;> try cases q3
    · rename_i e4 q5
      split at q3 <;> try cases q3
      rename_i ds1 e5 q6
      split at q3 <;> try cases q3
      rename_i acc6 e6 q7
      refine tTv_run P4.env q5 fun H3 p3 => ?_
      rw [if_pos rfl]
      refine ⟨_, e4, ds1, e5, p3.env, q6, fun J1 H4 p4 jok1 => ?_⟩
      have pp := p3.trans p4
      have hD4 : H4 D = some (.lst ys) := pp.fr.k D _ .lst liveD2 (notOwnD P4.env)
      have up2 : ∀ H' e acc, BJ X.K G M σ3 H4 e5 vs1 D H' e acc → Up (NN (fun b => M b ∨ b = D) σ3 e5) H4 (NN (fun b => M b ∨ b = D) (wipe σ3 vs1) e) H' := fun H' e acc B b u hu q n => ⟨rd_same hu q fun o nt e => B.fr b o (fun z => n (.inl (.inr z))) nt e fun z => n (.inr z), fun z => by
        rcases z with z | z
        · exact n (.inl z)
        · exact n (.inr (blk_own B.blk z))⟩
      refine loop_ok (H0 := H4) jok1 up2 ?_ ?_ q7 ?_
      · intro d x H' H2 e acc out Nx B sam rx q8 hN
        unfold stepIn at q8
        split at q8 <;> try cases q8
        rename_i e8 q9
        exact lc_turn T1 hts1 B sam rx q9 q8 hN
      · have r5 := pp.env.wipe vs1
        refine ⟨r5, Blk.start, fun b o _ _ e _ => e, fun b h => h, fun b h => h, ys, hD4, ((rys.up P5.up).up pp.up).up (less_up fun b z => z.imp id own_wipe)⟩
      · intro H7 B7 _
        refine hN _ (B.next (σ4 := wipe σ3 vs1) (by rw [wipe_wipe hv, hw]) B7.env ?_ ?_ ?_ ?_ B7.lst)
        · have b5 : Blk vs e1 e5 := (B3.shp pp.shp)
          refine ⟨B7.blk.len.trans b5.len, fun i d' h => ?_, fun i s hi h => ?_⟩
          · obtain ⟨h1, d'', h2⟩ := B7.blk.ow i d' h
            exact b5.ow i d'' h2
          · obtain ⟨s', h'⟩ := b5.has i s hi h
            exact B7.blk.has i s' (fun z => hi (hv i z)) h'
        · intro b o hb nt e n
          exact B7.fr b o hb nt (fr2 pp b o hb nt e n) fun z => n (own_blk hw (B3.shp pp.shp) z)
        · exact fun b h => B7.live b (pp.fr.l b (P5.fr.l b h))
        · exact fun b h => B7.tab b (pp.fr.t b (P5.fr.t b h))
    · rename_i e4 q5
      refine tTv_run P4.env q5 fun H3 p3 => ?_
      rw [if_neg Bool.false_ne_true]
      have hD3 : H3 D = some (.lst ys) := p3.fr.k D _ .lst liveD2 (notOwnD P4.env)
      exact hN _ (B.next hw p3.env (B3.shp p3.shp) (fr2 p3) (fun b h => p3.fr.l b (P5.fr.l b h)) (fun b h => p3.fr.t b (P5.fr.t b h)) ⟨ys, hD3, (rys.up P5.up).up p3.up⟩)
  · have e3 := (p1.env.more (Sam.new (o := .lst []) hD) hD (by rw [upd_same]; exact fun z => by cases z)).wipe vs
    exact ⟨e3, Blk.start, fun b o _ nt e _ => (Sam.new hD).k b o nt e, fun b h => (Sam.new hD).live h, fun b h => (Sam.new hD).t b h, [], upd_same, relDs_nil⟩
  · intro H' B _
    exact lc_end (hpl := hpl) p1 hD B (fun p2 z n => k _ H' (p1.trans p2) z (New.back p1 n))
theorem pz_lc2 {elt tg iter tg1 iter1 : Expr} {ifs ifs1 : List Expr} {scope : Scope} {own : List (Str × Nat)} {pos : Pos} {it it1 : SI} {g g1 : SG} {t t1 : ST} {fe : SE} {ts ts1 vs1 : List Nat} (hc : X.calm = true) (hN : X.N.Nodup) (hi : PI X tg iter (tIv X.K G it)) (ok : BlkOk X.N X.env.scope scope own)
    (hg : ∀ (s : Shared) (H : Hp) (C : Addr) (cl : List (Str × Addr)) (fp : List Addr), PG (X.blk s H scope (compEnvC scope cl C X.env) fp) tg (tGv X.K G false ts g))
    (ht : ∀ (s : Shared) (H : Hp) (C : Addr) (cl : List (Str × Addr)) (fp : List Addr), PTs (X.blk s H scope (compEnvC scope cl C X.env) fp) ifs (tTv X.K G t))
    (hi1 : ∀ (s : Shared) (H : Hp) (C : Addr) (cl : List (Str × Addr)) (fp : List Addr), PI (X.blk s H scope (compEnvC scope cl C X.env) fp) tg1 iter1 (tIv X.K G it1))
    (hg1 : ∀ (s : Shared) (H : Hp) (C : Addr) (cl : List (Str × Addr)) (fp : List Addr), PG (X.blk s H scope (compEnvC scope cl C X.env) fp) tg1 (tGv X.K G false ts1 g1))
    (ht1 : ∀ (s : Shared) (H : Hp) (C : Addr) (cl : List (Str × Addr)) (fp : List Addr), PTs (X.blk s H scope (compEnvC scope cl C X.env) fp) ifs1 (tTv X.K G t1))
    (he : ∀ (s : Shared) (H : Hp) (C : Addr) (cl : List (Str × Addr)) (fp : List Addr), PE (X.blk s H scope (compEnvC scope cl C X.env) fp) elt (tEv X.K G fe))
    (hs : ∀ x, foldedSetIterable iter X.env x = pure x) (hs1 : ∀ env x, foldedSetIterable iter1 env x = pure x)
    (T : TgOk ts g) (hts : ∀ j ∈ ts, j ∈ own.map (·.2)) (T1 : TgOk ts1 g1) (hts1 : ∀ j ∈ ts1, j ∈ vs1) (hv : ∀ j ∈ vs1, j ∈ own.map (·.2)) :
    PE X (.ListComp elt [⟨tg, iter, ifs, 0⟩, ⟨tg1, iter1, ifs1, 0⟩] scope pos) (tEv X.K G (zLc2 it g t it1 g1 t1 fe (own.map (·.2)) vs1)) :=
  PE.imp (pe_lc2 hc hN hi ok hv hg ht hi1 hg1 ht1 he hs hs1) fun σ H Q h => lc2_imp T hts T1 hts1 hv σ H Q h
theorem pz_setLc2 {io : Bool} {i : Nat} {y : Str} {py : Pos} {elt tg iter tg1 iter1 : Expr} {ifs ifs1 : List Expr} {scope : Scope} {own : List (Str × Nat)} {pos spos : Pos} {it it1 : SI} {g g1 : SG} {t t1 : ST} {fe : SE} {ts ts1 vs1 : List Nat} (hc : X.calm = true) (hN : X.N.Nodup) (hy : X.N[i]? = some y) (hyl : X.env.scope.names.lookup y = some .local)
    (hsw : swapsWith (.ListComp elt [⟨tg, iter, ifs, 0⟩, ⟨tg1, iter1, ifs1, 0⟩] scope pos) (some (.Name y py)) spos.line X.env = pure true) (hi : PI X tg iter (tIv X.K G it)) (ok : BlkOk X.N X.env.scope scope own)
    (hg : ∀ (s : Shared) (H : Hp) (C : Addr) (cl : List (Str × Addr)) (fp : List Addr), PG (X.blk s H scope (compEnvC scope cl C X.env) fp) tg (tGv X.K G false ts g))
    (ht : ∀ (s : Shared) (H : Hp) (C : Addr) (cl : List (Str × Addr)) (fp : List Addr), PTs (X.blk s H scope (compEnvC scope cl C X.env) fp) ifs (tTv X.K G t))
    (hi1 : ∀ (s : Shared) (H : Hp) (C : Addr) (cl : List (Str × Addr)) (fp : List Addr), PI (X.blk s H scope (compEnvC scope cl C X.env) fp) tg1 iter1 (tIv X.K G it1))
    (hg1 : ∀ (s : Shared) (H : Hp) (C : Addr) (cl : List (Str × Addr)) (fp : List Addr), PG (X.blk s H scope (compEnvC scope cl C X.env) fp) tg1 (tGv X.K G false ts1 g1))
    (ht1 : ∀ (s : Shared) (H : Hp) (C : Addr) (cl : List (Str × Addr)) (fp : List Addr), PTs (X.blk s H scope (compEnvC scope cl C X.env) fp) ifs1 (tTv X.K G t1))
    (he : ∀ (s : Shared) (H : Hp) (C : Addr) (cl : List (Str × Addr)) (fp : List Addr), PE (X.blk s H scope (compEnvC scope cl C X.env) fp) elt (tEv X.K G fe))
    (hs : ∀ x, foldedSetIterable iter X.env x = pure x) (hs1 : ∀ env x, foldedSetIterable iter1 env x = pure x)
    (T : TgOk ts g) (hts : ∀ j ∈ ts, j ∈ own.map (·.2)) (T1 : TgOk ts1 g1) (hts1 : ∀ j ∈ ts1, j ∈ vs1) (hv : ∀ j ∈ vs1, j ∈ own.map (·.2)) :
    PS X (.Assign [.Name y py] (.ListComp elt [⟨tg, iter, ifs, 0⟩, ⟨tg1, iter1, ifs1, 0⟩] scope pos) spos) (tSv X.K G io (zSet io i (zLc2 it g t it1 g1 t1 fe (own.map (·.2)) vs1))) := by
  refine PS.imp (ps_setLc2 hc hN hy hyl hsw hi ok hv hg ht hi1 hg1 ht1 he hs hs1) ?_
  rintro D σ H ⟨M, env, fl, e, hp, q, k⟩
  refine lc2_imp (fe := fe) (t := t) (it := it) (t1 := t1) (it1 := it1) T hts T1 hts1 hv σ H _ ?_
  unfold zSet at q
  split at q <;> try cases q
  rename_i r e1 q1
  split at q <;> try cases q
  rename_i hb
  split at q <;> try cases q
  rename_i e2 q2
  exact tEv_run e q1 fun v H' p z n => k _ H' (put_ok (p.st (pinB_ok hb)) z n q2)
end
end Zz
end

section
set_option Elab.async false
set_option linter.all false
set_option maxRecDepth 100000
/-! how many different tuples of ints: len(set(..)) -/
namespace Zz
open PySem PySem.Spec PyProof.Rows L2
def dst : List (List Int) → List (List Int)
  | [] => []
  | k :: ks => if k ∈ dst ks then dst ks else k :: dst ks
theorem dst_mem {x : List Int} : ∀ {ks : List (List Int)}, x ∈ dst ks ↔ x ∈ ks
  | [] => by simp [dst]
  | k :: ks => by
    unfold dst
    split
    · rename_i h
      rw [List.mem_cons, dst_mem]
      constructor
      · exact .inr
      · rintro (rfl | z)
        · exact dst_mem.mp h
        · exact z
    · rw [List.mem_cons, List.mem_cons, dst_mem]
theorem dst_nd : ∀ ks : List (List Int), (dst ks).Nodup
  | [] => List.nodup_nil
  | k :: ks => by
    unfold dst
    split
    · exact dst_nd ks
    · rename_i h
      exact List.nodup_cons.mpr ⟨h, dst_nd ks⟩
theorem nd_len {α : Type} [DecidableEq α] : ∀ {l D : List α}, l.Nodup → (∀ x ∈ l, x ∈ D) → l.length ≤ D.length
  | [], _, _, _ => Nat.zero_le _
  | x :: l, D, h, hs => by
    obtain ⟨h1, h2⟩ := List.nodup_cons.mp h
    have hx := hs x List.mem_cons_self
    have := nd_len (D := D.erase x) h2 fun y hy => (List.mem_erase_of_ne (fun e => h1 (by rw [← e]; exact hy))).mpr (hs y (List.mem_cons_of_mem _ hy))
    rw [List.length_erase_of_mem hx] at this
    have := List.length_pos_of_mem hx
    rw [List.length_cons]
    omega
theorem nd_same {α : Type} [DecidableEq α] {l D : List α} (h : l.Nodup) (h' : D.Nodup) (e : ∀ x, x ∈ l ↔ x ∈ D) : l.length = D.length := Nat.le_antisymm (nd_len h fun x => (e x).mp) (nd_len h' fun x => (e x).mpr)
/-- the ints of a tuple of ints -/
def intsD : List Dat → Option (List Int)
  | [] => some []
  | .int i :: ds => match intsD ds with
    | some l => some (i :: l)
    | none => none
  | _ => none
def tupsD : List Dat → Option (List (List Int))
  | [] => some []
  | .tup t :: ds => match intsD t, tupsD ds with
    | some k, some l => some (k :: l)
    | _, _ => none
  | _ => none
section
variable {X : Cx} {G : GG}
theorem intsD_rel {N : Addr → Prop} {H : Hp} : ∀ {ds : List Dat} {ks : List Int} {vs : List V}, intsD ds = some ks → RelDs X.K G N H vs ds → vs = ks.map V.int
  | [], ks, vs, h, r => by
    cases h
    cases vs with
    | nil => rfl
    | cons v vs => exact absurd (relDs_len r) (by simp)
  | d :: ds, ks, vs, h, r => by
    unfold intsD at h
    split at h <;> try cases h
    · rename_i e1
      cases e1
    · rename_i i ds' e1
      cases e1
      split at h <;> try cases h
      rename_i l e2
      cases vs with
      | nil => exact absurd (relDs_len r) (by simp)
      | cons v vs =>
        obtain ⟨h1, h2⟩ := relDs_cons.mp r
        rw [intsD_rel e2 h2]
        have : v = .int i := h1
        rw [this]
        rfl
theorem tupsD_rel {N : Addr → Prop} {H : Hp} (hN : ∀ b, N b → H b ≠ none) : ∀ {ds : List Dat} {ks : List (List Int)} {vs : List V}, tupsD ds = some ks → RelDs X.K G N H vs ds →
    ∃ ps : List (Addr × List Int), vs = ps.map (fun p => V.ref p.1) ∧ ps.map (·.2) = ks ∧ ∀ p ∈ ps, ∀ H', (∀ b o, H b = some o → H' b = some o) → SqT X.K H' p.1 (p.2.map V.int)
  | [], ks, vs, h, r => by
    cases h
    cases vs with
    | nil => exact ⟨[], rfl, rfl, fun p hp => by cases hp⟩
    | cons v vs => exact absurd (relDs_len r) (by simp)
  | d :: ds, ks, vs, h, r => by
    unfold tupsD at h
    split at h <;> try cases h
    · rename_i e1
      cases e1
    · rename_i t ds' e1
      cases e1
      split at h <;> try cases h
      rename_i k l e2 e3
      cases vs with
      | nil => exact absurd (relDs_len r) (by simp)
      | cons v vs =>
        obtain ⟨h1, h2⟩ := relDs_cons.mp r
        obtain ⟨ps, e4, e5, e6⟩ := tupsD_rel hN e3 h2
        obtain ⟨a, us, rfl, s1, q⟩ := ofT (.inl h1 : RelT X.K G N H v (.tup t))
        have hu := intsD_rel e2 q
        subst hu
        refine ⟨(a, k) :: ps, by rw [e4]; rfl, by rw [List.map_cons, e5], fun p hp H' kp => ?_⟩
        rcases List.mem_cons.mp hp with z | z
        · subst z
          exact s1.imp (fun z => rd_same .tup z fun o _ e => kp _ o e) id
        · exact e6 p z H' kp
/-- len of a set of tuples of ints -/
def rLenSet (K : PySem.W.Frag) (P : Program) (w : World) : List V → Hp → VK → Prop := fun xs H Q => ∃ (a : Addr) (L : List (Addr × List Int)), xs = [.ref a] ∧ H a = some (SetTO P w a L) ∧ (∀ p ∈ L, SqT K H p.1 (p.2.map V.int)) ∧ ((L.map (·.2)).Nodup → Q (.int L.length) H)
theorem cr_lenSet : CallR X (.builtin "len") (rLenSet X.K X.prog X.w) := by
  intro pins s σ H xs us Q I r h
  obtain ⟨a, L, rfl, ha, hL, q⟩ := h
  rw [Vals.ref1 r]
  have R0 : SetT0 X.prog X.w s.heap a L := (I.hok a _ ha).1
  obtain ⟨es, ep, t, R⟩ := R0.full fun p hp => I.isT (hL p hp)
  obtain ⟨o, ho, hex, hd⟩ := R.ob
  have hz : es.size = L.length := R.size (s := s)
  refine call_len_set ho hex hd (R.fits (s := s)) (by have := R.few; omega) ?_
  exact ⟨.int L.length, H, (I.tok _).tok _, ⟨_, by rw [hz]⟩, q R.nd⟩
def gLenSet : List Dat → Option R
  | [.lst l] => match tupsD l with
    | some ks => if ks.length < 64 then some (.val (.int (dst ks).length)) else none
    | none => none
  | _ => none
theorem pz_lenSet {e : Expr} {p p2 pos pos2 : Pos} {fs : SA} (hc : X.calm = true) (hu : X.A.units + 64 < cLine) (hg : Gl X "len") (hm : X.mg "len" = none) (hg2 : Gl X "set") (hm2 : X.mg "set" = none) (ha : PA X [e] (tAv X.K G fs))
    (na : starEach [e] X.env = (false, eval e X.env) :: starEach [] X.env) (na2 : starEach [Expr.Call (.Name "set" p2) [e] [] pos2] X.env = (false, eval (Expr.Call (.Name "set" p2) [e] [] pos2) X.env) :: starEach [] X.env) :
    PE X (.Call (.Name "len" p) [.Call (.Name "set" p2) [e] [] pos2] [] pos) (tEv X.K G (zCallB gLenSet fs)) := by
  refine PE.imp (pe_callB cr_lenSet hg hm rfl (pa_cons (pe_callTy (cr_setOfT hc hu) hg2 hm2 rfl ha (by decide) (by decide) na rfl) pa_nil na2) (by decide) (by decide) na2 rfl) ?_
  intro σ H Q h
  have key := callB_imp (X := X) (G := G) (fs := fs) (g := gLenSet) (rr := fun vs H1 Q => rSetOfT X.K X.prog X.w vs H1 fun x H2 => rLenSet X.K X.prog X.w [x] H2 Q) (fun N vs ds r H Q hl h q k => ?_) σ H Q h
  · exact key
  · unfold gLenSet at q
    split at q <;> try cases q
    rename_i l
    split at q <;> try cases q
    rename_i ks e1
    split at q <;> try cases q
    rename_i hk
    obtain ⟨v, rfl, h0⟩ := one_of h
    obtain ⟨a, us, rfl, s1, h1⟩ := ofL h0
    obtain ⟨ps, rfl, e2, e3⟩ := tupsD_rel hl e1 h1
    have hlen : ps.length = ks.length := by rw [← e2, List.length_map]
    refine ⟨a, ps, rfl, s1, fun p hp => e3 p hp H fun _ _ e => e, by omega, fun b L hb i1 i2 => ?_⟩
    have kp : ∀ c o, H c = some o → upd H b (SetTO X.prog X.w b L) c = some o := fun c o e => (upd_ne fun z => by rw [z, hb] at e; cases e).trans e
    refine ⟨b, L, rfl, upd_same, fun p hp => e3 p (i1 p hp) _ kp, fun nd => ?_⟩
    have hz : (L.map (·.2)).length = (dst ks).length := nd_same nd (dst_nd ks) fun x => by
      rw [dst_mem, ← e2]
      constructor
      · intro hx
        obtain ⟨p, hp, rfl⟩ := List.mem_map.mp hx
        exact List.mem_map_of_mem (i1 p hp)
      · intro hx
        obtain ⟨p, hp, rfl⟩ := List.mem_map.mp hx
        exact i2 p hp
    rw [List.length_map] at hz
    rw [← hz] at k
    exact k _ _ (Sam.new hb) rfl
end
end Zz
end

section
set_option Elab.async false
set_option linter.all false
set_option maxRecDepth 100000
/-! {elt for target in iter if test}, tuples of ints -/
namespace Zz
open PySem PySem.Spec PyProof.Rows L2
section
variable {P : Program} {w : World} {A : Around} {E : Value → Shared → Prop} {s : Shared} {a x : Addr} {L : List (Addr × List Int)} {es : Array (Int × Value)} {ep : Nat} {t : SetTable} {k : List Int}
theorem setT_add (R : SetTR P w s.heap a L es ep t) (hx : IsT P w s.heap k x) (hu : A.units + 64 < cLine) (hfew : L.length + 1 < 64) {Q : Value → Shared → Prop}
    (hQ : ∀ h' tk L' es' ep' t', Heap.SameBut a s.heap h' → SetTR P w h' a L' es' ep' t' → (k ∈ L.map (·.2) → L' = L) → (k ∉ L.map (·.2) → L'.Perm ((x, k) :: L)) → Q .none { s with heap := h', toks := tk }) :
    wpAny (model P w) A (call (.builtin "set.add") [.ref a, .ref x]) Q E s := by
  have hT : s.TypeIs (.ref a) "set" := by
    obtain ⟨o, ho, hex, _⟩ := R.ob
    exact ⟨o, ho, hex.1⟩
  refine wpAny_call_entry F.slot_set_add hT F.entry_set_add ?_ (F.args_set_add_2 _ _)
  unfold Builtin.«set.add» Builtin.Frozenset.oneOther
  simp only [List.isEmpty_nil, bind_assoc]
  unfold Builtin.Frozenset.addrOf setAdd
  refine wpAny_bind (wpAny_pure (wpAny_bind (wpAny_pure (wpAny_bind (wpAny_holding (wpAny_bind (wpAny_pyHash_tuple ?_ hx ?_)))))))
  · first | (show A.units + 1 < cLine; omega) | (unfold Around.in1; dsimp; omega)
  refine add_at (s := { s with toks := s.toks + (k.length + 1) }) R hx ?_ hfew fun b h' L' es' ep' t' hsb hS2 c1 c2 => ?_
  · first | (show A.units + 1 < cLine; omega) | (show A.units < cLine; omega) | (unfold Around.in1; dsimp; omega)
  show wpAny _ _ (ret Value.none) _ _ _
  exact wpAny_pure ⟨_, rfl, hQ h' _ L' es' ep' t' hsb hS2 c1 c2⟩
end

/-- a tuple of ints goes into the set at D -/
def AddT (K : PySem.W.Frag) (P : Program) (w : World) (D : Addr) (y : V) (H : Hp) (nx : Hp → Prop) : Prop := ∃ (L : List (Addr × List Int)) (x : Addr) (k : List Int), y = .ref x ∧ H D = some (SetTO P w D L) ∧ SqT K H x (k.map V.int) ∧ (∀ p ∈ L, SqT K H p.1 (p.2.map V.int)) ∧
  ((L.map (·.2)).Nodup → L.length + 1 < 64) ∧ ∀ L', (k ∈ L.map (·.2) → L' = L) → (k ∉ L.map (·.2) → L'.Perm ((x, k) :: L)) → nx (upd H D (SetTO P w D L'))
section
variable {X : Cx}
theorem addT_ok {pins : List (Addr × Obj)} {σ : L2.St} {H : Hp} {s : Shared} {E : Value → Shared → Prop} {D : Addr} {y : V} {v : Value} {nx : Hp → Prop} {Q : Value → Shared → Prop} (hu : X.A.units + 64 < cLine) (I : Inv X pins σ H s) (r : RelV y v) (h : AddT X.K X.prog X.w D y H nx)
    (k : ∀ s' H', Inv X pins σ H' s' → nx H' → Q .none s') : wpAny (model X.prog X.w) X.A (call (.builtin "set.add") [.ref D, v]) Q E s := by
  obtain ⟨L, x, kk, rfl, hD, hx, hL, hf, q⟩ := h
  cases (show v = .ref x from r)
  have R0 : SetT0 X.prog X.w s.heap D L := (I.hok D _ hD).1
  obtain ⟨es, ep, t, R⟩ := R0.full fun p hp => I.isT (hL p hp)
  refine setT_add (s := s) R (I.isT hx) hu (hf R.nd) fun h' tk L' es' ep' t' sb R' c1 c2 => ?_
  have he : ∃ u, h'.get? D = some u := by
    obtain ⟨o, ho, _⟩ := R'.ob
    exact ⟨o, ho⟩
  exact k _ _ (I.write (e := D) (t' := tk) (by rw [hD]; trivial) (.inl rfl) (fun b u hb hu => (sb.2 b hb).trans hu) he (setTO_new R'.t0)) (q L' c1 c2)
/-- the new set, an object's row -/
abbrev setRow (w : World) : Obj := { cls := .type "set", dict := none, data := .set #[] 0 (.fresh 0 0 (!w.params.followText "set-order")) }
theorem setT_none {h : Heap} (P : Program) (w : World) : SetT0 P w (h.push (setRow w)) h.objs.size [] := (setTR_fresh (P := P) (w := w) (Heap.get?_push_size h rfl)).t0
/-- {elt for target in iter if ..}: D the new set -/
def tScT (K : PySem.W.Frag) (P : Program) (w : World) (wi : TI) (g : TG) (tt : TT) (te : TE) (vs : List Nat) : TE := fun σ H Q => wi σ H fun J H1 => ∀ D, H1 D = none → ∃ W : Nat → Nat → Hp → Prop, (∃ m, W 0 m (upd H1 D (SetTO P w D []))) ∧
  ∀ i m H, W i m H → (J.stop i H ∧ Q (.ref D) H) ∨ (J.go i H ∧ ∃ nx : Hp → Prop, (∀ H', nx H' → ∃ m', m' < m ∧ W (i + 1) m' H') ∧ ∀ x H', J.yld i H x H' →
    g x (wipe σ vs) H' fun σ2 H2 => wipe σ2 vs = wipe σ vs ∧ tt σ2 H2 fun b H3 => if b = true then te σ2 H3 fun y H4 => AddT K P w D y H4 nx else nx H3)
theorem pe_scT {elt tg iter : Expr} {ifs : List Expr} {scope : Scope} {own : List (PySem.Str × Nat)} {pos : Pos} {wi : TI} {g : TG} {tt : TT} {te : TE} (hc : X.calm = true) (hu : X.A.units + 64 < cLine) (hN : X.N.Nodup) (hi : PI X tg iter wi) (ok : BlkOk X.N X.env.scope scope own)
    (hg : ∀ (s : Shared) (H : Hp) (C : Addr) (cl : List (PySem.Str × Addr)) (fp : List Addr), PG (X.blk s H scope (compEnvC scope cl C X.env) fp) tg g) (ht : ∀ (s : Shared) (H : Hp) (C : Addr) (cl : List (PySem.Str × Addr)) (fp : List Addr), PTs (X.blk s H scope (compEnvC scope cl C X.env) fp) ifs tt)
    (he : ∀ (s : Shared) (H : Hp) (C : Addr) (cl : List (PySem.Str × Addr)) (fp : List Addr), PE (X.blk s H scope (compEnvC scope cl C X.env) fp) elt te) (hs : ∀ x, foldedSetIterable iter X.env x = pure x) :
    PE X (.SetComp elt [⟨tg, iter, ifs, 0⟩] scope pos) (tScT X.K X.prog X.w wi g tt te (own.map (·.2))) := by
  refine ⟨fun pins s σ H Q I0 h => ?_⟩
  rw [PpSet.eval_SetComp]
  have free : ∀ y ∈ scope.names, y.2 = .free → ∃ c, X.env.cells.lookup y.1 = some c := fun y hy e => (ok.free y hy e).elim (fun z => I0.ok.has _ (.inl z)) fun z => I0.ok.has _ (.inr z)
  refine wpAny_comprehension_free (use := none) rfl hs (closure_ok free) ok.kind (fun y hy e => by rw [ok.uniq y hy, e]) (thn (hi.run pins s σ H _ I0 h) fun xv sa hx => thn hx fun itv sb hb => ?_)
  obtain ⟨it, fp, tn, J, Hb, rfl, Ib, T, stb, fb, q⟩ := hb
  refine PpSet.newSet_ok (newEnv_comp ?_)
  have dn : Hb sb.heap.objs.size = none := Ib.hok.fresh (Nat.le_refl _)
  obtain ⟨W, ⟨m0, w0⟩, turn⟩ := q _ dn
  have Ic : Inv X pins σ (upd Hb sb.heap.objs.size (SetTO X.prog X.w sb.heap.objs.size [])) { sb with heap := sb.heap.push (setRow X.w) } := Ib.laid (t' := sb.toks) (fun b o e => Heap.get?_push_of_some _ e) (Nat.le_refl _) (setTO_new (setT_none X.prog X.w))
  have low : ∀ b ∈ fp, b < sb.heap.objs.size := fun b hb => let ⟨o, e, _⟩ := T.obj _ _ stb b hb; Heap.lt_size e
  have fc : ∀ b ∈ fp, FpOk X pins (upd Hb sb.heap.objs.size (SetTO X.prog X.w sb.heap.objs.size [])) b ∧ b < ({ sb with heap := sb.heap.push (setRow X.w) } : Shared).heap.objs.size := fun b hb =>
    ⟨⟨(upd_ne (Nat.ne_of_lt (low b hb))).trans (fb b hb).1, (fb b hb).2⟩, by rw [show ({ sb with heap := sb.heap.push (setRow X.w) } : Shared).heap.objs.size = sb.heap.objs.size + 1 from Heap.size_push ..]; exact Nat.lt_succ_of_lt (low b hb)⟩
  have stc : tn 0 (sb.heap.push (setRow X.w)) := T.keep _ _ _ stb fun b _ o e => Heap.get?_push_of_some _ e
  generalize hsc : ({ sb with heap := sb.heap.push (setRow X.w) } : Shared) = sc at Ic fc
  have hch : sc.heap = sb.heap.push (setRow X.w) := by rw [← hsc]
  rw [← hch] at stc
  have Id := block_start Ic ok hN fc
  have pg := hg sc (upd Hb sb.heap.objs.size (SetTO X.prog X.w sb.heap.objs.size [])) sc.heap.objs.size (cellsFrom (sc.heap.objs.size + 1) scope.names (cloFrom X.env.cells scope.names [])) fp
  have pt := ht sc (upd Hb sb.heap.objs.size (SetTO X.prog X.w sb.heap.objs.size [])) sc.heap.objs.size (cellsFrom (sc.heap.objs.size + 1) scope.names (cloFrom X.env.cells scope.names [])) fp
  have pe := he sc (upd Hb sb.heap.objs.size (SetTO X.prog X.w sb.heap.objs.size [])) sc.heap.objs.size (cellsFrom (sc.heap.objs.size + 1) scope.names (cloFrom X.env.cells scope.names [])) fp
  have goal : codeAny (model X.prog X.w) X.A (.compStart (.SetComp elt [⟨tg, iter, ifs, 0⟩] scope pos) 0 (.ref it) (.ref sb.heap.objs.size) (compEnvC scope (cellsFrom (sc.heap.objs.size + 1) scope.names (cloFrom X.env.cells scope.names [])) sc.heap.objs.size X.env))
      (compPost (model X.prog X.w) X.A X.xe none (EP X pins σ Q) (.ref sb.heap.objs.size) sc.heap.objs.size) { sc with heap := pushCells (sc.heap.push { cls := .type "dict", data := .dict #[] }) scope.names } := by
    have nofp := fun b hb => (fc b hb).1.1
    generalize hce : compEnvC scope (cellsFrom (sc.heap.objs.size + 1) scope.names (cloFrom X.env.cells scope.names [])) sc.heap.objs.size X.env = ce at Id pg pt pe ⊢
    have cl : ce.locals = sc.heap.objs.size := by subst hce; rfl
    generalize hHc : upd Hb sb.heap.objs.size (SetTO X.prog X.w sb.heap.objs.size []) = Hc at Ic Id pg pt pe w0 nofp fc
    generalize hsd : ({ sc with heap := pushCells (sc.heap.push { cls := .type "dict", data := .dict #[] }) scope.names } : Shared) = sd at Id ⊢
    have std : tn 0 sd.heap := T.keep _ _ _ stc fun b _ o e => by rw [← hsd]; exact pushCells_keeps _ _ _ _ (Heap.get?_push_of_some _ e)
    have apart : ∀ {σ' : L2.St} {H' : Hp} {s' : Shared}, Inv (X.blk sc Hc scope ce fp) [] σ' H' s' → (∀ b ∈ fp, H' b = none) → ∀ b ∈ fp, FpOk (X.blk sc Hc scope ce fp) [] H' b := fun {σ' H' s'} I' hn b hb =>
      ⟨hn b hb, (I'.ok.exf b hb).1, I'.ok.exfs b hb, .inl hb, fun x c e => (I'.ok.exf b hb).2 x c e, fun p hp => absurd (show p ∈ ([] : List (Addr × Obj)) ++ [] from hp) (by simp)⟩
    have walk : codeAny (model X.prog X.w) X.A (.compLoop (.SetComp elt [⟨tg, iter, ifs, 0⟩] scope pos) 0 (.ref it) (.ref sb.heap.objs.size) ce) (compPost (model X.prog X.w) X.A X.xe none (EP X pins σ Q) (.ref sb.heap.objs.size) sc.heap.objs.size) sd := by
      refine PpSet.compLoopS_any (fun n s' => ∃ i H', Inv (X.blk sc Hc scope ce fp) [] (wipe σ (own.map (·.2))) H' s' ∧ tn i s'.heap ∧ (∀ b ∈ fp, H' b = none) ∧ W i n H') ?_ m0 ⟨0, Hc, Id, std, nofp, w0⟩
      rintro n se ⟨i, He, Ie, ste, ne, we⟩
      rcases turn i n He we with ⟨stop, fin⟩ | ⟨go, nx, hnx, step⟩
      · refine thnF (T.done (X.blk sc Hc scope ce fp) rfl rfl rfl hc i [] se _ He (fun _ _ => False) Ie (apart Ie ne) ste stop) fun r sf ⟨hr, If⟩ => ?_
        subst hr
        have nl : He sc.heap.objs.size = none := by
          have z : He ce.locals = none := If.free
          rwa [cl] at z
        obtain ⟨m, hn, _⟩ := If.loc
        have hn : sf.heap.Ns ce.locals m := hn
        rw [cl] at hn
        have Ig : Inv X pins σ He sf := Ic.call' (ch := fp) If.os If.base If.hok If.bare fun b hb => ⟨(fc b hb).1.2.2.2.1, (fc b hb).1.2.1, (fc b hb).1.2.2.2.2.1, (fc b hb).1.2.2.2.2.2⟩
        obtain ⟨f0, f1, f2, f3, f4, f5⟩ := Ic.fpOk (Nat.le_refl _) nl
        exact ⟨m, hn, fun h'' same => ⟨.ref sb.heap.objs.size, He, Ig.turned (t' := sf.toks) (fun b o hb e => (same.2 b hb).trans e) f0 f1 f3 f4 f5, rfl, fin⟩⟩
      · refine thnF (T.item (X.blk sc Hc scope ce fp) rfl rfl rfl hc i [] se _ He (fun _ _ => False) Ie (apart Ie ne) ste go) fun r sf ⟨u, hr, hf⟩ => ?_
        subst hr
        refine thnF hf fun _ sg ⟨x, Hg, Ig, rg, yg, stg, ng⟩ => ?_
        have Ig' := Ig.pinned (apart Ig ng) (T.obj _ _ stg)
        refine thnF (pg.run _ sg _ Hg x u _ Ig' rg (step x Hg yg)) fun _ sh ⟨σh, Hh, Ih, wh, qh⟩ => ?_
        refine thnF (pt.run _ sh σh Hh _ Ih qh) fun b sj ⟨Hj, Ij, qj⟩ => ?_
        have back : ∀ {s' : Shared} {H' : Hp}, Inv (X.blk sc Hc scope ce fp) ([] ++ pinsAt fp sg.heap) σh H' s' → nx H' → ∃ m, m < n ∧ ∃ i H', Inv (X.blk sc Hc scope ce fp) [] (wipe σ (own.map (·.2))) H' s' ∧ tn i s'.heap ∧ (∀ b ∈ fp, H' b = none) ∧ W i m H' := fun {s' H'} I' z => by
          obtain ⟨m', hm, w'⟩ := hnx H' z
          have held : ∀ b ∈ fp, ∀ o, sg.heap.get? b = some o → s'.heap.get? b = some o ∧ H' b = none := fun b hb o e =>
            have z := I'.pin (b, o) (List.mem_append_right _ (List.mem_append_right _ (mem_pinsAt hb e)))
            ⟨z.1, z.2.1⟩
          have hl : (wipe σ (own.map (·.2))).length = σh.length := by rw [← wh, wipe_length]
          refine ⟨m', hm, i + 1, H', (I'.unpinned (pins := [])).weak hl (fun j v e => ?_), T.keep _ _ _ stg fun b hb o e => (held b hb o e).1, fun b hb => let ⟨o, e, _⟩ := T.obj _ _ stg b hb; (held b hb o e).2, w'⟩
          rw [← wh] at e
          exact (wipe_some e).1
        cases b with
        | false =>
          simp only [Bool.false_eq_true, if_false] at qj ⊢
          exact back Ij qj
        | true =>
          simp only [if_true] at qj ⊢
          exact thnF (pe.run _ sj σh Hj _ Ij qj) fun z sk ⟨yv, Hk, Ik, rk, ad⟩ => addT_ok (X := X.blk sc Hc scope ce fp) hu Ik rk ad fun s' H' I' z => back I' z
    exact PpSet.codeAny_compStart_set walk (T.self X.A 0 _ _ _ std walk)
  rw [← hsc] at goal ⊢
  exact goal
end
end Zz
end

section
set_option Elab.async false
set_option linter.all false
set_option maxRecDepth 100000
/-! len({elt for target in iter if test}) -/
namespace Zz
open PySem PySem.Spec PyProof.Rows L2
def foldG {α : Type} (st : Dat → En → α → Option (α × En)) : List Dat → En → α → Option (α × En)
  | [], e, acc => some (acc, e)
  | d :: ds, e, acc => match st d e acc with
    | some (acc', e') => foldG st ds e' acc'
    | none => none
def stepSet (g : SG) (t : ST) (fe : SE) (vs : List Nat) : Dat → En → List (List Int) → Option (List (List Int) × En) := fun d e ks => match g d e with
  | some e1 => match t e1 with
    | some (true, e2) => match fe e2 with
      | some (r, e3) => match esc e3 r with
        | some (.tup td, e4) => match intsD td with
          | some k => if ks.length + 1 < 64 then some (k :: ks, wipeE e4 vs) else none
          | none => none
        | _ => none
      | none => none
    | some (false, e2) => some (ks, wipeE e2 vs)
    | none => none
  | none => none
def zLenSc (it : SI) (g : SG) (t : ST) (fe : SE) (vs : List Nat) : SE := fun env => match it env with
  | some (ds, e1) => if plainB e1 vs then match foldG (stepSet g t fe vs) ds (wipeE e1 vs) [] with
    | some (ks, e2) => some (.val (.int (dst ks).length), unwipe e1 e2 vs)
    | none => none
    else none
  | none => none
section
variable {X : Cx} {G : GG}
theorem loop_okG {α : Type} {K : PySem.W.Frag} {N : Addr → Prop} {H1 H0 : Hp} {e0 eF : En} {acc0 accF : α} {J : It} {ds : List Dat} {B : Hp → En → α → Prop} {Nn : En → Addr → Prop} {st : Dat → En → α → Option (α × En)} {Body : V → Hp → (Hp → Prop) → Prop} {Fin : Hp → Prop}
    (jok : JOk K G N H1 J ds) (up : ∀ H e acc, B H e acc → Up N H1 (Nn e) H ∧ ∀ b, Nn e b → H b ≠ none)
    (hb : ∀ d x H' H2 e acc out (Nx : Hp → Prop), B H' e acc → Sam H' H2 → RelD K G (Nn e) H2 x d → st d e acc = some out → (∀ H', B H' out.2 out.1 → Nx H') → Body x H2 Nx)
    (B0 : B H0 e0 acc0) (q : foldG st ds e0 acc0 = some (accF, eF)) (hF : ∀ H, B H eF accF → Fin H) :
    ∃ W : Nat → Nat → Hp → Prop, (∃ m, W 0 m H0) ∧ ∀ i m H, W i m H → (J.stop i H ∧ Fin H) ∨ (J.go i H ∧ ∃ Nx : Hp → Prop, (∀ H', Nx H' → ∃ m', m' < m ∧ W (i + 1) m' H') ∧ ∀ x H', J.yld i H x H' → Body x H' Nx) := by
  refine ⟨fun i m H' => m = ds.length - i ∧ i ≤ ds.length ∧ ∃ e acc, B H' e acc ∧ foldG st (ds.drop i) e acc = some (accF, eF), ⟨ds.length, by simp, Nat.zero_le _, e0, acc0, B0, by simpa using q⟩, ?_⟩
  rintro i m H' ⟨rfl, hi', e, acc, b, hl⟩
  obtain ⟨u1, u2⟩ := up H' e acc b
  have J' := jok (Nn e) H' u1 u2
  by_cases hlt : i < ds.length
  · right
    have hd : ds[i]? = some ds[i] := List.getElem?_eq_getElem hlt
    obtain ⟨go, yld⟩ := J'.1 i _ hd
    rw [List.drop_eq_getElem_cons hlt] at hl
    unfold foldG at hl
    split at hl <;> try cases hl
    rename_i a2 e2 q2
    refine ⟨go, fun H2 => B H2 e2 a2, fun H2 h => ⟨ds.length - (i + 1), by omega, rfl, hlt, e2, a2, h, hl⟩, fun x H2 hy => ?_⟩
    obtain ⟨sam, rx⟩ := yld x H2 hy
    exact hb ds[i] x H' H2 e acc (a2, e2) _ b sam rx q2 fun _ h => h
  · left
    have e' : i = ds.length := by omega
    subst e'
    rw [List.drop_length] at hl
    have hE : acc = accF ∧ e = eF := by
      cases hl
      exact ⟨rfl, rfl⟩
    obtain ⟨hE1, hE2⟩ := hE
    subst hE1
    subst hE2
    exact ⟨J'.2, hF _ b⟩
/-- between a block's turns: what all blocks keep -/
structure BK (K : PySem.W.Frag) (G : GG) (M : Addr → Prop) (σ : L2.St) (H1 : Hp) (e0 : En) (vs : List Nat) (D : Addr) (H : Hp) (e : En) : Prop where
  env : REnv K G (fun b => M b ∨ b = D) (wipe σ vs) H e
  blk : Blk vs e0 e
  fr : ∀ b o, b ≠ D → NT o → H1 b = some o → ¬ Own σ e0 b → H b = some o
  live : ∀ b, H1 b ≠ none → H b ≠ none
  tab : ∀ b, GxR.TabG H1 b → GxR.TabG H b
/-- what the set at D holds -/
def HasT (P : Program) (w : World) (K : PySem.W.Frag) (G : GG) (N : Addr → Prop) (D : Addr) (H : Hp) (ks : List (List Int)) : Prop := ∃ L : List (Addr × List Int), H D = some (SetTO P w D L) ∧ (∀ p ∈ L, RelD K G N H (.ref p.1) (.tup (p.2.map Dat.int))) ∧ ∀ k, k ∈ L.map (·.2) ↔ k ∈ ks
theorem intsD_map : ∀ k : List Int, intsD (k.map Dat.int) = some k
  | [] => rfl
  | i :: k => by
    show (match intsD (k.map Dat.int) with | some l => some (i :: l) | none => none) = _
    rw [intsD_map k]
theorem intsD_of : ∀ {td : List Dat} {k : List Int}, intsD td = some k → td = k.map Dat.int
  | [], k, h => by cases h; rfl
  | d :: ds, k, h => by
    unfold intsD at h
    split at h <;> try cases h
    · rename_i e1
      cases e1
    · rename_i i ds' e1
      cases e1
      split at h <;> try cases h
      rename_i l e2
      rw [intsD_of e2]
      rfl
theorem relD_sqT {N : Addr → Prop} {H : Hp} {a : Addr} {k : List Int} (h : RelD X.K G N H (.ref a) (.tup (k.map Dat.int))) : SqT X.K H a (k.map V.int) := by
  obtain ⟨b, vs, e, s1, q⟩ := ofT (.inl h : RelT X.K G N H (.ref a) (.tup (k.map Dat.int)))
  cases e
  rw [intsD_rel (intsD_map k) q] at s1
  exact s1
/-- D's object may change -/
theorem env_at {K : PySem.W.Frag} {M : Addr → Prop} {σ : L2.St} {H : Hp} {e : En} {D : Addr} {o o' : HO} (r : REnv K G (fun b => M b ∨ b = D) σ H e) (hD : H D = some o) (ho : NT o) :
    REnv K G (fun b => M b ∨ b = D) σ (upd H D o') e ∧ Up (NN (fun b => M b ∨ b = D) σ e) H (NN (fun b => M b ∨ b = D) σ e) (upd H D o') ∧ (∀ b, H b ≠ none → upd H D o' b ≠ none) ∧ (∀ b, GxR.TabG H b → GxR.TabG (upd H D o') b) := by
  have kp : ∀ b u, b ≠ D → H b = some u → upd H D o' b = some u := fun b u hb e => (upd_ne hb).trans e
  have tD : ∀ b, GxR.TabG H b → b ≠ D := fun b ⟨ps, q, _⟩ z => by
    rw [z, hD] at q
    exact ho _ (Option.some.inj q)
  have kt : ∀ b, GxR.TabG H b → GxR.TabG (upd H D o') b := fun b h => let ⟨ps, q, t⟩ := h; ⟨ps, kp b _ (tD b h) q, t⟩
  have up : Up (NN (fun b => M b ∨ b = D) σ e) H (NN (fun b => M b ∨ b = D) σ e) (upd H D o') := fun b u hu q n => ⟨rd_same hu q fun o nt e => kp b o (fun z => n (.inl (.inr z))) e, n⟩
  have lv : ∀ b, H b ≠ none → upd H D o' b ≠ none := fun b hb => by
    by_cases hbD : b = D
    · rw [hbD, upd_same]; exact fun z => by cases z
    · rw [upd_ne hbD]; exact hb
  refine ⟨⟨r.len, fun j d' h => ?_, fun j d' h => ?_, r.inj, fun b hb => lv b (r.live b hb), fun P hP => kt P (r.tab P hP)⟩, up, lv, kt⟩
  · obtain ⟨w, g1, g2⟩ := r.sh j d' h
    exact ⟨w, g1, g2.up up⟩
  · obtain ⟨b, g1, g2, g3⟩ := r.ow j d' h
    exact ⟨b, g1, g2, g3.up (fun o _ e => kp b o (fun z => g2 (.inr z)) e) up⟩
theorem BK.next {K : PySem.W.Frag} {M : Addr → Prop} {σ σ4 : L2.St} {H1 H' H4 : Hp} {e1 e e4 : En} {vs : List Nat} {D : Addr} (B : BK K G M σ H1 e1 vs D H' e) (hw : wipe σ4 vs = wipe σ vs)
    (r : REnv K G (fun b => M b ∨ b = D) σ4 H4 e4) (b : Blk vs e1 e4) (fr : ∀ b o, b ≠ D → NT o → H' b = some o → ¬ Own σ e1 b → H4 b = some o) (lv : ∀ b, H' b ≠ none → H4 b ≠ none) (tb : ∀ b, GxR.TabG H' b → GxR.TabG H4 b) : BK K G M σ H1 e1 vs D H4 (wipeE e4 vs) := by
  have r' := r.wipe vs
  rw [hw] at r'
  exact ⟨r', b.wipe, fun b o hb nt e n => fr b o hb nt (B.fr b o hb nt e n) n, fun b h => lv b (B.live b h), fun b h => tb b (B.tab b h)⟩
theorem wipe_up {M : Addr → Prop} {σ σ4 : L2.St} {e4 : En} {vs : List Nat} {H : Hp} (hw : wipe σ4 vs = wipe σ vs) : Up (NN M σ4 e4) H (NN M (wipe σ vs) (wipeE e4 vs)) H := less_up fun b z => by
  rcases z with z | z
  · exact .inl z
  · rw [← hw] at z
    exact .inr (own_wipe z)
/-- behind a block whose object is dropped -/
theorem bk_end {M : Addr → Prop} {σ : L2.St} {H H1 H' : Hp} {env e1 env_i : En} {vs : List Nat} {D : Addr} {Q : Prop} (hpl : plainB e1 vs = true) (p1 : Post X.K G M σ H env H1 e1) (hD : H1 D = none) (B : BK X.K G M σ H1 e1 vs D H' env_i)
    (k : Post X.K G M σ H1 e1 H' (unwipe e1 env_i vs) → Q) : Q := by
  have neD : ∀ b o, H1 b = some o → b ≠ D := fun b o e z => by rw [z, hD] at e; cases e
  have owU : ∀ (j : Nat) (d : Dat), (unwipe e1 env_i vs)[j]? = some (some (Sl.ow d)) → j ∉ vs ∧ env_i[j]? = some (some (Sl.ow d)) := fun j d h => by
    rcases unwipe_get h with ⟨h1, h2⟩ | h1
    · exact absurd h2 (plainB_ok hpl h1)
    · exact h1
  have ownU : ∀ b, Own σ (unwipe e1 env_i vs) b → Own (wipe σ vs) env_i b := fun b ⟨j, d, h1, h2⟩ => by
    obtain ⟨h3, h4⟩ := owU j d h1
    exact ⟨j, d, h4, by rw [wipe_out h3]; exact h2⟩
  have upU : Up (NN (fun b => M b ∨ b = D) (wipe σ vs) env_i) H' (NN (fun b => M b ∨ b = D) σ (unwipe e1 env_i vs)) H' := less_up fun b z => z.imp id (ownU b)
  have upS : Up (NN M σ e1) H1 (NN (fun b => M b ∨ b = D) σ (unwipe e1 env_i vs)) H' := fun b u hu q n => by
    have n' : ¬ NN (fun b => M b ∨ b = D) (wipe σ vs) env_i b := fun z => by
      rcases z with (z | z) | z
      · exact n (.inl z)
      · subst z; exact rd_some q hD
      · exact n (.inr (blk_own B.blk z))
    exact upU b u hu (rd_same hu q fun o nt e => B.fr b o (neD b o e) nt e fun z => n (.inr z)) n'
  have rD : REnv X.K G (fun b => M b ∨ b = D) σ H' (unwipe e1 env_i vs) := by
    refine ⟨by rw [unwipe_len]; exact p1.env.len, fun j d h => ?_, fun j d h => ?_, fun j j' d d' a h1 h2 h3 h4 => ?_, B.env.live, B.env.tab⟩
    · rcases unwipe_get h with ⟨h1, h2⟩ | ⟨h1, h2⟩
      · obtain ⟨w, g1, g2⟩ := p1.env.sh j d h2
        exact ⟨w, g1, g2.up upS⟩
      · obtain ⟨w, g1, g2⟩ := B.env.sh j d h2
        exact ⟨w, by rw [← wipe_out h1]; exact g1, g2.up upU⟩
    · obtain ⟨h1, h2⟩ := owU j d h
      obtain ⟨b, g1, g2, g3⟩ := B.env.ow j d h2
      exact ⟨b, by rw [← wipe_out h1]; exact g1, g2, g3.up (fun _ _ e => e) upU⟩
    · obtain ⟨g1, g2⟩ := owU j d h1
      obtain ⟨g3, g4⟩ := owU j' d' h2
      exact B.env.inj j j' d d' a g2 g4 (by rw [wipe_out g1]; exact h3) (by rw [wipe_out g3]; exact h4)
  refine k ⟨⟨fun b o nt e n => B.fr b o (neD b o e) nt e n, B.live, B.tab⟩, ⟨unwipe_len, fun j d h => ?_, fun j s h => ?_⟩, rD.less fun b z => .inl z⟩
  · obtain ⟨h1, h2⟩ := owU j d h
    exact (B.blk.ow j d h2).2
  · have hj : j < e1.length := (List.getElem?_eq_some_iff.mp h).1
    by_cases hv : j ∈ vs
    · exact ⟨s, unwipe_of hj (.inl ⟨hv, h⟩)⟩
    · obtain ⟨s', h'⟩ := B.blk.has j s hv h
      exact ⟨s', unwipe_of hj (.inr ⟨hv, h'⟩)⟩
theorem sct_imp {it : SI} {g : SG} {t : ST} {fe : SE} {ts vs : List Nat} (T : TgOk ts g) (hts : ∀ j ∈ ts, j ∈ vs) (σ : L2.St) (H : Hp) (Q : VK) (h : tEv X.K G (zLenSc it g t fe vs) σ H Q) :
    tScT X.K X.prog X.w (tIv X.K G it) (tGv X.K G false ts g) (tTv X.K G t) (tEv X.K G fe) vs σ H fun x H1 => rLenSet X.K X.prog X.w [x] H1 Q := by
  obtain ⟨M, env, r, env', re, q, k⟩ := h
  unfold zLenSc at q
  split at q <;> try cases q
  rename_i ds e1 q1
  split at q <;> try cases q
  rename_i hpl
  split at q <;> try cases q
  rename_i ksF e2 q2
  refine ⟨M, env, ds, e1, re, q1, fun J H1 p1 jok D hD => ?_⟩
  have neD : ∀ b o, H1 b = some o → b ≠ D := fun b o e z => by rw [z, hD] at e; cases e
  have upB : ∀ {H' e}, BK X.K G M σ H1 e1 vs D H' e → Up (NN M σ e1) H1 (NN (fun b => M b ∨ b = D) (wipe σ vs) e) H' := fun {H' e} B b u hu q n => ⟨rd_same hu q fun o nt e => B.fr b o (neD b o e) nt e fun z => n (.inr z), fun z => by
    rcases z with (z | z) | z
    · exact n (.inl z)
    · subst z; exact rd_some q hD
    · exact n (.inr (blk_own B.blk z))⟩
  refine loop_okG (H0 := upd H1 D (SetTO X.prog X.w D [])) (Nn := fun e => NN (fun b => M b ∨ b = D) (wipe σ vs) e) (B := fun H' e ks => BK X.K G M σ H1 e1 vs D H' e ∧ HasT X.prog X.w X.K G (NN (fun b => M b ∨ b = D) (wipe σ vs) e) D H' ks) jok
    (fun H' e ks ⟨B, _⟩ => ⟨upB B, fun b => B.env.liveN⟩) ?_ ?_ q2 ?_
  · intro d x H' H2 e ks out nx ⟨B, hs⟩ sam rx q3 hN
    obtain ⟨L, hL, hm, hk⟩ := hs
    unfold stepSet at q3
    split at q3 <;> try cases q3
    rename_i e3 q4
    refine ⟨fun b => M b ∨ b = D, e, d, e3, B.env.sam sam, (fun z => by cases z), rx, q4, fun σ3 P4 only => ?_⟩
    have hw : wipe σ3 vs = wipe σ vs := wipe_only only hts
    have B3 : Blk vs e1 e3 := B.blk.tg T hts q4
    have P5 : PostS X.K G false (fun b => M b ∨ b = D) (wipe σ vs) H' e σ3 H2 e3 := ((Post.sam B.env sam).st (fun z => by cases z)).trans P4
    have l2 : H2 D = some (SetTO X.prog X.w D L) := sam.k D _ .ext hL
    have fr2 : ∀ {H3 : Hp} {e4 : En}, Post X.K G (fun b => M b ∨ b = D) σ3 H2 e3 H3 e4 → ∀ b o, b ≠ D → NT o → H' b = some o → ¬ Own σ e1 b → H3 b = some o := fun p b o hb nt e n =>
      p.fr.k b o nt (sam.k b o nt e) fun z => n (own_blk hw B3 z)
    refine ⟨hw, ?_⟩
    split at q3 <;> try cases q3
    · rename_i e4 q5
      refine tTv_run P4.env q5 fun H3 p3 => ?_
      rw [if_pos rfl]
      split at q3 <;> try cases q3
      rename_i r5 e5 q6
      split at q3 <;> try cases q3
      rename_i td e6 q7
      split at q3 <;> try cases q3
      rename_i kk q8
      split at q3 <;> try cases q3
      rename_i hz
      refine tEv_run p3.env q6 fun w H4 p4 z4 n4 => ?_
      obtain ⟨p5, z5⟩ := esc_ok p4.env z4 q7
      have pp := (p3.trans p4).trans p5
      have l4 : H4 D = some (SetTO X.prog X.w D L) := pp.fr.k D _ .ext l2 (notOwnD P4.env)
      rw [intsD_of q8] at z5
      obtain ⟨a, us, rfl, _, _⟩ := ofT (.inl z5 : RelT X.K G _ H4 w (.tup (kk.map Dat.int)))
      have hm4 : ∀ p ∈ L, RelD X.K G (NN (fun b => M b ∨ b = D) σ3 e6) H4 (.ref p.1) (.tup (p.2.map Dat.int)) := fun p hp => ((hm p hp).up P5.up).up pp.up
      refine ⟨L, a, kk, rfl, l4, relD_sqT z5, fun p hp => relD_sqT (hm4 p hp), fun nd => ?_, fun L' c1 c2 => hN _ ?_⟩
      · have := nd_len nd fun x hx => (hk x).mp hx
        rw [List.length_map] at this
        omega
      · obtain ⟨a1, a2, a3, a4⟩ := env_at (o' := SetTO X.prog X.w D L') pp.env l4 .ext
        refine ⟨B.next hw a1 (B3.shp pp.shp) (fun b o hb nt e n => (upd_ne hb).trans (fr2 pp b o hb nt e n)) (fun b h => a3 b (pp.fr.l b (P5.fr.l b h))) (fun b h => a4 b (pp.fr.t b (P5.fr.t b h))), L', upd_same, fun p hp => ?_, fun x => ?_⟩
        · have : RelD X.K G (NN (fun b => M b ∨ b = D) σ3 e6) H4 (.ref p.1) (.tup (p.2.map Dat.int)) := by
            by_cases c : kk ∈ L.map (·.2)
            · rw [c1 c] at hp
              exact hm4 p hp
            · rcases List.mem_cons.mp ((c2 c).mem_iff.mp hp) with z | z
              · subst z; exact z5
              · exact hm4 p z
          exact (this.up a2).up (wipe_up hw)
        · by_cases c : kk ∈ L.map (·.2)
          · rw [c1 c, hk, List.mem_cons]
            constructor
            · exact .inr
            · rintro (z | z)
              · rw [z]; exact (hk kk).mp c
              · exact z
          · rw [((c2 c).map (·.2)).mem_iff, List.map_cons, List.mem_cons, List.mem_cons, hk]
    · rename_i e4 q5
      refine tTv_run P4.env q5 fun H3 p3 => ?_
      rw [if_neg Bool.false_ne_true]
      have l3 : H3 D = some (SetTO X.prog X.w D L) := p3.fr.k D _ .ext l2 (notOwnD P4.env)
      exact hN _ ⟨B.next hw p3.env (B3.shp p3.shp) (fr2 p3) (fun b h => p3.fr.l b (P5.fr.l b h)) (fun b h => p3.fr.t b (P5.fr.t b h)), L, l3, fun p hp => (((hm p hp).up P5.up).up p3.up).up (wipe_up hw), hk⟩
  · have r3 := (p1.env.more (Sam.new (o := SetTO X.prog X.w D []) hD) hD (by rw [upd_same]; exact fun z => by cases z)).wipe vs
    exact ⟨⟨r3, Blk.start, fun b o _ nt e _ => (Sam.new hD).k b o nt e, fun b h => (Sam.new hD).live h, fun b h => (Sam.new hD).t b h⟩, [], upd_same, (fun p hp => absurd hp List.not_mem_nil), fun k => Iff.rfl⟩
  · rintro H' ⟨B, L, hL, hm, hk⟩
    refine ⟨D, L, rfl, hL, fun p hp => relD_sqT (hm p hp), fun nd => ?_⟩
    have hz : (L.map (·.2)).length = (dst ksF).length := nd_same nd (dst_nd ksF) fun x => by rw [dst_mem, hk]
    rw [List.length_map] at hz
    rw [← hz] at k
    exact bk_end hpl p1 hD B fun p2 => k _ H' (p1.trans p2) rfl trivial
theorem pz_lenSc {elt tg iter : Expr} {ifs : List Expr} {scope : Scope} {own : List (Str × Nat)} {p pos pos2 : Pos} {it : SI} {g : SG} {t : ST} {fe : SE} {ts : List Nat} (hc : X.calm = true) (hu : X.A.units + 64 < cLine) (hN : X.N.Nodup) (hgl : Gl X "len") (hm : X.mg "len" = none) (hi : PI X tg iter (tIv X.K G it)) (ok : BlkOk X.N X.env.scope scope own)
    (hg : ∀ (s : Shared) (H : Hp) (C : Addr) (cl : List (Str × Addr)) (fp : List Addr), PG (X.blk s H scope (compEnvC scope cl C X.env) fp) tg (tGv X.K G false ts g))
    (ht : ∀ (s : Shared) (H : Hp) (C : Addr) (cl : List (Str × Addr)) (fp : List Addr), PTs (X.blk s H scope (compEnvC scope cl C X.env) fp) ifs (tTv X.K G t))
    (he : ∀ (s : Shared) (H : Hp) (C : Addr) (cl : List (Str × Addr)) (fp : List Addr), PE (X.blk s H scope (compEnvC scope cl C X.env) fp) elt (tEv X.K G fe)) (hs : ∀ x, foldedSetIterable iter X.env x = pure x)
    (T : TgOk ts g) (hts : ∀ j ∈ ts, j ∈ own.map (·.2)) (na : starEach [Expr.SetComp elt [⟨tg, iter, ifs, 0⟩] scope pos2] X.env = (false, eval (Expr.SetComp elt [⟨tg, iter, ifs, 0⟩] scope pos2) X.env) :: starEach [] X.env) :
    PE X (.Call (.Name "len" p) [.SetComp elt [⟨tg, iter, ifs, 0⟩] scope pos2] [] pos) (tEv X.K G (zLenSc it g t fe (own.map (·.2)))) :=
  PE.imp (pe_callB cr_lenSet hgl hm rfl (pa_cons (pe_scT hc hu hN hi ok hg ht he hs) pa_nil na) (by decide) (by decide) na rfl) fun σ H Q h => sct_imp T hts σ H Q h
end
end Zz
end

section
set_option Elab.async false
set_option linter.all false
set_option maxRecDepth 100000
/-! min, max of one list or tuple of ints -/
namespace Zz
open PySem PySem.Spec PyProof.Rows L2 PySem.W
def lowI (x : Int) (xs : List Int) : Int := minOf x xs
def topI (x : Int) (xs : List Int) : Int := maxOf x xs
def gBest (f : Int → List Int → Int) : List Dat → Option R
  | [.lst l] => match intsD l with
    | some (x :: xs) => some (.val (.int (f x xs)))
    | _ => none
  | [.tup l] => match intsD l with
    | some (x :: xs) => some (.val (.int (f x xs)))
    | _ => none
  | _ => none
abbrev gMin1 := gBest lowI
abbrev gMax1 := gBest topI
section
variable {X : Cx} {G : GG}
def rBest (K : PySem.W.Frag) (f : Int → List Int → Int) : List V → Hp → VK → Prop := fun vs H Q => ∃ (a : Addr) (n : Int) (ns : List Int), vs = [V.ref a] ∧ (SqL K H a ((n :: ns).map V.int) ∨ SqT K H a ((n :: ns).map V.int)) ∧ Q (.int (f n ns)) H
theorem cr_low (hc : X.calm = true) (hu : X.A.units + 64 < cLine) : CallR X (.builtin "min") (rBest X.K lowI) := by
  intro pins s σ H xs us Q I r h
  obtain ⟨a, n, ns, rfl, hs, q⟩ := h
  rw [Vals.ref1 r]
  have room : X.A.units + 1 + Datum.depth Int < cLine := by
    have : Datum.depth Int ≤ 8 := by decide
    omega
  rcases hs with hs | hs
  · obtain ⟨its, rv, pl, hz⟩ := I.list hs
    refine min_list_datum (x := n) (xs := ns) (I.ok.hd hc) pl.isList (HoldAll.of_ints (by simpa using rv.ints)) room fun i v h' tk _ hv kp => ?_
    obtain ⟨t, rfl⟩ := int_of_holds hv
    exact ⟨.int _, H, I.kept kp, ⟨_, rfl⟩, q⟩
  · obtain ⟨its, rv, pl, hz⟩ := I.tuple hs
    refine min_tuple_datum (x := n) (xs := ns) (I.ok.hd hc) pl (HoldAll.of_ints (by simpa using rv.ints)) room fun i v h' tk _ hv kp => ?_
    obtain ⟨t, rfl⟩ := int_of_holds hv
    exact ⟨.int _, H, I.kept kp, ⟨_, rfl⟩, q⟩
theorem cr_top (hc : X.calm = true) (hu : X.A.units + 64 < cLine) : CallR X (.builtin "max") (rBest X.K topI) := by
  intro pins s σ H xs us Q I r h
  obtain ⟨a, n, ns, rfl, hs, q⟩ := h
  rw [Vals.ref1 r]
  have room : X.A.units + 1 + Datum.depth Int < cLine := by
    have : Datum.depth Int ≤ 8 := by decide
    omega
  rcases hs with hs | hs
  · obtain ⟨its, rv, pl, hz⟩ := I.list hs
    refine max_list_datum (x := n) (xs := ns) (I.ok.hd hc) pl.isList (HoldAll.of_ints (by simpa using rv.ints)) room fun i v h' tk _ hv kp => ?_
    obtain ⟨t, rfl⟩ := int_of_holds hv
    exact ⟨.int _, H, I.kept kp, ⟨_, rfl⟩, q⟩
  · obtain ⟨its, rv, pl, hz⟩ := I.tuple hs
    refine max_tuple_datum (x := n) (xs := ns) (I.ok.hd hc) pl (HoldAll.of_ints (by simpa using rv.ints)) room fun i v h' tk _ hv kp => ?_
    obtain ⟨t, rfl⟩ := int_of_holds hv
    exact ⟨.int _, H, I.kept kp, ⟨_, rfl⟩, q⟩
theorem best_imp {f : Int → List Int → Int} {N : Addr → Prop} {vs : List V} {ds : List Dat} {r : R} {H : Hp} {Q : VK} (h : Paired (fun v d => RelT X.K G N H v d) vs ds)
    (q : gBest f ds = some r) (k : ∀ v H', Sam H H' → Res0 X.K G N H v H' r → Q v H')   : rBest X.K f vs H Q := by
  unfold gBest at q
  split at q <;> try cases q
  · rename_i l
    split at q <;> try cases q
    rename_i n ns e
    obtain ⟨v, rfl, h0⟩ := one_of h
    obtain ⟨a, us, rfl, s1, h1⟩ := ofL h0
    rw [intsD_rel e h1] at s1
    exact ⟨a, n, ns, rfl, .inl s1, k _ H (.refl H) rfl⟩
  · rename_i l
    split at q <;> try cases q
    rename_i n ns e
    obtain ⟨v, rfl, h0⟩ := one_of h
    obtain ⟨a, us, rfl, s1, h1⟩ := ofT h0
    rw [intsD_rel e h1] at s1
    exact ⟨a, n, ns, rfl, .inr s1, k _ H (.refl H) rfl⟩
theorem cz_min1 (hc : X.calm = true) (hu : X.A.units + 64 < cLine) : CallZ X G (.builtin "min") gMin1 := ⟨_, cr_low hc hu, fun N vs ds r H Q hl h q k => best_imp h q k⟩
theorem cz_max1 (hc : X.calm = true) (hu : X.A.units + 64 < cLine) : CallZ X G (.builtin "max") gMax1 := ⟨_, cr_top hc hu, fun N vs ds r H Q hl h q k => best_imp h q k⟩
end
end Zz
end

section
set_option Elab.async false
set_option linter.all false
set_option maxRecDepth 100000
/-! generator expressions of two clauses -/
namespace Zz
open PySem PySem.Spec PyProof.Rows L2
abbrev gx2 (elt tg iter tg1 iter1 : Expr) (ifs ifs1 : List Expr) (scope : Scope) (pos : Pos) : Expr := .GeneratorExp elt [⟨tg, iter, ifs, 0⟩, ⟨tg1, iter1, ifs1, 0⟩] scope pos
theorem turn_gx0 (elt tg iter tg1 iter1 : Expr) (ifs ifs1 : List Expr) (scope : Scope) (pos : Pos) (it acc : Value) (env : Env) :
    compTurn (gx2 elt tg iter tg1 iter1 ifs ifs1 scope pos) 0 it acc env = (do
      standAt iter.pos
      match ← pyNext it with
      | none => pure (.done .next)
      | some u =>
        letOwnedTupleGo tg it u
        assign tg env u
        let mut go := true
        for c in ifs do
          if go then go ← isTrue c env (eval c env)
        if go then
          let z ← eval iter1 env
          standAt iter1.pos
          let z ← foldedSetIterable iter1 env z
          let _ ← runOwn (.compStart (gx2 elt tg iter tg1 iter1 ifs ifs1 scope pos) 1 (← holding [z] (pyIter z)) acc env) env
        again (.compLoop (gx2 elt tg iter tg1 iter1 ifs ifs1 scope pos) 0 it acc env)) := by rfl
theorem turn_gx1 (elt tg iter tg1 iter1 : Expr) (ifs ifs1 : List Expr) (scope : Scope) (pos : Pos) (it acc : Value) (env : Env) :
    compTurn (gx2 elt tg iter tg1 iter1 ifs ifs1 scope pos) 1 it acc env = (do
      standAt iter1.pos
      match ← pyNext it with
      | none => pure (.done .next)
      | some u =>
        letOwnedTupleGo tg1 it u
        assign tg1 env u
        let mut go := true
        for c in ifs1 do
          if go then go ← isTrue c env (eval c env)
        if go then
          (do let z ← eval elt env; standAt elt.pos; let _ ← yieldOut env z)
        again (.compLoop (gx2 elt tg iter tg1 iter1 ifs ifs1 scope pos) 1 it acc env)) := by rfl
/-- what of FpOk no turn changes -/
def FpSt (X : Cx) (ps : List (Addr × Obj)) (b : Addr) : Prop := b ≠ X.env.locals ∧ b ∉ X.fs ∧ (b ∈ X.ex ∨ X.s_0.heap.objs.size ≤ b) ∧ (∀ x c, X.env.cells.lookup x = some c → c ≠ b) ∧ ∀ p ∈ X.pn ++ ps, p.1 ≠ b
section
variable {X : Cx} {A : Around} {o : Option Addr} {Y : YP} {Q Q0 : List V → Hp → Prop} {elt tg iter tg1 iter1 : Expr} {ifs ifs1 : List Expr} {scope : Scope} {pos : Pos} {it : Addr} {fp : List Addr} {tn : Nat → Heap → Prop} {J : It} {g : TG} {tt : TT} {te : TE} {vs : List Nat} {σ : L2.St} {W : Nat → Nat → List V → Hp → Prop} {ip : List (Addr × Obj)} {fs : List Frame}
/-- the second clause's loop, on top of the first's -/
theorem gx_in (hc : X.calm = true) (hov : A.over (.compLoop (gx2 elt tg iter tg1 iter1 ifs ifs1 scope pos) 1 (.ref it) .none X.env) fs = X.A) (hsp : splitAtGen fs = none) (hgd : fs.any Frame.guarded = false) (T : Turn X.prog X.w X.K tg1 J fp it tn) (hxe : X.xe = fun _ _ => False) (hco : X.env.scope.isCoroutine = false)
    (hfp : ∀ b ∈ fp, FpSt X ip b) (ho : ∀ S, o = some S → (∀ p ∈ X.pn, p.1 ≠ S) ∧ S ∉ fp ∧ (∀ p ∈ ip, p.1 ≠ S) ∧ Apart X S) (pg : PG X tg1 g) (pt : PTs X ifs1 tt) (pe : PE X elt te) (hY : YMono Y) (turn : GTurns J g tt te Y Q vs σ W)
    (hend : ∀ (n : Nat) (ys : List V) (s₀ s : Shared) (H : Hp), n + ys.length = sizeLine → GIx X o ip ys (wipe σ vs) H s → Q ys H →
      Seg (model X.prog X.w) A (PR X o Q0) (PY X o Y) n s₀ (.compLoop (gx2 elt tg iter tg1 iter1 ifs ifs1 scope pos) 1 (.ref it) .none X.env) (leafOf (.ok .next)) fs s) :
    ∀ (m i n : Nat) (ys : List V) (s₀ s : Shared) (H : Hp), n + ys.length = sizeLine → W i m ys H → GIx X o ip ys (wipe σ vs) H s → tn i s.heap → (∀ b ∈ fp, H b = none) →
    Seg (model X.prog X.w) A (PR X o Q0) (PY X o Y) n s₀ (.compLoop (gx2 elt tg iter tg1 iter1 ifs ifs1 scope pos) 1 (.ref it) .none X.env)
      ((model X.prog X.w).den (.compLoop (gx2 elt tg iter tg1 iter1 ifs ifs1 scope pos) 1 (.ref it) .none X.env)) fs s := by
  intro m
  induction m using Nat.strongRecOn with
  | ind m ih =>
    intro i n ys s₀ s H hn w hI st nf
    show Seg _ A _ _ _ s₀ _ ((compTurn (gx2 elt tg iter tg1 iter1 ifs ifs1 scope pos) 1 (.ref it) .none X.env).onRaise (fun x => do noteFrame x X.env; theTreesLotGoes x)) fs s
    rw [turn_gx1, Sem.onRaise_eq_wrap]
    refine seg_bind_wrap (wpAny_standAt ?_)
    obtain ⟨acc, cc, r, I⟩ := hI
    have stat : ∀ {H' : Hp} {acc' : Array Value} {c' : Nat}, (∀ b ∈ fp, H' b = none) → ∀ b ∈ fp, FpOk X (oPins o acc' c' ++ ip) H' b := fun {H' acc' c'} hn' b hb => by
      obtain ⟨a1, a2, a3, a4, a5⟩ := hfp b hb
      refine ⟨hn' b hb, a1, a2, a3, a4, fun p hp z => ?_⟩
      rcases List.mem_append.mp hp with hp | hp
      · exact a5 p (List.mem_append_left _ hp) z
      · rcases List.mem_append.mp hp with hp | hp
        · cases o with
          | none => cases hp
          | some S =>
            have e : p = (S, lstObj acc' c') := by simpa [oPins] using hp
            exact (ho S rfl).2.1 (by rw [show S = b by rw [← z, e]]; exact hb)
        · exact a5 p (List.mem_append_right _ hp) z
    have hxF : ∀ {α : Type} {t : Sem α} {Q' : α → Shared → Prop} {s' : Shared}, wpAny (model X.prog X.w) X.A t Q' X.xe s' → wpAny (model X.prog X.w) X.A t Q' (fun _ _ => False) s' := fun h => by rw [hxe] at h; exact h
    rcases turn i m ys H w with ⟨stop, qq⟩ | ⟨go, Nx, hNx, step⟩
    · refine seg_bind_wrap ?_
      rw [hov]
      refine thnF (T.done X rfl rfl rfl hc i _ s _ H (fun _ _ => False) I (stat nf) st stop) fun u s1 ⟨hu, I1⟩ => ?_
      subst hu
      exact hend n ys _ _ H hn ⟨acc, cc, r, I1⟩ qq
    · refine seg_bind_wrap ?_
      rw [hov]
      refine thnF (T.item X rfl rfl rfl hc i _ s _ H (fun _ _ => False) I (stat nf) st go) fun u0 s1 ⟨u, hu, h1⟩ => ?_
      subst hu
      refine seg_bind_wrap ?_
      rw [hov]
      refine thnF h1 fun _ s2 ⟨x, H2, I2, r2, y2, st2, nf2⟩ => ?_
      have I3 := I2.pinned (stat nf2) (T.obj _ _ st2)
      rw [List.append_assoc] at I3
      refine seg_bind_wrap ?_
      rw [hov]
      refine thnF (hxF (pg.run _ s2 _ H2 x u _ I3 r2 (step x H2 y2))) fun _ s3 ⟨σ3, H3, I4, hw, q4⟩ => ?_
      refine seg_bind_wrap ?_
      rw [hov]
      refine thnF (hxF (pt.run _ s3 σ3 H3 _ I4 q4)) fun b s4 ⟨H4, I5, q5⟩ => ?_
      have fin : ∀ {ys' : List V} {n' : Nat} {s₀' s' : Shared} {H' : Hp}, n' + ys'.length = sizeLine → GIx X o (ip ++ pinsAt fp s2.heap) ys' σ3 H' s' → Nx ys' H' →
          Seg (model X.prog X.w) A (PR X o Q0) (PY X o Y) n' s₀' (.compLoop (gx2 elt tg iter tg1 iter1 ifs ifs1 scope pos) 1 (.ref it) .none X.env)
            (.pure (.again (.compLoop (gx2 elt tg iter tg1 iter1 ifs ifs1 scope pos) 1 (.ref it) .none X.env))) fs s' := fun {ys' n' s₀' s' H'} hn' hI' nx => by
        obtain ⟨m', hm, w'⟩ := hNx ys' H' nx
        have I' := hI'.inv
        obtain ⟨acc', c', r', Ia⟩ := hI'
        have pin' : ∀ b ∈ fp, ∀ ob, s2.heap.get? b = some ob → s'.heap.get? b = some ob ∧ H' b = none := fun b hb ob e =>
          let z := I'.pin (b, ob) (List.mem_append_right _ (List.mem_append_right _ (mem_pinsAt hb e)))
          ⟨z.1, z.2.1⟩
        have hl : (wipe σ vs).length = σ3.length := by rw [← hw, wipe_length]
        have Iu : Inv X (oPins o acc' c' ++ ip) (wipe σ vs) H' s' := by
          refine (Ia.pins_of fun p hp => Ia.pin p (List.mem_append_right _ ?_)).weak hl fun j v e => ?_
          · rcases List.mem_append.mp hp with z | z
            · exact List.mem_append_left _ z
            · exact List.mem_append_right _ (List.mem_append_left _ z)
          · rw [← hw] at e
            exact (wipe_some e).1
        refine seg_again rfl (ih m' hm (i + 1) n' ys' s₀' s' H' hn' w' ⟨acc', c', r', Iu⟩ (T.keep _ _ _ st2 fun b hb ob e => (pin' b hb ob e).1) fun b hb => ?_)
        obtain ⟨ob, e, _⟩ := T.obj _ _ st2 b hb
        exact (pin' b hb ob e).2
      cases b with
      | false =>
        rw [if_neg Bool.false_ne_true] at q5
        simp only [Bool.false_eq_true, if_false]
        exact fin hn ⟨acc, cc, r, I5⟩ q5
      | true =>
        rw [if_pos rfl] at q5
        simp only [if_true]
        have hy : ∀ v, yieldOut X.env v = yieldValue v := fun v => by simp only [yieldOut, hco, Bool.false_eq_true, if_false]
        simp only [hy]
        rw [Sem.bind_eq_wrap', Sem.bind_eq_wrap', Sem.wrap_wrap, Sem.wrap_wrap]
        refine seg_wrap ?_
        rw [hov]
        refine thnF (hxF (pe.run _ s4 σ3 H4 _ I5 q5)) fun v s5 ⟨y, H5, I6, ry, hlt, hyp⟩ => ?_
        obtain ⟨n', rfl⟩ : ∃ k, n = k + 1 := ⟨n - 1, by omega⟩
        refine seg_at (seg_yield hsp rfl hgd ?_)
        have G : GIx X o (ip ++ pinsAt fp s2.heap) ys σ3 H5 s5 := ⟨acc, cc, r, I6⟩
        refine ⟨ip ++ pinsAt fp s2.heap, ys, y, σ3, H5, hn, ry, G, hY _ _ _ _ _ (fun nx s' z => ?_) hyp⟩
        refine fin ?_ (G.woken (fun S e => ⟨(ho S e).1, fun p hp q => ?_, (ho S e).2.2.2⟩) ry z) nx
        · rw [List.length_append, List.length_singleton]
          omega
        · rcases List.mem_append.mp hp with z | z
          · exact (ho S e).2.2.1 p z q
          · exact (ho S e).2.1 (by rw [← q]; exact (of_pinsAt z).1)
end
end Zz
end

section
set_option Elab.async false
set_option linter.all false
set_option maxRecDepth 100000
namespace Zz
open PySem PySem.Spec PyProof.Rows L2
/-- the turns of two clauses -/
def GTurns2 (J : It) (g : TG) (tt : TT) (wi1 : TI) (g1 : TG) (tt1 : TT) (te : TE) (Y : YP) (Q : List V → Hp → Prop) (vs vs1 : List Nat) (σ : L2.St) (W : Nat → Nat → List V → Hp → Prop) : Prop := ∀ i m ys H, W i m ys H →
  (J.stop i H ∧ Q ys H) ∨ (J.go i H ∧ ∃ Nx : List V → Hp → Prop, (∀ ys' H', Nx ys' H' → ∃ m', m' < m ∧ W (i + 1) m' ys' H') ∧ ∀ x H', J.yld i H x H' → g x (wipe σ vs) H' fun σ2 H2 => wipe σ2 vs = wipe σ vs ∧ tt σ2 H2 fun b H3 =>
    if b = true then wi1 σ2 H3 fun J1 H4 => ∃ W1 : Nat → Nat → List V → Hp → Prop, (∃ m, W1 0 m ys H4) ∧ GTurns J1 g1 tt1 te Y Nx vs1 σ2 W1 else Nx ys H3)
section
variable {X : Cx} {A : Around} {o : Option Addr} {Y : YP} {Q : List V → Hp → Prop} {elt tg iter tg1 iter1 : Expr} {ifs ifs1 : List Expr} {scope : Scope} {pos : Pos} {it : Addr} {fp : List Addr} {tn : Nat → Heap → Prop} {J : It} {g g1 : TG} {tt tt1 : TT} {te : TE} {wi1 : TI} {vs vs1 : List Nat} {σ : L2.St} {W : Nat → Nat → List V → Hp → Prop}
theorem gx_start1 {R : GenEnd} {Yp : Protocol} {it1 : Addr} {fp1 : List Addr} {tn1 : Nat → Heap → Prop} {J1 : It} {fs : List Frame} {i n : Nat} {s₀ s : Shared} (T1 : Turn X.prog X.w X.K tg1 J1 fp1 it1 tn1) (st : tn1 i s.heap)
    (loop : Seg (model X.prog X.w) A R Yp n s₀ (.compLoop (gx2 elt tg iter tg1 iter1 ifs ifs1 scope pos) 1 (.ref it1) .none X.env) ((model X.prog X.w).den (.compLoop (gx2 elt tg iter tg1 iter1 ifs ifs1 scope pos) 1 (.ref it1) .none X.env)) fs s) :
    Seg (model X.prog X.w) A R Yp n s₀ (.compStart (gx2 elt tg iter tg1 iter1 ifs ifs1 scope pos) 1 (.ref it1) .none X.env) ((model X.prog X.w).den (.compStart (gx2 elt tg iter tg1 iter1 ifs ifs1 scope pos) 1 (.ref it1) .none X.env)) fs s := by
  show Seg _ A _ _ _ s₀ _ ((compStart (gx2 elt tg iter tg1 iter1 ifs ifs1 scope pos) 1 (.ref it1) .none X.env).onRaise (fun x => do noteFrame x X.env; standAt theWindowsPlace)) fs s
  unfold compStart
  rw [Sem.onRaise_eq_wrap]
  show Seg _ A _ _ _ s₀ _ ((ask >>= _).wrap _ _ _ _) fs s
  refine seg_bind_wrap (wpAny_askSetting ?_)
  split
  · exact seg_again rfl loop
  · refine seg_bind_wrap (wpAny_rule ?_)
    refine seg_bind_wrap (wpAny_standAt ?_)
    exact seg_bind_wrap (T1.self _ _ _ _ _ st (seg_again rfl loop))
theorem gx_out (hc : X.calm = true) (hov : A.over (.compLoop (gx2 elt tg iter tg1 iter1 ifs ifs1 scope pos) 0 (.ref it) .none X.env) [] = X.A) (T : Turn X.prog X.w X.K tg J fp it tn) (hex : X.ex = fp) (hxe : X.xe = fun _ _ => False) (hco : X.env.scope.isCoroutine = false)
    (hpf : ∀ p ∈ X.pn, p.1 ∉ fp) (ho : ∀ S, o = some S → (∀ p ∈ X.pn, p.1 ≠ S) ∧ S ∉ fp ∧ Apart X S) (hv : ∀ j ∈ vs1, j ∈ vs) (pg : PG X tg g) (pt : PTs X ifs tt) (pi1 : PI X tg1 iter1 wi1) (hs1 : ∀ v, foldedSetIterable iter1 X.env v = pure v) (pg1 : PG X tg1 g1) (pt1 : PTs X ifs1 tt1) (pe : PE X elt te) (hY : YMono Y) (turn : GTurns2 J g tt wi1 g1 tt1 te Y Q vs vs1 σ W) :
    ∀ (m i n : Nat) (ys : List V) (s₀ s : Shared) (H : Hp), n + ys.length = sizeLine → W i m ys H → GIx X o [] ys (wipe σ vs) H s → tn i s.heap → (∀ b ∈ fp, H b = none) →
    Seg (model X.prog X.w) A (PR X o Q) (PY X o Y) n s₀ (.compLoop (gx2 elt tg iter tg1 iter1 ifs ifs1 scope pos) 0 (.ref it) .none X.env)
      ((model X.prog X.w).den (.compLoop (gx2 elt tg iter tg1 iter1 ifs ifs1 scope pos) 0 (.ref it) .none X.env)) [] s := by
  intro m
  induction m using Nat.strongRecOn with
  | ind m ih =>
    intro i n ys s₀ s H hn w hI st nf
    show Seg _ A _ _ _ s₀ _ ((compTurn (gx2 elt tg iter tg1 iter1 ifs ifs1 scope pos) 0 (.ref it) .none X.env).onRaise (leaving X.env)) [] s
    rw [turn_gx0, Sem.onRaise_eq_wrap]
    refine seg_bind_wrap (wpAny_standAt ?_)
    obtain ⟨acc, cc, r, I⟩ := hI
    have stat : ∀ {σ' : L2.St} {H' : Hp} {s' : Shared} {acc' : Array Value} {c' : Nat}, Inv X (oPins o acc' c' ++ []) σ' H' s' → (∀ b ∈ fp, H' b = none) → ∀ b ∈ fp, FpOk X (oPins o acc' c' ++ []) H' b := fun {σ' H' s' acc' c'} I' hn' b hb => by
      have hbx : b ∈ X.ex := by rw [hex]; exact hb
      refine ⟨hn' b hb, (I'.ok.exf b hbx).1, I'.ok.exfs b hbx, .inl hbx, fun x c e => (I'.ok.exf b hbx).2 x c e, fun p hp z => ?_⟩
      rcases List.mem_append.mp hp with hp | hp
      · exact hpf p hp (by rw [z]; exact hb)
      · rw [List.append_nil] at hp
        cases o with
        | none => cases hp
        | some S =>
          have e : p = (S, lstObj acc' c') := by simpa [oPins] using hp
          exact (ho S rfl).2.1 (by rw [show S = b by rw [← z, e]]; exact hb)
    have hxF : ∀ {α : Type} {t : Sem α} {Q' : α → Shared → Prop} {s' : Shared}, wpAny (model X.prog X.w) X.A t Q' X.xe s' → wpAny (model X.prog X.w) X.A t Q' (fun _ _ => False) s' := fun h => by rw [hxe] at h; exact h
    rcases turn i m ys H w with ⟨stop, qq⟩ | ⟨go, Nx, hNx, step⟩
    · refine seg_bind_wrap ?_
      rw [hov]
      refine thnF (T.done X rfl rfl rfl hc i _ s _ H (fun _ _ => False) I (stat I nf) st stop) fun u s1 ⟨hu, I1⟩ => ?_
      subst hu
      exact seg_end (.ok .next) ⟨rfl, ys, _, H, hn, ⟨acc, cc, r, I1⟩, qq⟩
    · refine seg_bind_wrap ?_
      rw [hov]
      refine thnF (T.item X rfl rfl rfl hc i _ s _ H (fun _ _ => False) I (stat I nf) st go) fun u0 s1 ⟨u, hu, h1⟩ => ?_
      subst hu
      refine seg_bind_wrap ?_
      rw [hov]
      refine thnF h1 fun _ s2 ⟨x, H2, I2, r2, y2, st2, nf2⟩ => ?_
      have I3 := I2.pinned (stat I2 nf2) (T.obj _ _ st2)
      rw [List.append_nil] at I3
      refine seg_bind_wrap ?_
      rw [hov]
      refine thnF (hxF (pg.run _ s2 _ H2 x u _ I3 r2 (step x H2 y2))) fun _ s3 ⟨σ3, H3, I4, hw, q4⟩ => ?_
      refine seg_bind_wrap ?_
      rw [hov]
      refine thnF (hxF (pt.run _ s3 σ3 H3 _ I4 q4)) fun b s4 ⟨H4, I5, q5⟩ => ?_
      have hl3 : (wipe σ vs).length = σ3.length := by rw [← hw, wipe_length]
      -- the turn's end
      have fin : ∀ {ys' : List V} {n' : Nat} {s₀' s' : Shared} {H' : Hp} {σ9 : L2.St}, (wipe σ vs).length = σ9.length → (∀ (j : Nat) v, (wipe σ vs)[j]? = some (some v) → σ9[j]? = some (some v)) → n' + ys'.length = sizeLine → GIx X o (pinsAt fp s2.heap) ys' σ9 H' s' → Nx ys' H' →
          Seg (model X.prog X.w) A (PR X o Q) (PY X o Y) n' s₀' (.compLoop (gx2 elt tg iter tg1 iter1 ifs ifs1 scope pos) 0 (.ref it) .none X.env)
            (.pure (.again (.compLoop (gx2 elt tg iter tg1 iter1 ifs ifs1 scope pos) 0 (.ref it) .none X.env))) [] s' := fun {ys' n' s₀' s' H' σ9} hl hk hn' hI' nx => by
        obtain ⟨m', hm, w'⟩ := hNx ys' H' nx
        have I' := hI'.inv
        obtain ⟨acc', c', r', Ia⟩ := hI'
        have pin' : ∀ b ∈ fp, ∀ ob, s2.heap.get? b = some ob → s'.heap.get? b = some ob ∧ H' b = none := fun b hb ob e =>
          let z := I'.pin (b, ob) (List.mem_append_right _ (mem_pinsAt hb e))
          ⟨z.1, z.2.1⟩
        have Iu : Inv X (oPins o acc' c' ++ []) (wipe σ vs) H' s' := by
          refine (Ia.pins_of fun p hp => Ia.pin p (List.mem_append_right _ (List.mem_append_left _ ?_))).weak hl hk
          rw [List.append_nil] at hp
          exact hp
        refine seg_again rfl (ih m' hm (i + 1) n' ys' s₀' s' H' hn' w' ⟨acc', c', r', Iu⟩ (T.keep _ _ _ st2 fun b hb ob e => (pin' b hb ob e).1) fun b hb => ?_)
        obtain ⟨ob, e, _⟩ := T.obj _ _ st2 b hb
        exact (pin' b hb ob e).2
      have hk3 : ∀ (j : Nat) v, (wipe σ vs)[j]? = some (some v) → σ3[j]? = some (some v) := fun j v e => by
        rw [← hw] at e
        exact (wipe_some e).1
      have hk4 : ∀ (j : Nat) v, (wipe σ vs)[j]? = some (some v) → (wipe σ3 vs1)[j]? = some (some v) := fun j v e => by
        rw [← hw] at e
        obtain ⟨e1, e2⟩ := wipe_some e
        rw [wipe_out fun z => e2 (hv j z)]
        exact e1
      cases b with
      | false =>
        rw [if_neg Bool.false_ne_true] at q5
        simp only [Bool.false_eq_true, if_false]
        exact fin hl3 hk3 hn ⟨acc, cc, r, I5⟩ q5
      | true =>
        rw [if_pos rfl] at q5
        simp only [if_true]
        refine seg_bind_wrap ?_
        rw [hov]
        refine thnF (hxF (pi1.run _ s4 σ3 H4 _ I5 q5)) fun xv s5 hx => ?_
        refine seg_bind_wrap (wpAny_standAt ?_)
        rw [hs1]
        refine seg_bind_wrap (wpAny_pure ?_)
        refine seg_bind_wrap (wpAny_holding ?_)
        rw [hov]
        refine thnF (hxF hx) fun itv s6 h6 => ?_
        obtain ⟨it1, fp1, tn1, J1, H6, rfl, I6, T1, st6, f6, W1, ⟨m1, w1⟩, turn1⟩ := h6
        rw [Sem.bind_eq_wrap', Sem.wrap_wrap]
        have fpS : ∀ b ∈ fp1, FpSt X (pinsAt fp s2.heap) b := fun b hb => by
          obtain ⟨_, a1, a2, a3, a4, a5⟩ := f6 b hb
          refine ⟨a1, a2, a3, a4, fun p hp => a5 p ?_⟩
          rcases List.mem_append.mp hp with z | z
          · exact List.mem_append_left _ z
          · exact List.mem_append_right _ (List.mem_append_right _ z)
        have ho1 : ∀ S, o = some S → (∀ p ∈ X.pn, p.1 ≠ S) ∧ S ∉ fp1 ∧ (∀ p ∈ pinsAt fp s2.heap, p.1 ≠ S) ∧ Apart X S := fun S e => by
          refine ⟨(ho S e).1, fun z => ?_, fun p hp q => (ho S e).2.1 (by rw [← q]; exact (of_pinsAt hp).1), (ho S e).2.2⟩
          obtain ⟨_, _, _, _, _, a5⟩ := f6 S z
          subst e
          exact a5 (S, lstObj acc cc) (List.mem_append_right _ (List.mem_append_left _ List.mem_cons_self)) rfl
        have G0 : GIx X o (pinsAt fp s2.heap) ys (wipe σ3 vs1) H6 s6 := ⟨acc, cc, r, I6.weak (wipe_length _ _) fun j v e => (wipe_some e).1⟩
        refine seg_call fun p => ?_
        refine gx_start1 T1 st6 (gx_in (tn := tn1) hc ((GenW.over_loop rfl rfl).trans hov) rfl rfl T1 hxe hco fpS ho1 pg1 pt1 pe hY turn1 (fun n' ys' s₀' s' H' hn' G' q' => seg_leaf (.ok .next) (fin (hl3.trans (wipe_length σ3 vs1).symm) hk4 hn' G' q')) m1 0 n ys s₀ s6 H6 hn w1 G0 st6 fun b hb => (f6 b hb).1)
end
end Zz
end

section
set_option Elab.async false
set_option linter.all false
set_option maxRecDepth 100000
namespace Zz
open PySem PySem.Spec PyProof.Rows L2
section
variable {X : Cx} {A : Around} {o : Option Addr} {Y : YP} {Q : List V → Hp → Prop} {elt tg iter tg1 iter1 : Expr} {ifs ifs1 : List Expr} {scope : Scope} {pos : Pos} {it : Addr} {fp : List Addr} {tn : Nat → Heap → Prop} {J : It} {g g1 : TG} {tt tt1 : TT} {te : TE} {wi1 : TI} {vs vs1 : List Nat} {σ : L2.St} {W : Nat → Nat → List V → Hp → Prop}
theorem gx_start2 (hc : X.calm = true) (hov : A.over (.compLoop (gx2 elt tg iter tg1 iter1 ifs ifs1 scope pos) 0 (.ref it) .none X.env) [] = X.A)
    (hov0 : A.over (.compStart (gx2 elt tg iter tg1 iter1 ifs ifs1 scope pos) 0 (.ref it) .none X.env) [] = X.A) (T : Turn X.prog X.w X.K tg J fp it tn) (hex : X.ex = fp) (hxe : X.xe = fun _ _ => False) (hco : X.env.scope.isCoroutine = false)
    (hpf : ∀ p ∈ X.pn, p.1 ∉ fp) (ho : ∀ S, o = some S → (∀ p ∈ X.pn, p.1 ≠ S) ∧ S ∉ fp ∧ Apart X S) (hv : ∀ j ∈ vs1, j ∈ vs) (pg : PG X tg g) (pt : PTs X ifs tt) (pi1 : PI X tg1 iter1 wi1) (hs1 : ∀ v, foldedSetIterable iter1 X.env v = pure v) (pg1 : PG X tg1 g1) (pt1 : PTs X ifs1 tt1) (pe : PE X elt te) (hY : YMono Y) (turn : GTurns2 J g tt wi1 g1 tt1 te Y Q vs vs1 σ W)
    {m n : Nat} {s₀ s : Shared} {H : Hp} (hn : n = sizeLine) (w : W 0 m [] H) (hI : GIx X o [] [] (wipe σ vs) H s) (st : tn 0 s.heap) (nf : ∀ b ∈ fp, H b = none) :
    Seg (model X.prog X.w) A (PR X o Q) (PY X o Y) n s₀ (.compStart (gx2 elt tg iter tg1 iter1 ifs ifs1 scope pos) 0 (.ref it) .none X.env)
      ((model X.prog X.w).den (.compStart (gx2 elt tg iter tg1 iter1 ifs ifs1 scope pos) 0 (.ref it) .none X.env)) [] s := by
  have loop := gx_out (pos := pos) (iter := iter) (scope := scope) hc hov T hex hxe hco hpf ho hv pg pt pi1 hs1 pg1 pt1 pe hY turn m 0 n [] s₀ s H (by rw [hn]; rfl) w hI st nf
  show Seg _ A _ _ _ s₀ _ ((compStart (gx2 elt tg iter tg1 iter1 ifs ifs1 scope pos) 0 (.ref it) .none X.env).onRaise (leaving X.env)) [] s
  unfold compStart
  rw [Sem.onRaise_eq_wrap]
  show Seg _ A _ _ _ s₀ _ ((ask >>= _).wrap _ _ _ _) [] s
  refine seg_bind_wrap (wpAny_askSetting ?_)
  split
  · exact seg_again rfl loop
  · refine seg_bind_wrap (wpAny_rule ?_)
    refine seg_bind_wrap (wpAny_standAt ?_)
    exact seg_bind_wrap (T.self _ _ _ _ _ st (seg_again rfl loop))
theorem eval_gx2 (env : Env) (hco : scope.isCoroutine = false) :
    eval (gx2 elt tg iter tg1 iter1 ifs ifs1 scope pos) env = (do
      let z ← eval iter env
      standAt iter.pos
      let z ← genFold iter env z
      let it ← holding [z] (pyIter z)
      enterFrame
      let cl ← closureFor scope env
      let cd ← genexprCode env pos (env.qual ++ "<genexpr>") scope
      let bi ← builtinsFor env.globals env.builtins
      let cenv ← newFunctionEnv scope env.globals cl [(".0", it)] (env.qual ++ "<genexpr>.") none cd none bi
      newGenerator (.compStart (gx2 elt tg iter tg1 iter1 ifs ifs1 scope pos) 0 it .none cenv) "<genexpr>" (env.qual ++ "<genexpr>")) := by
  rw [arm_eval_GeneratorExp]
  simp only [hco, Bool.false_eq_true, if_false]
  cases iter <;> rfl
theorem gx2_new {M : Model} {E : Value → Shared → Prop} {s : Shared} {env : Env} {cl : List (Str × Addr)} {Q : Value → Shared → Prop}
    (hco : scope.isCoroutine = false) (hclos : closureFor scope env = pure cl) (hcell : ∀ y ∈ scope.names, y.2 ≠ .cell) (h0 : scope.names.lookup (".0" : Str) = some NameKind.local) (hkind : scope.kind = .function) (hroom : A.depth < recursionLimit)
    (h : wpAny M A (eval iter env) (fun xv sa => wpAny M A (pyIter xv) (fun it sb => sb.heap.NoLimit ∧ wpAny M A (genexprCode env pos (env.qual ++ "<genexpr>") scope) (fun cd sc => wpAny M A (builtinsFor env.globals env.builtins) (fun bi sd =>
      ∀ h', h'.Ns sd.heap.objs.size (fun y => if y = ".0" then some it else none) → Heap.SameBut sd.heap.objs.size (sd.heap.push { cls := .type "frame", data := .dict #[] }) h' →
        Q (.ref h'.objs.size) { sd with
            gens := sd.gens.push (.fresh (.compStart (gx2 elt tg iter tg1 iter1 ifs ifs1 scope pos) 0 it .none (genEnv scope cl sd.heap.objs.size cd bi env))),
            toks := sd.toks + 1 + 1 + 1, heap := h'.push { cls := .type "generator", data := .fields #[.int sd.gens.size 0, .str "<genexpr>" (sd.toks + 1), .str (env.qual ++ "<genexpr>") (sd.toks + 1 + 1)] } }) E sc) E sb) E sa) E s)
    (hs : ∀ v, genFold iter env v = pure v) : wpAny M A (eval (gx2 elt tg iter tg1 iter1 ifs ifs1 scope pos) env) Q E s := by
  rw [eval_gx2 _ hco, hclos]
  refine wpAny_bind (wpAny_mono h (fun xv sa ha => ?_) fun _ _ e => e)
  refine wpAny_bind (wpAny_standAt (wpAny_bind (wpAny_of_eq (hs xv) ?_)))
  refine wpAny_bind (wpAny_holding (wpAny_mono ha (fun it sb hb => ?_) fun _ _ e => e))
  refine wpAny_bind (wpAny_enterFrame hb.1 hroom (wpAny_bind (wpAny_pure (wpAny_bind (wpAny_mono hb.2 (fun cd sc hC => ?_) fun _ _ e => e)))))
  refine wpAny_bind (wpAny_mono hC (fun bi sd hd => ?_) fun _ _ e => e)
  have dot : ∀ y ∈ ([((".0" : Str), it)] : List (Str × Value)), scope.names.lookup y.1 = some NameKind.local := fun y hy => by
    rw [List.mem_singleton.mp hy]
    exact h0
  refine wpAny_bind (wpAny_newFunctionEnv hcell dot (fun h' hn' hs' => ?_) hkind)
  have one : (fun y : Str => ([((".0" : Str), it)] : List (Str × Value)).reverse.lookup y) = fun y : Str => if y = (".0" : Str) then some it else none := by
    funext y
    by_cases hy : y = ".0"
    · subst hy; simp
    · have q : (y == (".0" : Str)) = false := by simpa using hy
      simp [List.lookup, q, hy]
  rw [one] at hn'
  simp only [newGenerator, newFields]
  refine wpAny_bind (wpAny_newGen (wpAny_bind (wpAny_mkText (wpAny_bind (wpAny_mkText (wpAny_newObj_type ?_ (by size_fits)))))))
  exact hd h' hn' hs'
end
/-- a generator expression that nobody has asked yet, by its turns -/
structure GMq (X : Cx) (k : Nat) (sc : Shared) (H : Hp) (fp : List Addr) (TP : YP → (List V → Hp → Prop) → (Nat → Nat → List V → Hp → Prop) → Prop) (u : Value) (a : Addr) (g : Nat) (c : Code) (s' : Shared) : Prop where
  val : u = .ref a
  ge : sc.heap.objs.size ≤ a
  lt : a < s'.heap.objs.size
  gen : s'.heap.IsGen a g
  gs : s'.gens[g]? = some (.fresh c)
  os : s'.os = sc.os
  bare : AllBare s'.gens
  lim : s'.heap.NoLimit
  kept : ∀ b ob, sc.heap.get? b = some ob → s'.heap.get? b = some ob
  wake : ∀ (A : Around) (o : Option Addr) (s2 : Shared) (Y : YP) (Q : List V → Hp → Prop) (W : Nat → Nat → List V → Hp → Prop) (m : Nat), Room (k + 1) A → A.frames = some X.stack → (∀ S, o = some S → s'.heap.objs.size ≤ S ∧ ∃ c, s2.heap.get? S = some (lstObj #[] c)) →
    (∀ b ob, s'.heap.get? b = some ob → s2.heap.get? b = some ob) → s2.os = sc.os → AllBare s2.gens → YMono Y → TP Y Q W → W 0 m [] H →
    Seg (model X.prog X.w) A (REx X sc H fp o Q) (YEx X sc H fp o a g Y) sizeLine s2 c ((model X.prog X.w).den c) [] s2
section
variable {X : Cx} {pins : List (Addr × Obj)} {σ : L2.St} {H : Hp} {s : Shared}
theorem gx2_make {c P : Addr} {elt tg iter tg1 iter1 : Expr} {ifs ifs1 : List Expr} {scope : Scope} {gpos : Pos} {own : List (Str × Nat)} {vs1 : List Nat} {wi wi1 : TI} {gt gt1 : TG} {tt tt1 : TT} {te : TE} {k : Nat} {Q' : Value → Shared → Prop} {R : It → Hp → Prop}
    (hr : Room k X.A) (hc : X.calm = true) (hN : X.N.Nodup) (TB : GxR.TabB X.base X.mg c P) (hcode : X.env.code = .ref c) (B : GBlk X.N X.env.scope scope own) (hi : PI X tg iter wi)
    (hg : ∀ (s : Shared) (H : Hp) (C : Addr) (cd : Value) (fp : List Addr) (A : Around) (pn : List (Addr × Obj)), PG (gCx X s H scope C cd fp A pn) tg gt)
    (ht : ∀ (s : Shared) (H : Hp) (C : Addr) (cd : Value) (fp : List Addr) (A : Around) (pn : List (Addr × Obj)), Room k (gCx X s H scope C cd fp A pn).A → PTs (gCx X s H scope C cd fp A pn) ifs tt)
    (hv : ∀ j ∈ vs1, j ∈ own.map (·.2)) (hi1 : ∀ (s : Shared) (H : Hp) (C : Addr) (cd : Value) (fp : List Addr) (A : Around) (pn : List (Addr × Obj)), Room k (gCx X s H scope C cd fp A pn).A → PI (gCx X s H scope C cd fp A pn) tg1 iter1 wi1) (hs1 : ∀ env v, foldedSetIterable iter1 env v = pure v)
    (hg1 : ∀ (s : Shared) (H : Hp) (C : Addr) (cd : Value) (fp : List Addr) (A : Around) (pn : List (Addr × Obj)), PG (gCx X s H scope C cd fp A pn) tg1 gt1)
    (ht1 : ∀ (s : Shared) (H : Hp) (C : Addr) (cd : Value) (fp : List Addr) (A : Around) (pn : List (Addr × Obj)), Room k (gCx X s H scope C cd fp A pn).A → PTs (gCx X s H scope C cd fp A pn) ifs1 tt1)
    (he : ∀ (s : Shared) (H : Hp) (C : Addr) (cd : Value) (fp : List Addr) (A : Around) (pn : List (Addr × Obj)), Room k (gCx X s H scope C cd fp A pn).A → PE (gCx X s H scope C cd fp A pn) elt te)
    (hs : ∀ v, genFold iter X.env v = pure v) (I : Inv X pins σ H s) (h : wi σ H fun J H1 => GxR.TabG H1 P ∧ ∀ H2, GxR.Tabbed P H1 H2 → R J H2)
    (hQ : ∀ sc H2 fp J u a g cd s', Inv X pins σ H2 sc → R J H2 → (∀ b ∈ fp, FpOk X pins H2 b) → GMq X k sc H2 fp (fun Y Q W => GTurns2 J gt tt wi1 gt1 tt1 te Y Q (own.map (·.2)) vs1 σ W) u a g cd s' → Q' u s') :
    wpAny (model X.prog X.w) X.A (eval (gx2 elt tg iter tg1 iter1 ifs ifs1 scope gpos) X.env) Q' X.xe s := by
  refine gx2_new B.co (closure_ok (B.has I)) B.nocell B.dot B.kind (by have := hr.dp; omega) ?_ hs
  refine thn (hi.run pins s σ H _ I h) fun xv s1 h1 => thn h1 fun itv s2 h2 => ?_
  obtain ⟨it, fp, tn, J, H1, e, I2, T, st2, f2, ⟨ps, hP, htr⟩, q⟩ := h2
  subst e
  refine ⟨I2.nolimit, ?_⟩
  have hPs : s2.heap.get? P = some { cls := .none, data := .fields ps } := I2.hok P _ hP
  have cd0 : PySem.W.CodeHd s2.heap c P := TB.code.keeps fun b u e => I2.bk b u e
  have cont : ∀ (code : Value) (h3 : Heap) (tk : Nat) (ps' : Array Value), Heap.ExtBut P s2.heap h3 → s2.heap.objs.size ≤ h3.objs.size → h3.get? P = some { cls := .none, data := .fields ps' } → (∃ more, ps' = ps ++ more) → TriplesOk ps'.toList →
      wpAny (model X.prog X.w) X.A (builtinsFor X.env.globals X.env.builtins) (fun bi s₄ => ∀ h', h'.Ns s₄.heap.objs.size (fun y => if y = (".0" : Str) then some (.ref it) else none) →
        Heap.SameBut s₄.heap.objs.size (s₄.heap.push { cls := .type "frame", data := .dict #[] }) h' →
        Q' (.ref h'.objs.size) { s₄ with
            gens := s₄.gens.push (.fresh (.compStart (gx2 elt tg iter tg1 iter1 ifs ifs1 scope gpos) 0 (.ref it) .none (genEnv scope (cloFrom X.env.cells scope.names []) s₄.heap.objs.size code bi X.env))),
            toks := s₄.toks + 1 + 1 + 1,
            heap := h'.push { cls := .type "generator", data := .fields #[.int s₄.gens.size 0, .str "<genexpr>" (s₄.toks + 1), .str (X.env.qual ++ "<genexpr>") (s₄.toks + 1 + 1)] } }) X.xe { s2 with heap := h3, toks := tk } := by
    intro code h3 tk ps' hx hsz hP3 hmore ht3
    obtain ⟨bm, ob, e1, e2, e3, e4, e5, e6, e7, e8⟩ := TB.bm
    have keep3 : ∀ b u, b ≠ P → s2.heap.get? b = some u → h3.get? b = some u := fun b u hb e => hx b u hb e
    refine wpAny_builtinsFor (m := X.mg) (by rw [I2.ok.glob]; exact (I2.mod.glob.keeps I2.bk).extBut hx TB.gP) e1 e2 (keep3 _ _ e4 (I2.bk _ _ e5)) e6 e7 e8 ?_
    obtain ⟨more, em⟩ := hmore
    -- the state where the table has grown
    have J3 : Inv X pins σ (upd H1 P (.tbl (ps ++ more))) { s2 with heap := h3, toks := tk } := GxR.inv_tab (more := more) (h' := h3) (g' := s2.gens) (d' := s2.drawn) (t' := tk) I2 hP keep3 (by rw [← em]; exact hP3) I2.bare
    have hTb : GxR.Tabbed P H1 (upd H1 P (.tbl (ps ++ more))) := ⟨⟨ps ++ more, upd_same, by rw [← em]; exact ht3⟩, fun b hb => upd_ne hb⟩
    have nP : ∀ b ∈ fp, b ≠ P := fun b hb z => by
      have := (f2 b hb).1
      rw [z, hP] at this
      cases this
    have f3 : ∀ b ∈ fp, FpOk X pins (upd H1 P (.tbl (ps ++ more))) b := fun b hb => ⟨by rw [upd_ne (nP b hb)]; exact (f2 b hb).1, (f2 b hb).2⟩
    generalize hH3 : upd H1 P (.tbl (ps ++ more)) = H3 at J3 hTb f3
    have rJ := q H3 hTb
    have tn3 : tn 0 h3 := T.keep _ _ _ st2 fun b hb ob e => keep3 b ob (nP b hb) e
    generalize hsc : ({ s2 with heap := h3, toks := tk } : Shared) = sc at J3 ⊢
    have hsch : sc.heap = h3 := by rw [← hsc]
    intro h' hn' hs'
    have hsz' : h'.objs.size = sc.heap.objs.size + 1 := by rw [hs'.1, Heap.size_push]
    have keep' : ∀ b ob, sc.heap.get? b = some ob → h'.get? b = some ob := fun b ob e => hs'.extBut b ob (Nat.ne_of_lt (Heap.lt_size e)) (Heap.get?_push_of_some _ e)
    generalize hgo : ({ cls := .type "generator", data := .fields #[.int sc.gens.size 0, .str "<genexpr>" (sc.toks + 1), .str (X.env.qual ++ "<genexpr>") (sc.toks + 1 + 1)] } : Obj) = go
    have isg : ∀ hh : Heap, hh.get? h'.objs.size = some go → hh.IsGen h'.objs.size sc.gens.size := fun hh e => by
      rw [← hgo] at e
      exact ⟨_, _, _, e, rfl, rfl, rfl⟩
    have hgo' : (h'.push go).get? h'.objs.size = some go := Heap.get?_push_size _ (by rw [← hgo]; rfl)
    have fl : ∀ b ∈ fp, b < sc.heap.objs.size := fun b hb => by
      obtain ⟨ob, e, _⟩ := T.obj _ _ tn3 b hb
      rw [hsch]
      exact Heap.lt_size e
    have keep5 : ∀ b ob, sc.heap.get? b = some ob → (h'.push go).get? b = some ob := fun b ob e => Heap.get?_push_of_some _ (keep' b ob e)
    have bare5 : AllBare (sc.gens.push (.fresh (.compStart (gx2 elt tg iter tg1 iter1 ifs ifs1 scope gpos) 0 (.ref it) .none (gEnv X scope sc.heap.objs.size code)))) := J3.bare.push rfl
    have lim5 : (h'.push go).NoLimit := J3.nolimit.keeps keep5
    refine hQ sc H3 fp J _ h'.objs.size sc.gens.size _ _ J3 rJ f3 ⟨rfl, (by rw [hsz']; exact Nat.le_succ _), (by show h'.objs.size < (h'.push go).objs.size; rw [Heap.size_push]; exact Nat.lt_succ_self _), isg _ hgo', Array.getElem?_push_size .., rfl, bare5, lim5, keep5, ?_⟩
    intro A o s5 Y Q W m hrA hfr ho hk hos hb hY turn w
    have hk0 : ∀ b ob, (h'.push go).get? b = some ob → s5.heap.get? b = some ob := hk
    have szS : ∀ S, o = some S → h'.objs.size < S := fun S e => by
      have h1 : (h'.push go).objs.size ≤ S := (ho S e).1
      rw [Heap.size_push] at h1
      exact h1
    generalize hXg : gCx X sc H3 scope sc.heap.objs.size code fp A [(h'.objs.size, go)] = Xg
    have xp : Xg.prog = X.prog := by rw [← hXg]
    have xw : Xg.w = X.w := by rw [← hXg]
    have G0 : GIx Xg o [] [] (wipe σ (own.map (·.2))) H3 s5 := by
      obtain ⟨c0, hc0⟩ : ∃ c0, ∀ S, o = some S → s5.heap.get? S = some (lstObj #[] c0) := by
        cases o with
        | none => exact ⟨0, fun S e => by cases e⟩
        | some S =>
          obtain ⟨c0, e⟩ := (ho S rfl).2
          exact ⟨c0, fun S' e' => by cases e'; exact e⟩
      refine ⟨#[], c0, .nil, ?_⟩
      rw [← hXg]
      refine gx_inv0 (m0 := fun y => if y = (".0" : Str) then some (.ref it) else none) J3 B hN (fun b hb => ⟨f3 b hb, fl b hb⟩) hrA.hd hfr (Nat.le_refl _) (fun b ob e => hk0 b ob (keep5 b ob e)) ((hn'.push _).keeps hk0) hos hb fun p hp => ?_
      have key : ∀ p, p ∈ [(h'.objs.size, go)] ∨ p ∈ oPins o #[] c0 → s5.heap.get? p.1 = some p.2 ∧ sc.heap.objs.size ≤ p.1 ∧ p.1 ≠ sc.heap.objs.size ∧ ∀ v, p.2.data ≠ .cell v := fun p hp => by
        rcases hp with hp | hp
        · rw [List.mem_singleton.mp hp]
          refine ⟨hk0 _ _ hgo', by rw [hsz']; exact Nat.le_succ _, by rw [hsz']; exact Nat.succ_ne_self _, fun v z => ?_⟩
          rw [← hgo] at z
          cases z
        · cases ho2 : o with
          | none =>
            rw [ho2] at hp
            cases hp
          | some S =>
            rw [ho2] at hp
            have e : p = (S, lstObj #[] c0) := by simpa [oPins] using hp
            have hS := szS S ho2
            rw [hsz'] at hS
            rw [e]
            refine ⟨hc0 S ho2, Nat.le_of_lt (Nat.lt_of_succ_lt hS), Nat.ne_of_gt (Nat.lt_of_succ_lt hS), fun v z => by cases z⟩
      refine key p ?_
      simp only [List.append_nil] at hp
      exact List.mem_append.mp hp
    have pins : ∀ {ip : List (Addr × Obj)} {ys : List V} {σ' : L2.St} {H' : Hp} {s' : Shared}, GIx Xg o ip ys σ' H' s' → s'.heap.IsGen h'.objs.size sc.gens.size := fun {ip ys σ' H' s'} G => by
      obtain ⟨acc, c9, _, I9⟩ := G
      refine isg _ (I9.pin (h'.objs.size, go) (List.mem_append_left _ ?_)).1
      rw [← hXg]
      exact List.mem_singleton.mpr rfl
    have T' : Turn Xg.prog Xg.w Xg.K tg J fp it tn := by rw [← hXg]; exact T
    have tn5 : tn 0 s5.heap := T.keep _ _ _ tn3 fun b hb ob e => hk0 b ob (keep5 b ob (by rw [hsch]; exact e))
    have exOk : ∀ {σ' : L2.St} {H' : Hp} {ps : List (Addr × Obj)} {s' : Shared}, Inv Xg ps σ' H' s' → s'.os = sc.os ∧ AllBare s'.gens ∧ Un (frs X.stack) fp H3 H' sc.heap s'.heap ∧ HOk X.prog X.w H' s'.heap ∧ s'.heap.NoLimit := fun {σ' H' ps s'} I9 => by
      have L := I9.nolimit
      subst hXg
      exact ⟨I9.os, I9.bare, I9.base, I9.hok, L⟩
    have seg := gx_start2 (X := Xg) (A := A) (o := o) (Y := Y) (Q := Q) (elt := elt) (tg := tg) (iter := iter) (ifs := ifs) (tg1 := tg1) (iter1 := iter1) (ifs1 := ifs1) (scope := scope) (pos := gpos) (it := it) (fp := fp) (tn := tn) (J := J) (g := gt) (tt := tt) (g1 := gt1) (tt1 := tt1) (wi1 := wi1) (te := te) (vs := own.map (·.2)) (vs1 := vs1) (σ := σ) (W := W) (m := m) (n := sizeLine) (s₀ := s5) (s := s5) (H := H3)
      (by rw [← hXg]; exact hc) (by rw [← hXg]; exact over_gx) (by rw [← hXg]; exact over_gx0) T' (by rw [← hXg]) (by rw [← hXg]) (by rw [← hXg]; exact B.co)
      (fun p hp => by
        rw [← hXg] at hp
        rw [List.mem_singleton.mp hp]
        intro z
        have := fl _ z
        rw [hsz'] at this
        exact absurd this (Nat.not_lt.mpr (Nat.le_succ _)))
      (fun S e => by
        have hS := szS S e
        refine ⟨fun p hp => ?_, fun z => ?_, ?_, ?_, fun x c9 e9 z => ?_⟩
        · rw [← hXg] at hp
          rw [List.mem_singleton.mp hp]
          exact Nat.ne_of_lt hS
        · have h1 := fl _ z
          rw [hsz'] at hS
          exact absurd (Nat.lt_trans h1 (Nat.lt_of_succ_lt hS)) (Nat.lt_irrefl _)
        · rw [← hXg]
          show sc.heap.objs.size ≤ S
          rw [hsz'] at hS
          exact Nat.le_of_lt (Nat.lt_of_succ_lt hS)
        · rw [← hXg]
          show S ≠ sc.heap.objs.size
          rw [hsz'] at hS
          exact Nat.ne_of_gt (Nat.lt_of_succ_lt hS)
        · rw [← hXg] at e9
          have e10 : (cloFrom X.env.cells scope.names []).lookup x = some c9 := e9
          rcases cloFrom_mem (PySem.mem_of_lookup e10) with q | ⟨q1, q2⟩
          · cases q
          · obtain ⟨c', hc'⟩ := B.has I _ q1 rfl
            obtain ⟨v, qv⟩ := J3.cell _ _ hc'
            rw [hc'] at q2
            have q3 : c9 = c' := q2
            have h1 := qv.lt
            rw [← q3, z] at h1
            rw [hsz'] at hS
            exact absurd (Nat.lt_trans h1 (Nat.lt_of_succ_lt hS)) (Nat.lt_irrefl _))
      hv (by rw [← hXg]; exact hg _ _ _ _ _ _ _) (by rw [← hXg]; exact ht _ _ _ _ _ _ _ (hrA.deeper _)) (by rw [← hXg]; exact hi1 _ _ _ _ _ _ _ (hrA.deeper _)) (fun v => hs1 _ v) (by rw [← hXg]; exact hg1 _ _ _ _ _ _ _) (by rw [← hXg]; exact ht1 _ _ _ _ _ _ _ (hrA.deeper _)) (by rw [← hXg]; exact he _ _ _ _ _ _ _ (hrA.deeper _)) hY turn rfl w G0 tn5 (fun b hb => (f3 b hb).1)
    have ee : Xg.env = genEnv scope (cloFrom X.env.cells scope.names []) sc.heap.objs.size code builtinsNs X.env := by rw [← hXg]
    rw [xp, xw, ee] at seg
    refine seg_imp (fun n s₀ r s' hR => ?_) (fun n s₀ v s' kap kap' hkk hYY => ?_) sizeLine seg
    · obtain ⟨e, ys, σ', H', hn, G, hq⟩ := hR
      obtain ⟨acc, c9, r9, I9⟩ := G
      obtain ⟨a1, a2, a3, a4, _⟩ := exOk I9
      exact ⟨e, H', ys, a1, a2, a3, a4, oCell_of r9 I9, by omega, hq⟩
    · obtain ⟨ip, ys, x, σ', H', hn, rx, G, hy⟩ := hYY
      have hg9 := pins G
      obtain ⟨acc, c9, r9, I9⟩ := G
      obtain ⟨a1, a2, a3, a4, a5⟩ := exOk I9
      exact ⟨a1, a2, a5, hg9, ys, x, H', hn, rx, a3, a4, oCell_of r9 I9, hY _ _ _ _ _ (fun q s9 z => hkk _ _ (q s9 z)) hy⟩
  cases hf : codeAmong gpos ps.toList with
  | none =>
    refine wpAny_genexprCodeX hcode (cd0.code hPs htr) (cd0.tab hPs) hf fun c' h' tk hx hge hlt hco' _ htab' _ => ?_
    obtain ⟨_, _, _, _, _, _, _, _, _, _, _, _, _, _, _, _, _, _, _, tr', _⟩ := hco'
    exact cont _ h' tk _ hx (Nat.le_trans hge (Nat.le_of_lt hlt)) htab'.2 ⟨_, rfl⟩ tr'
  | some cv =>
    refine wpAny_genexprCode_hit hcode (cd0.code hPs htr) hf ?_
    exact cont cv s2.heap s2.toks ps (Heap.ExtBut.refl _ _) (Nat.le_refl _) hPs ⟨#[], by simp⟩ htr
end
end Zz
end

section
set_option Elab.async false
set_option linter.all false
set_option maxRecDepth 100000
/-! tuple(elt for .. in .. for .. in ..) -/
namespace Zz
open PySem PySem.Spec PyProof.Rows L2
section
variable {X : Cx} {pins : List (Addr × Obj)} {σ : L2.St} {sc s : Shared} {H : Hp} {fp : List Addr} {a : Addr} {g : Nat}
def tTupX2 (P : Addr) (wi : TI) (gt : TG) (tt : TT) (wi1 : TI) (gt1 : TG) (tt1 : TT) (te : TE) (vs vs1 : List Nat) : TE := fun σ H Q => wi σ H fun J H1 => GxR.TabG H1 P ∧ ∀ H2, GxR.Tabbed P H1 H2 →
  ∃ (W : Nat → Nat → List V → Hp → Prop) (m : Nat), W 0 m [] H2 ∧ GTurns2 J gt tt wi1 gt1 tt1 te yAny (fun ys H' => ∀ p, H' p = none → Q (.ref p) (upd H' p (.tup ys))) vs vs1 σ W
theorem pe_tupX2 {c P : Addr} {elt tg iter tg1 iter1 : Expr} {ifs ifs1 : List Expr} {p pos gpos : Pos} {scope : Scope} {own : List (Str × Nat)} {vs1 : List Nat} {wi wi1 : TI} {gt gt1 : TG} {tt tt1 : TT} {te : TE} {k : Nat}
    (hr : Room (k + 5) X.A) (hc : X.calm = true) (hN : X.N.Nodup) (TB : GxR.TabB X.base X.mg c P) (hcode : X.env.code = .ref c) (hgl : Gl X "tuple") (hm : X.mg "tuple" = none) (hb : bootBuiltins "tuple" = some (.type "tuple")) (B : GBlk X.N X.env.scope scope own) (hi : PI X tg iter wi)
    (hg : ∀ (s : Shared) (H : Hp) (C : Addr) (cd : Value) (fp : List Addr) (A : Around) (pn : List (Addr × Obj)), PG (gCx X s H scope C cd fp A pn) tg gt)
    (ht : ∀ (s : Shared) (H : Hp) (C : Addr) (cd : Value) (fp : List Addr) (A : Around) (pn : List (Addr × Obj)), Room k (gCx X s H scope C cd fp A pn).A → PTs (gCx X s H scope C cd fp A pn) ifs tt)
    (hv : ∀ j ∈ vs1, j ∈ own.map (·.2)) (hi1 : ∀ (s : Shared) (H : Hp) (C : Addr) (cd : Value) (fp : List Addr) (A : Around) (pn : List (Addr × Obj)), Room k (gCx X s H scope C cd fp A pn).A → PI (gCx X s H scope C cd fp A pn) tg1 iter1 wi1) (hs1 : ∀ env v, foldedSetIterable iter1 env v = pure v)
    (hg1 : ∀ (s : Shared) (H : Hp) (C : Addr) (cd : Value) (fp : List Addr) (A : Around) (pn : List (Addr × Obj)), PG (gCx X s H scope C cd fp A pn) tg1 gt1)
    (ht1 : ∀ (s : Shared) (H : Hp) (C : Addr) (cd : Value) (fp : List Addr) (A : Around) (pn : List (Addr × Obj)), Room k (gCx X s H scope C cd fp A pn).A → PTs (gCx X s H scope C cd fp A pn) ifs1 tt1)
    (he : ∀ (s : Shared) (H : Hp) (C : Addr) (cd : Value) (fp : List Addr) (A : Around) (pn : List (Addr × Obj)), Room k (gCx X s H scope C cd fp A pn).A → PE (gCx X s H scope C cd fp A pn) elt te)
    (hs : ∀ v, genFold iter X.env v = pure v)
    (hse : starEach [gx2 elt tg iter tg1 iter1 ifs ifs1 scope gpos] X.env = (false, eval (gx2 elt tg iter tg1 iter1 ifs ifs1 scope gpos) X.env) :: starEach [] X.env) :
    PE X (.Call (.Name "tuple" p) [gx2 elt tg iter tg1 iter1 ifs ifs1 scope gpos] [] pos) (tTupX2 P wi gt tt wi1 gt1 tt1 te (own.map (·.2)) vs1) := by
  refine ⟨fun pins s σ H Q I h => ?_⟩
  refine wpAny_Call_Name_kw (ld_blt I hgl hm hb ?_)
  refine PyProof.Rows.callWith_type1 ?_ hse rfl
  rw [hse]
  show wpAny _ _ (spliced ((false, eval (gx2 elt tg iter tg1 iter1 ifs ifs1 scope gpos) X.env) :: backTo pos (starEach [] X.env))) _ _ s
  refine Calls.spliced_cons (gx2_make (hr.mono (by omega)) hc hN TB hcode B hi hg ht hv hi1 hs1 hg1 ht1 he hs I h fun sc H2 fp J u a g cd s' I2 hR hf G => ?_)
  refine Calls.spliced_nil ?_
  obtain ⟨W, m, w, turn⟩ := hR
  have ev := G.val
  subst ev
  refine call_tup_gx (X := X) (sc := sc) (H := H2) (fp := fp) (a := a) (g := g) hr.hd (by have := hr.dp; omega) G.gen G.lim G.gs G.bare G.os
    (fun S s2 q1 q2 q3 q4 q5 => gx_drain (G.wake X.A.in1.in1.in1.in1 (some S) s2 yAny (fun ys H' => ∀ p, H' p = none → Q (.ref p) (upd H' p (.tup ys))) W m (Room.in1 (Room.in1 (Room.in1 (Room.in1 hr)))) I2.ok.frames (fun S' e => by cases e; exact ⟨q1, q3⟩) q2 q4 q5 yAny_mono turn w))
    fun s9 acc d => ?_
  obtain ⟨ys, H', q1, q2, q3, q4, q5, q6, q7⟩ := d
  have J9 : Inv X pins σ H' s9 := Inv.back I2 hf q1 q2 q3 q4
  have hf9 : H' s9.heap.objs.size = none := J9.hok.fresh (Nat.le_refl _)
  refine ⟨.ref s9.heap.objs.size, upd H' s9.heap.objs.size (.tup ys), J9.laid (t' := s9.toks) (fun b u e => Heap.get?_push_of_some _ e) (Nat.le_refl _) ?_, rfl, q7 _ hf9⟩
  exact ⟨q6, acc, q5, ⟨_, Heap.get?_push_size _ rfl, rfl, _, rfl⟩⟩
end
def zTupG2 (it : SI) (g : SG) (t : ST) (it1 : SI) (g1 : SG) (t1 : ST) (fe : SE) (vs vs1 : List Nat) : SE := fun env => match it env with
  | some (ds, e1) => if plainB e1 vs then match foldS (stepOut g t it1 g1 t1 fe vs vs1) ds (wipeE e1 vs) [] with
    | some (acc, e2) => some (.val (.tup acc), unwipe e1 e2 vs)
    | none => none
    else none
  | none => none
section
variable {X : Cx} {G : GG}
theorem BG.next {K : PySem.W.Frag} {M : Addr → Prop} {σ σ4 : L2.St} {H1 H' H4 : Hp} {e1 e e4 : En} {vs : List Nat} {ys ys' : List V} {acc acc' : List Dat} (B : BG K G M σ H1 e1 vs H' e ys acc) (hw : wipe σ4 vs = wipe σ vs) (r : REnv K G M σ4 H4 e4) (b : Blk vs e1 e4)
    (fr : ∀ b o, NT o → H' b = some o → ¬ Own σ e1 b → H4 b = some o) (lv : ∀ b, H' b ≠ none → H4 b ≠ none) (tb : ∀ b, GxR.TabG H' b → GxR.TabG H4 b) (l : RelDs K G (NN M σ4 e4) H4 ys' acc') : BG K G M σ H1 e1 vs H4 (wipeE e4 vs) ys' acc' := by
  have r' := r.wipe vs
  rw [hw] at r'
  exact ⟨r', b.wipe, fun b o nt e n => fr b o nt (B.fr b o nt e n) n, fun b h => lv b (B.live b h), fun b h => tb b (B.tab b h), l.up (wipe_up hw)⟩
theorem tg2_imp {it it1 : SI} {g g1 : SG} {t t1 : ST} {fe : SE} {ts ts1 vs vs1 : List Nat} {P : Addr} (hP : P ∈ G.ts) (T : TgOk ts g) (hts : ∀ j ∈ ts, j ∈ vs) (T1 : TgOk ts1 g1) (hts1 : ∀ j ∈ ts1, j ∈ vs1) (hv : ∀ j ∈ vs1, j ∈ vs) (σ : L2.St) (H : Hp) (Q : VK)
    (h : tEv X.K G (zTupG2 it g t it1 g1 t1 fe vs vs1) σ H Q) : tTupX2 P (tIv X.K G it) (tGv X.K G false ts g) (tTv X.K G t) (tIv X.K G it1) (tGv X.K G false ts1 g1) (tTv X.K G t1) (tEv X.K G fe) vs vs1 σ H Q := by
  obtain ⟨M, env, r, env', re, q, k⟩ := h
  unfold zTupG2 at q
  split at q <;> try cases q
  rename_i ds e1 q1
  split at q <;> try cases q
  rename_i hpl
  split at q <;> try cases q
  rename_i accF e2 q2
  refine ⟨M, env, ds, e1, re, q1, fun J H1 p1 jok => ⟨p1.env.tab P hP, fun H2 ht => ?_⟩⟩
  have sam := tabbed_sam (p1.env.tab P hP) ht
  refine ⟨fun i m ys H' => m = ds.length - i ∧ i ≤ ds.length ∧ ∃ env acc, BG X.K G M σ H1 e1 vs H' env ys acc ∧ foldS (stepOut g t it1 g1 t1 fe vs vs1) (ds.drop i) env acc = some (accF, e2), ds.length,
    ⟨by simp, Nat.zero_le _, wipeE e1 vs, [], ⟨(p1.env.sam sam).wipe vs, Blk.start, fun b o nt e _ => sam.k b o nt e, fun b h => sam.live h, fun b h => sam.t b h, rfl⟩, by simpa using q2⟩, ?_⟩
  rintro i m ys H' ⟨rfl, hi', env_i, acc, B, hl⟩
  have J' := jok (NN M (wipe σ vs) env_i) H' B.up (fun b => B.env.liveN)
  by_cases hlt : i < ds.length
  · right
    have hd : ds[i]? = some ds[i] := List.getElem?_eq_getElem hlt
    obtain ⟨go, yld⟩ := J'.1 i _ hd
    rw [List.drop_eq_getElem_cons hlt] at hl
    unfold foldS at hl
    split at hl <;> try cases hl
    rename_i a9 e9 q9
    refine ⟨go, fun ys2 H2 => BG X.K G M σ H1 e1 vs H2 e9 ys2 a9, fun ys2 H2 h1 => ⟨ds.length - (i + 1), by omega, rfl, hlt, e9, a9, h1, hl⟩, fun x H3 hy => ?_⟩
    obtain ⟨sam3, rx⟩ := yld x H3 hy
    unfold stepOut at q9
    split at q9 <;> try cases q9
    rename_i e3 q3
    refine ⟨M, env_i, ds[i], e3, B.env.sam sam3, (fun z => by cases z), rx, q3, fun σ3 P4 only => ?_⟩
    have hw : wipe σ3 vs = wipe σ vs := wipe_only only hts
    have B3 : Blk vs e1 e3 := B.blk.tg T hts q3
    have P5 : PostS X.K G false M (wipe σ vs) H' env_i σ3 H3 e3 := ((Post.sam B.env sam3).st (fun z => by cases z)).trans P4
    have fr2 : ∀ {H5 : Hp} {e4 : En}, Post X.K G M σ3 H3 e3 H5 e4 → ∀ b o, NT o → H' b = some o → ¬ Own σ e1 b → H5 b = some o := fun p b o nt e n =>
      p.fr.k b o nt (sam3.k b o nt e) fun z => n (own_blk hw B3 z)
    have rys := B.out.up P5.up
    refine ⟨hw, ?_⟩
    split at q9 <;> try cases q9
    · rename_i e4 q4
      split at q9 <;> try cases q9
      rename_i ds1 e5 q5
      split at q9 <;> try cases q9
      rename_i e6 q6
      refine tTv_run P4.env q4 fun H4 p4 => ?_
      rw [if_pos rfl]
      refine ⟨_, e4, ds1, e5, p4.env, q5, fun J1 H5 p5 jok1 => ?_⟩
      have pp := p4.trans p5
      refine ⟨_, ⟨ds1.length, ⟨by simp, Nat.zero_le _, wipeE e5 vs1, acc, ⟨pp.env.wipe vs1, Blk.start, fun b o _ e _ => e, fun b h => h, fun b h => h, (rys.up pp.up).up (less_up fun b z => z.imp id own_wipe)⟩, by simpa using q6⟩⟩,
        gx_sim (S := fun ds env acc => foldS (stepIn g1 t1 fe vs1) ds env acc = some (a9, e6)) (fn := fun env acc => acc = a9 ∧ env = e6) (out := fun acc y env Kp => Kp) T1 hts1 yAny_mono jok1 (fun env acc h => ?_) (fun d ds env acc h => ?_) (fun env acc ys' H7 B7 ⟨h1, h2⟩ => ?_) fun acc y env ys x H' Kp B h => h⟩
      · cases h
        exact ⟨rfl, rfl⟩
      · unfold foldS at h
        split at h <;> try cases h
        rename_i a8 e8 q8
        unfold stepIn at q8
        split at q8 <;> try cases q8
        rename_i e10 q10
        refine ⟨e10, q10, ?_⟩
        split at q8 <;> try cases q8
        · rename_i e11 q11
          split at q8 <;> try cases q8
          rename_i r12 e12 q12
          split at q8 <;> try cases q8
          rename_i y e13 q13
          split at q8 <;> try cases q8
          rename_i hz
          exact .inr ⟨e11, r12, e12, y, e13, q11, q12, q13, Nat.lt_of_lt_of_le (Nat.lt_succ_self _) (sizeOk_le hz), h⟩
        · rename_i e11 q11
          exact .inl ⟨e11, q11, h⟩
      · subst h1
        subst h2
        refine B.next (σ4 := wipe σ3 vs1) (by rw [wipe_wipe hv, hw]) B7.env ?_ ?_ ?_ ?_ B7.out
        · have b5 : Blk vs e1 e5 := B3.shp pp.shp
          refine ⟨B7.blk.len.trans b5.len, fun i d' h => ?_, fun i s hi h => ?_⟩
          · obtain ⟨h1, d'', h2⟩ := B7.blk.ow i d' h
            exact b5.ow i d'' h2
          · obtain ⟨s', h'⟩ := b5.has i s hi h
            exact B7.blk.has i s' (fun z => hi (hv i z)) h'
        · intro b o nt e n
          exact B7.fr b o nt (fr2 pp b o nt e n) fun z => n (own_blk hw (B3.shp pp.shp) z)
        · exact fun b h => B7.live b (pp.fr.l b (P5.fr.l b h))
        · exact fun b h => B7.tab b (pp.fr.t b (P5.fr.t b h))
    · rename_i e4 q4
      refine tTv_run P4.env q4 fun H4 p4 => ?_
      rw [if_neg Bool.false_ne_true]
      exact B.next hw p4.env (B3.shp p4.shp) (fr2 p4) (fun b h => p4.fr.l b (P5.fr.l b h)) (fun b h => p4.fr.t b (P5.fr.t b h)) (rys.up p4.up)
  · left
    have e : i = ds.length := by omega
    subst e
    rw [List.drop_length] at hl
    have hE : acc = accF ∧ env_i = e2 := by
      cases hl
      exact ⟨rfl, rfl⟩
    obtain ⟨hE1, hE2⟩ := hE
    subst hE1
    subst hE2
    refine ⟨J'.2, ?_⟩
    obtain ⟨p2, ro⟩ := B.post p1.env hpl
    intro p hp
    obtain ⟨p3, z3, n3⟩ := res0_ok (r := .val (.tup acc)) (v := .ref p) p2.env (Sam.new (o := .tup ys) hp) (show RelD X.K G _ _ _ _ from ⟨p, ys, rfl, .inl ⟨.inl upd_same, fun z => p2.env.liveN z hp⟩, ro.up (Sam.new hp).up⟩)
    exact k _ _ ((p1.trans p2).trans p3) z3 trivial
theorem pz_tupGx2 {c P : Addr} {elt tg iter tg1 iter1 : Expr} {ifs ifs1 : List Expr} {p pos gpos : Pos} {scope : Scope} {own : List (Str × Nat)} {vs1 : List Nat} {it it1 : SI} {g g1 : SG} {t t1 : ST} {fe : SE} {ts ts1 : List Nat} {k : Nat}
    (hr : Room (k + 5) X.A) (hc : X.calm = true) (hN : X.N.Nodup) (TB : GxR.TabB X.base X.mg c P) (hP : P ∈ G.ts) (hcode : X.env.code = .ref c) (hgl : Gl X "tuple") (hm : X.mg "tuple" = none) (hb : bootBuiltins "tuple" = some (.type "tuple")) (B : GBlk X.N X.env.scope scope own) (hi : PI X tg iter (tIv X.K G it))
    (hg : ∀ (s : Shared) (H : Hp) (C : Addr) (cd : Value) (fp : List Addr) (A : Around) (pn : List (Addr × Obj)), PG (gCx X s H scope C cd fp A pn) tg (tGv X.K G false ts g))
    (ht : ∀ (s : Shared) (H : Hp) (C : Addr) (cd : Value) (fp : List Addr) (A : Around) (pn : List (Addr × Obj)), Room k (gCx X s H scope C cd fp A pn).A → PTs (gCx X s H scope C cd fp A pn) ifs (tTv X.K G t))
    (hi1 : ∀ (s : Shared) (H : Hp) (C : Addr) (cd : Value) (fp : List Addr) (A : Around) (pn : List (Addr × Obj)), Room k (gCx X s H scope C cd fp A pn).A → PI (gCx X s H scope C cd fp A pn) tg1 iter1 (tIv X.K G it1))
    (hg1 : ∀ (s : Shared) (H : Hp) (C : Addr) (cd : Value) (fp : List Addr) (A : Around) (pn : List (Addr × Obj)), PG (gCx X s H scope C cd fp A pn) tg1 (tGv X.K G false ts1 g1))
    (ht1 : ∀ (s : Shared) (H : Hp) (C : Addr) (cd : Value) (fp : List Addr) (A : Around) (pn : List (Addr × Obj)), Room k (gCx X s H scope C cd fp A pn).A → PTs (gCx X s H scope C cd fp A pn) ifs1 (tTv X.K G t1))
    (he : ∀ (s : Shared) (H : Hp) (C : Addr) (cd : Value) (fp : List Addr) (A : Around) (pn : List (Addr × Obj)), Room k (gCx X s H scope C cd fp A pn).A → PE (gCx X s H scope C cd fp A pn) elt (tEv X.K G fe))
    (hs : ∀ v, genFold iter X.env v = pure v) (hs1 : ∀ env v, foldedSetIterable iter1 env v = pure v) (T : TgOk ts g) (hts : ∀ j ∈ ts, j ∈ own.map (·.2)) (T1 : TgOk ts1 g1) (hts1 : ∀ j ∈ ts1, j ∈ vs1) (hv : ∀ j ∈ vs1, j ∈ own.map (·.2))
    (hse : starEach [gx2 elt tg iter tg1 iter1 ifs ifs1 scope gpos] X.env = (false, eval (gx2 elt tg iter tg1 iter1 ifs ifs1 scope gpos) X.env) :: starEach [] X.env) :
    PE X (.Call (.Name "tuple" p) [gx2 elt tg iter tg1 iter1 ifs ifs1 scope gpos] [] pos) (tEv X.K G (zTupG2 it g t it1 g1 t1 fe (own.map (·.2)) vs1)) :=
  PE.imp (pe_tupX2 hr hc hN TB hcode hgl hm hb B hi hg ht hv hi1 hs1 hg1 ht1 he hs hse) (tg2_imp hP T hts T1 hts1 hv)
end
end Zz
end

section
set_option Elab.async false
set_option linter.all false
set_option maxRecDepth 100000
namespace Zz
open PySem PySem.Spec PyProof.Rows L2
def gNeg : Dat → Option R
  | .int i => some (.val (.int (-i)))
  | _ => none
theorem pz_neg {X : Cx} {G : GG} {a : Expr} {pos : Pos} {fa : SE} (ha : PE X a (tEv X.K G fa)) : PE X (.UnaryOp .USub a pos) (tEv X.K G (zUn gNeg fa)) := by
  refine PE.imp (pe_un un_neg ha) ?_
  rintro σ H Q ⟨M, env, r, env', e, q, k⟩
  unfold zUn at q
  split at q <;> try cases q
  rename_i r1 e1 q1
  split at q <;> try cases q
  rename_i d q2
  split at q <;> try cases q
  rename_i r0 q3
  refine tEv_run e q1 fun v H1 p1 z1 _ => ?_
  have rx := rdv_ok p1.env z1.nrm q2
  unfold gNeg at q3
  split at q3 <;> try cases q3
  rename_i i
  exact ⟨i, ofI rx, k _ H1 p1 rfl trivial⟩
section
variable {X : Cx} {G : GG} {io : Bool}
theorem par_imp {i j : Nat} {fa fb : SE} (hij : i ≠ j) : ∀ D σ H, tSv X.K G io (zPar io i j fa fb) D σ H → tCons (tEv X.K G fa) (tCons (tEv X.K G fb) tNil) σ H fun vs H1 => ∃ v w, vs = [v, w] ∧ ∀ p, H1 p = none → D.nx ((σ.set i (some v)).set j (some w)) (upd H1 p (.tup [v, w])) := by
  rintro D σ H ⟨M, env, fl, re, hp0, q, k⟩
  unfold zPar at q
  split at q <;> try cases q
  rename_i r1 e1 q1
  split at q <;> try cases q
  rename_i r2 e2 q2
  refine tEv_run re q1 fun v H1 p1 z1 n1 => ?_
  cases r1 with
  | bor i => cases q
  | val d1 =>
    dsimp only at q
    split at q <;> try cases q
    rename_i hb
    simp only [Bool.and_eq_true] at hb
    split at q <;> try cases q
    rename_i e3 q3
    split at q <;> try cases q
    rename_i e4 q4
    refine tEv_run p1.env q2 fun w H2 p2 z2 n2 => ?_
    refine ⟨v, w, rfl, fun p hp => ?_⟩
    have s1 := p1.st (pinB_ok hb.1)
    have s2 := p2.st (pinB_ok hb.2)
    have s3 := put_ok s2 z2 n2 q3
    have hr : RelD X.K G (NN M (σ.set j (some w)) e3) H2 v d1 := RelD.up (s3.up) z1
    have s4 := put_ok (r := .val d1) (v := v) (s1.trans s3) hr trivial q4
    rw [List.set_comm (some v) (some w) hij]
    exact k _ _ (s4.trans ((Post.sam s4.env (Sam.new hp)).st (fun z => (s4.pin z).2)))
  | fresh d1 =>
    dsimp only at q
    split at q <;> try cases q
    rename_i hb
    simp only [Bool.and_eq_true] at hb
    split at q <;> try cases q
    rename_i e3 q3
    split at q <;> try cases q
    rename_i e4 q4
    obtain ⟨a1, rfl, na, ra, oa⟩ := z1
    refine tEv_run ra q2 fun w H2 p2 z2 n2 => ?_
    refine ⟨_, w, rfl, fun p hp => ?_⟩
    have s1 := p1.st (pinB_ok hb.1)
    have s2 := p2.st (pinB_ok hb.2)
    have s3 := put_ok s2 z2 n2 q3
    have nOwn : ¬ Own σ e1 a1 := fun z => na (.inr z)
    have oa3 : OwnAt X.K G (NN (fun b => M b ∨ b = a1) (σ.set j (some w)) e3) H2 a1 d1 := oa.up (fun o nt e => s3.fr.k a1 o nt e nOwn) s3.up
    have na3 : ¬ NN M (σ.set j (some w)) e3 a1 := fun z => by
      rcases z with z | ⟨jj, d', g1, g2⟩
      · exact na (.inl z)
      · obtain ⟨b, g3, g4, _⟩ := s3.env.ow jj d' g1
        rw [g2] at g3
        cases g3
        exact g4 (.inr rfl)
    have s4 := put_ok (r := .fresh d1) (v := .ref a1) (s1.trans (s3.less fun b z => .inl z)) ⟨a1, rfl, na3, s3.env, oa3⟩ n1 q4
    rw [List.set_comm (some (V.ref a1)) (some w) hij]
    exact k _ _ (s4.trans ((Post.sam s4.env (Sam.new hp)).st (fun z => (s4.pin z).2)))

/-- a, b = x, y by a pair: one of the names is no plain local -/
theorem pz_parC {i j : Nat} {x y : Str} {a b : Expr} {px py pt : Pos} {kt k2 : Nat} {pt2 pos : Pos} {fa fb : SE} (hc : X.calm = true) (hN : X.N.Nodup) (hi : X.N[i]? = some x) (hj : X.N[j]? = some y) (hij : i ≠ j)
    (hx : Loc X.env.scope x) (hy : Loc X.env.scope y) (fx : X.fn x = true ∨ X.env.scope.names.lookup x = some .local) (fy : X.fn y = true ∨ X.env.scope.names.lookup y = some .local) (ha : PE X a (tEv X.K G fa)) (hb : PE X b (tEv X.K G fb)) (h1 : starEach [a, b] X.env = (false, eval a X.env) :: starEach [b] X.env) (h2 : starEach [b] X.env = (false, eval b X.env) :: starEach [] X.env)
    (hw : swappedStores [.Tuple [.Name x px, .Name y py] kt pt] (.Tuple [a, b] k2 pt2) X.env = pure none)
    (hs : swapsWithSole [.Tuple [.Name x px, .Name y py] kt pt] (.Tuple [a, b] k2 pt2) pos.line X.env = pure false) :
    PS X (.Assign [.Tuple [.Name x px, .Name y py] kt pt] (.Tuple [a, b] k2 pt2) pos) (tSv X.K G io (zPar io i j fa fb)) := by
  refine PS.imp (ps_asg (pe_tup (pa_cons ha (pa_cons hb pa_nil h2) h1)) (pg_tup (n := 2) hc (pgs_cons (pg_name hN hi hx fx) (pgs_cons (pg_name hN hj hy fy) pgs_nil))) hs hw) ?_
  intro D σ H h
  have z := par_imp (X := X) hij D σ H h
  obtain ⟨M, env, r, env', e, q, k⟩ := z
  refine ⟨M, env, r, env', e, q, fun v H1 p1 z1 n1 => ?_⟩
  obtain ⟨M2, en2, r2, en2', e2, q2, k2⟩ := k v H1 p1 z1 n1
  refine ⟨M2, en2, r2, en2', e2, q2, fun w H2 p2 z2 n2 => ?_⟩
  obtain ⟨v', w', ev, kk⟩ := k2 w H2 p2 z2 n2
  cases ev
  refine ⟨by rw [sizeLine_eq]; simp, fun p hp => ?_⟩
  exact ⟨p, [v, w], rfl, .inl (.inl upd_same), rfl, v, [w], rfl, w, [], rfl, rfl, kk p hp⟩
end
end Zz
end

section
set_option Elab.async false
set_option linter.all false
set_option maxRecDepth 100000
set_option maxHeartbeats 4000000
namespace Zz
open PySem PySem.Spec PyProof.Rows L2
section
variable {X : Cx} {G : GG}
/-- a list, of any kind, times an int -/
def rRepL (K : PySem.W.Frag) : R2 := fun x y H Q => ∃ l k xs, x = .ref l ∧ y = .int k ∧ SqL K H l xs ∧ -(2 ^ 63) ≤ k ∧ k < 2 ^ 63 ∧ xs.length * k.toNat ≤ sizeLine ∧
  ∀ p, H p = none → Q (.ref p) (upd H p (.lst (List.replicate k.toNat xs).flatten))
theorem op_repL : OpR X (binaryOp .Mult) (rRepL X.K) := by
  intro pins s σ H x y v u Q I rx ry h
  obtain ⟨l, k, xs, rfl, rfl, hH, h1, h2, hz, q⟩ := h
  cases rx
  obtain ⟨t, rfl⟩ := ry
  obtain ⟨its, r, ⟨⟨cls, dd, data, sl⟩, n, e, hc, hdn, hd⟩, hl0⟩ := I.list hH
  simp only at hc hd hdn
  subst hc hd
  have hl : its.length = xs.length := r.length.symm
  have hlen : its.toArray.size * k.toNat ≤ sizeLine := by rw [List.size_toArray, hl]; exact hz
  have hcap : ¬ its.toArray.size * k.toNat > (2 ^ 63 - 1) / 8 := by
    have : (sizeLine : Nat) ≤ (2 ^ 63 - 1) / 8 := by decide
    omega
  have hfit : ¬ (!Builtin.List.listFitsIndex k) = true := by
    rw [fitsIndex_both h1 h2]
    exact Bool.false_ne_true
  have hlong : ¬ Builtin.List.listTooLong (its.toArray.size * k.toNat) = true := by
    rw [notLongL hlen]
    exact Bool.false_ne_true
  have hnew : List.foldl (fun x1 x2 => x1 ++ x2) #[] (List.replicate (if its.toArray.isEmpty = true then 0 else k.toNat) its.toArray) = (List.replicate k.toNat its).flatten.toArray := by
    have f0 : ∀ m : Nat, List.foldl (fun x1 x2 => x1 ++ x2) #[] (List.replicate m its.toArray) = (List.replicate m its).flatten.toArray := fun m => by
      have := foldl_rep its m []
      rw [List.nil_append] at this
      exact this
    rw [f0]
    cases its with
    | nil => simp
    | cons a r' => rw [if_neg (by simp)]
  refine wpAny_binaryOp_repeat_ref (T := "list") (U := "int") (by decide) ⟨_, e, rfl⟩ (fun s' => typeIs_int s' k t) noFill_list_mul F.fills_int_mul F.slot_int_rmul repeat_list F.slot_int_index.lookup
    (call_meets F.slot_int_rmul (typeIs_int s k t) F.entry_int_rmul (F.args_int_rmul_2 _ _) (lm_int_rmul_list_any k t l its.toArray n dd sl)
      ⟨e, rfl, ⟨_, e, rfl⟩, call_meets F.slot_list_mul ⟨_, e, rfl⟩ F.entry_list_mul (F.args_list_mul_2 _ _) (lm_list_mul_any l its.toArray n dd sl k t hfit hcap hlong) ⟨e, ?_⟩⟩)
  rw [hnew]
  exact ⟨.ref _, _, I.lnew (t' := s.toks) (r.rep k.toNat) (by rw [PyProof.Rows.lm_len_rep_flat, Nat.mul_comm]; exact hz), rfl, q _ I.fresh⟩
theorem relDs_rep {K : PySem.W.Frag} {N : Addr → Prop} {H : Hp} {vs : List V} {ds : List Dat} (h : RelDs K G N H vs ds) : ∀ n : Nat, RelDs K G N H (List.replicate n vs).flatten (List.replicate n ds).flatten
  | 0 => rfl
  | n + 1 => by
    rw [List.replicate_succ, List.replicate_succ, List.flatten_cons, List.flatten_cons]
    exact relDs_append h (relDs_rep h n)
def gRepL : Dat → Dat → Option R
  | .lst a, .int k => if decide (k ≤ 1048576) && decide (-1048576 ≤ k) && sizeOk (a.length * k.toNat) then some (.fresh (.lst (List.replicate k.toNat a).flatten)) else none
  | _, _ => none
def gRepT : Dat → Dat → Option R
  | .tup a, .int k => if !a.isEmpty && decide (2 ≤ k) && decide (k ≤ 1000) && decide (a.length ≤ 1000) then some (.val (.tup (List.replicate k.toNat a).flatten)) else none
  | _, _ => none
theorem opz_repL : OpZ X G (binaryOp .Mult) gRepL := by
  refine ⟨_, op_repL, fun N x y d1 d2 res H Q hl h1 h2 q k => ?_⟩
  unfold gRepL at q
  split at q <;> try cases q
  split at q <;> try cases q
  rename_i as j hz
  simp only [Bool.and_eq_true, decide_eq_true_eq] at hz
  obtain ⟨a, vs, rfl, s1, r1⟩ := ofL h1
  refine ⟨a, j, vs, rfl, ofI h2, s1, by omega, by omega, by rw [relDs_len r1]; exact sizeOk_le hz.2, fun p hp => ?_⟩
  exact k _ _ (Sam.new hp) ⟨p, rfl, hp, _, upd_same, (relDs_rep r1 j.toNat).up (new_up hp)⟩
theorem opz_repT : OpZ X G (binaryOp .Mult) gRepT := by
  refine ⟨_, op_repT, fun N x y d1 d2 res H Q hl h1 h2 q k => ?_⟩
  unfold gRepT at q
  split at q <;> try cases q
  split at q <;> try cases q
  rename_i as j hz
  simp only [Bool.and_eq_true, decide_eq_true_eq] at hz
  obtain ⟨a, vs, rfl, s1, r1⟩ := ofT h1
  have l1 := relDs_len r1
  have hne : vs ≠ [] := fun e => by
    rw [e] at l1
    have : as = [] := by simpa using l1.symm
    simp [this] at hz
  refine ⟨a, j, vs, rfl, ofI h2, s1, hne, hz.1.1.2, hz.1.2, by omega, fun p hp => ?_⟩
  exact k _ _ (Sam.new hp) (show RelD X.K G N _ _ _ from ⟨p, _, rfl, .inl ⟨.inl upd_same, new_notin hl hp⟩, (relDs_rep r1 j.toNat).up (Sam.new hp).up⟩)
/-- * on ints, lists times ints, tuples times ints -/
def gMulX : Dat → Dat → Option R := gOr gMul (gOr gRepL gRepT)
theorem oz_mulX : OpZ X G (binaryOp .Mult) gMulX := opz_or oz_mul (opz_or opz_repL opz_repT)
end
end Zz
end

section
set_option Elab.async false
set_option linter.all false
set_option maxRecDepth 100000
namespace Zz
open PySem PySem.Spec PyProof.Rows L2
/-! ### constants of the top that are data -/
section
variable (K : PySem.W.Frag)
mutual
def datB : Value → Dat → Bool
  | .none, .non => true
  | .bool b, .bl c => b == c
  | .int i _, .int j => i == j
  | .ref a, .tup ds => (match K.lookup a with
    | some ⟨.type t, _, .seq its _, _⟩ => t == "tuple" && decide (its.size ≤ sizeLine) && datsB its.toList ds
    | _ => false)
  | _, _ => false
def datsB : List Value → List Dat → Bool
  | [], [] => true
  | v :: vs, d :: ds => datB v d && datsB vs ds
  | _, _ => false
end
end
section
variable {K : PySem.W.Frag} {G : GG}
mutual
theorem datB_ok : ∀ {d : Dat} {u : Value}, datB K u d = true → ∃ v, RelV v u ∧ ∀ N H, RelD K G N H v d
  | .non, u, h => by
    cases u <;> simp [datB] at h
    exact ⟨.non, rfl, fun _ _ => rfl⟩
  | .bl c, u, h => by
    cases u <;> simp [datB] at h
    subst h
    exact ⟨.bl _, rfl, fun _ _ => rfl⟩
  | .int j, u, h => by
    cases u <;> simp [datB] at h
    subst h
    exact ⟨.int _, ⟨_, rfl⟩, fun _ _ => rfl⟩
  | .tup ds, u, h => by
    cases u <;> try (simp [datB] at h; done)
    rename_i a
    unfold datB at h
    split at h
    · rename_i t o its n sl e
      rw [Bool.and_eq_true, Bool.and_eq_true] at h
      obtain ⟨vs, r, q⟩ := datsB_ok h.2
      have ht : t = "tuple" := by simpa using h.1.1
      subst ht
      exact ⟨.ref a, rfl, fun N H => ⟨a, vs, rfl, .inr ⟨_, its, n, e, rfl, rfl, of_decide_eq_true h.1.2, r⟩, q N H⟩⟩
    · cases h
  | .str _, u, h => by cases u <;> simp [datB] at h
  | .lst _, u, h => by cases u <;> simp [datB] at h
  | .dct _ _, u, h => by cases u <;> simp [datB] at h
  | .set _, u, h => by cases u <;> simp [datB] at h
  | .fn _, u, h => by cases u <;> simp [datB] at h
  | .ty _, u, h => by cases u <;> simp [datB] at h
theorem datsB_ok : ∀ {ds : List Dat} {us : List Value}, datsB K us ds = true → ∃ vs, Vals vs us ∧ ∀ N H, RelDs K G N H vs ds
  | [], us, h => by
    cases us with
    | nil => exact ⟨[], .nil, fun _ _ => rfl⟩
    | cons u us => simp [datsB] at h
  | d :: ds, us, h => by
    cases us with
    | nil => simp [datsB] at h
    | cons u us =>
      unfold datsB at h
      rw [Bool.and_eq_true] at h
      obtain ⟨v, r, q⟩ := datB_ok h.1
      obtain ⟨vs, r2, q2⟩ := datsB_ok h.2
      exact ⟨v :: vs, .cons r r2, fun N H => ⟨v, vs, rfl, q N H, q2 N H⟩⟩
end
end
def obsC (n : Nat) (fa : List He.Fa) (fn : List He.DefD) (tb : List (Str × Option Str)) (cs : List (Str × Dat)) (g : Addr → Option Obj) : AlT :=
  (He.obsD fa fn (kT n tb g), (tb.all fun p => tabOk (kT n tb g) g p) && cs.all fun p => datB (kT n tb g) (.ref (He.ga (kT n tb g) p.1)) p.2)
def SaysC (fa : List He.Fa) (fn : List He.DefD) (tb : List (Str × Option Str)) (cs : List (Str × Dat)) (K : PySem.W.Frag) (h : Heap) : Prop := SaysT fa fn tb K h ∧ ∀ p ∈ cs, datB K (.ref (He.ga K p.1)) p.2 = true
def hookC (n : Nat) (fa : List He.Fa) (fn : List He.DefD) (tb : List (Str × Option Str)) (cs : List (Str × Dat)) : PySem.W.Hook where
  α := AlT
  obs := fun s => obsC n fa fn tb cs s.heap.get?
  val := fun _ => (He.valD fn, true)
  says := fun _ h => ∃ K : PySem.W.Frag, K.In h ∧ SaysC fa fn tb cs K h
  of := fun _ s e => by
    have e1 : He.obsD fa fn (kT n tb s.heap.get?) = He.valD fn := congrArg (fun z : AlT => z.1) e
    have e2 : ((tb.all fun p => tabOk (kT n tb s.heap.get?) s.heap.get? p) && cs.all fun p => datB (kT n tb s.heap.get?) (.ref (He.ga (kT n tb s.heap.get?) p.1)) p.2) = true := congrArg (fun z : AlT => z.2) e
    rw [Bool.and_eq_true] at e2
    refine ⟨kT n tb s.heap.get?, He.frG_in, ⟨e1, fun p hp => ?_⟩, fun p hp => List.all_eq_true.mp e2.2 p hp⟩
    have h1 := List.all_eq_true.mp e2.1 p hp
    obtain ⟨a1, h2⟩ := Bool.and_eq_true_iff.mp h1
    obtain ⟨a2, h3⟩ := Bool.and_eq_true_iff.mp h2
    obtain ⟨a3, a4⟩ := Bool.and_eq_true_iff.mp h3
    exact ⟨a1, a2, noTab_ok a3, by simpa using a4⟩
  keeps := fun _ h h' ⟨K, hK, ⟨c, t⟩, z⟩ k => ⟨K, PySem.W.Frag.In.keeps hK k, ⟨c, fun p hp => let ⟨a, b, d, e⟩ := t p hp; ⟨a, b, k _ _ d, e⟩⟩, z⟩
theorem obsC_eq {n : Nat} {fa : List He.Fa} {fn : List He.DefD} {tb : List (Str × Option Str)} {cs : List (Str × Dat)} {g : Addr → Option Obj} {s : Shared} (h : ∀ a, g a = s.heap.get? a) : obsC n fa fn tb cs g = (hookC n fa fn tb cs).obs s := by
  have e : g = s.heap.get? := funext h
  rw [e] <;> rfl
/-- a name of the top that holds such a constant -/
def CnD (K : PySem.W.Frag) (G : GG) (x : Str) (d : Dat) : Prop := ∃ (u : Value) (v : V), G.mg x = some u ∧ RelV v u ∧ ∀ N H, RelD K G N H v d
theorem SaysC.cn {K : PySem.W.Frag} {G : GG} {fa : List He.Fa} {fn : List He.DefD} {tb : List (Str × Option Str)} {cs : List (Str × Dat)} {h : Heap} (c : SaysC fa fn tb cs K h) {x : Str} {d : Dat} (hm : G.mg x = some (.ref (He.ga K x))) (hx : (x, d) ∈ cs) : CnD K G x d := by
  obtain ⟨v, r, q⟩ := datB_ok (G := G) (c.2 (x, d) hx)
  exact ⟨_, v, hm, r, q⟩
theorem pz_cn {X : Cx} {G : GG} {x : Str} {d : Dat} {pos : Pos} (hg : Gl X x) (hX : X.mg = G.mg) (c : CnD X.K G x d) (hd : (x == ("__debug__" : Str)) = false) : PE X (.Name x pos) (tEv X.K G (zC d)) := by
  obtain ⟨u, v, h1, h2, h3⟩ := c
  exact pz_gv hg (by rw [hX]; exact h1) h2 h3 hd
end Zz
end

section
set_option Elab.async false
set_option linter.all false
set_option maxRecDepth 100000
namespace Zz
open PySem PySem.Spec PyProof.Rows L2
section
variable {X : Cx} {G : GG}
/-! ### {} -/
theorem draw_keeps {a : Addr} {vk vx : List V} (h1 h2 : Heap) (r : DRaw a vk vx h1) (k : ∀ o, h1.get? a = some o → h2.get? a = some o) : DRaw a vk vx h2 := by
  obtain ⟨o, es, ep, uk, ux, e, r⟩ := r
  exact ⟨o, es, ep, uk, ux, k o e, r⟩
theorem pe_dnewZ {pos : Pos} : PE X (.Dict [] [] pos) (fun _ H Q => ∀ p, H p = none → Q (.ref p) (upd H p (hoD p [] []))) := ⟨fun pins s σ H Q I h =>
  wpAny_Dict_empty ⟨.ref s.heap.objs.size, _, I.laid (a := s.heap.objs.size) (o := hoD s.heap.objs.size [] []) (t' := s.toks) (fun _ _ q => Heap.get?_push_of_some _ q) (Nat.le_refl _)
    (show ObjOk X.prog X.w _ _ _ (hoD s.heap.objs.size [] []) from ⟨⟨_, #[], 0, [], [], Heap.get?_push_size _ rfl, ⟨rfl, rfl, rfl⟩, rfl, rfl, rfl, .nil, .nil⟩, ⟨_, Heap.get?_push_size _ rfl⟩, fun h1 h2 r k => draw_keeps h1 h2 r k⟩), rfl, h _ (I.hok.fresh (Nat.le_refl _))⟩⟩
def zDict0 : SE := fun env => some (.fresh (.dct [] []), env)
theorem pz_dict0 {pos : Pos} : PE X (.Dict [] [] pos) (tEv X.K G zDict0) := by
  refine PE.imp pe_dnewZ ?_
  rintro σ H Q ⟨M, env, r, env', e, q, k⟩ p hp
  cases q
  have s := Sam.new (o := hoD p [] []) hp
  have np : ¬ NN M σ env p := fun z => e.liveN z hp
  exact k _ _ (Post.sam e s) ⟨p, rfl, np, e.more s hp (by rw [upd_same]; exact fun z => by cases z), [], [], upd_same, rfl, rfl⟩ ⟨p, rfl, hp⟩
/-! ### isinstance of a dict -/
def rIsiD (K : PySem.W.Frag) : List V → Hp → VK → Prop := fun xs H Q => ∃ (a : Addr) (c : V) (vk vx : List V) (u : Value) (b : Bool), xs = [.ref a, c] ∧ ClsV c u ∧ Rd H a (hoD a vk vx) ∧ PySem.W.kitOne K (.type "dict") u = some b ∧ Q (.bl b) H
theorem call_isiD : CallR X (.builtin "isinstance") (rIsiD X.K) := by
  intro pins s σ H xs us Q I r h
  obtain ⟨a, c, vk, vx, u, b, rfl, k, hd, e, q⟩ := h
  obtain ⟨u1, u2, rfl, r1, r2⟩ := vals2 r
  have e2 := k.eq r2
  subst e2
  cases (show u1 = Value.ref a from r1)
  have hx : ObjOk X.prog X.w H s.heap a (hoD a vk vx) := by
    rcases hd with hd | ⟨o, hd⟩
    · exact I.hok a _ hd
    · exact (show ObjOk X.prog X.w H s.heap a (.frz o (hoD a vk vx)) from I.hok a _ hd).2
  obtain ⟨⟨o, es, ep, uk, ux, h1, h2, _⟩, _⟩ := hx
  exact PySem.W.kia_one PySem.W.kitx_dict I.kIn ⟨o, h1, h2.1⟩ e (fun z => nomatch z) fun tk => ⟨.bl b, H, I.tok tk, rfl, q⟩
def gIsiD : List Dat → Option R
  | [.dct _ _, .ty n] => if ["bool", "int", "str", "tuple", "list"].contains n then some (.val (.bl false)) else none
  | _ => none
def gIsiX (ds : List Dat) : Option R := match gIsi ds with
  | some r => some r
  | none => gIsiD ds
theorem cz_isiX : CallZ X G (.builtin "isinstance") gIsiX := by
  obtain ⟨r1, o1, k1⟩ := cz_isi (X := X) (G := G)
  refine ⟨_, o1.or call_isiD, fun N vs ds r H Q hl h q k => ?_⟩
  unfold gIsiX at q
  split at q
  · rename_i r' e
    cases q
    exact .inl (k1 N vs ds _ H Q hl h e k)
  · refine .inr ?_
    unfold gIsiD at q
    split at q <;> try cases q
    rename_i ks xs n e0
    split at q <;> try cases q
    rename_i hc
    obtain ⟨v, w, rfl, h1, h2⟩ := two_of h
    have e : w = .ty n := by
      rcases h2 with z | ⟨c, _, z⟩
      · exact z
      · exact z.elim
    subst e
    have hk : PySem.W.kitOne X.K (.type "dict") (.type n) = some false := by
      simp only [List.contains_iff_mem, List.mem_cons, List.not_mem_nil, or_false] at hc
      refine kit_ty ?_
      rcases hc with rfl | rfl | rfl | rfl | rfl <;> decide +kernel
    rcases h1 with ⟨a, vk, vx, rfl, z, _⟩ | ⟨a, rfl, vk, vx, z, _⟩
    · exact ⟨a, .ty n, vk, vx, _, false, rfl, .ty n, z.1, hk, k _ H (Sam.refl H) rfl⟩
    · exact ⟨a, .ty n, vk, vx, _, false, rfl, .ty n, .inl z, hk, k _ H (Sam.refl H) rfl⟩
end
end Zz
end

section
set_option Elab.async false
set_option linter.all false
set_option maxRecDepth 100000
namespace Zz
open PySem PySem.Spec PyProof.Rows L2
theorem room65 {k : Nat} {A : Around} (r : Room k A) : A.units + 65 < cLine := by have := r.un; omega
section
variable {X : Cx} {G : GG}
/-- is x among the list's items -/
def inD (a b : Dat) : Option Bool := match toP a, toP b with
  | some p, some (.list qs) => if SeqAt.shaped p && SeqAt.shaped (.list qs) then some (qs.any fun z => PyData.eqv z p) else none
  | _, _ => none
def gIn : Dat → Dat → Option R := fun a b => (inD a b).map fun k => .val (.bl k)
def gNotIn : Dat → Dat → Option R := fun a b => (inD a b).map fun k => .val (.bl (!k))
theorem oz_in (hu : X.A.units + 65 < cLine) : OpZ X G (compareOp .In) gIn := by
  refine ⟨_, op_inD hu, fun N x y d1 d2 res H Q hl h1 h2 q k => ?_⟩
  unfold gIn inD at q
  split at q <;> try cases q
  rename_i p1 p2 e1 e2
  split at q <;> try cases q
  rename_i hs
  simp only [Bool.and_eq_true] at hs
  exact ⟨p1, p2, dpT_of h1 e1, dpT_of h2 e2, hs.1, hs.2, k _ H (Sam.refl H) rfl⟩
theorem oz_notIn (hu : X.A.units + 65 < cLine) : OpZ X G (compareOp .NotIn) gNotIn := by
  refine ⟨_, op_notInD hu, fun N x y d1 d2 res H Q hl h1 h2 q k => ?_⟩
  unfold gNotIn inD at q
  split at q <;> try cases q
  rename_i p1 p2 e1 e2
  split at q <;> try cases q
  rename_i hs
  simp only [Bool.and_eq_true] at hs
  exact ⟨p1, p2, dpT_of h1 e1, dpT_of h2 e2, hs.1, hs.2, k _ H (Sam.refl H) rfl⟩
theorem oz_isNot : OpZ X G (compareOp .IsNot) gIsNot := by
  refine ⟨_, op_notN.or op_notBl, fun N x y d1 d2 res H Q hl h1 h2 q k => ?_⟩
  unfold gIsNot at q
  cases e : gIs d1 d2 with
  | none => rw [e] at q; cases q
  | some r =>
    rw [e] at q
    unfold gIs at e
    split at e <;> try cases e
    all_goals (dsimp only at q; cases q)
    · have e1 := ofN h1
      have e2 := ofN h2
      subst e1 e2
      exact .inl ⟨rfl, by simpa using k (.bl false) H (Sam.refl H) rfl⟩
    · have e1 := ofB h1
      have e2 := ofN h2
      subst e1 e2
      exact .inl ⟨rfl, by simpa using k (.bl true) H (Sam.refl H) rfl⟩
    · have e1 := ofI h1
      have e2 := ofN h2
      subst e1 e2
      exact .inl ⟨rfl, by simpa using k (.bl true) H (Sam.refl H) rfl⟩
    · have e1 := ofS h1
      have e2 := ofN h2
      subst e1 e2
      exact .inl ⟨rfl, by simpa using k (.bl true) H (Sam.refl H) rfl⟩
    · obtain ⟨a, vs, rfl, _⟩ := ofT h1
      have e2 := ofN h2
      subst e2
      exact .inl ⟨rfl, by simpa using k (.bl true) H (Sam.refl H) rfl⟩
    · obtain ⟨a, vs, rfl, _⟩ := ofL h1
      have e2 := ofN h2
      subst e2
      exact .inl ⟨rfl, by simpa using k (.bl true) H (Sam.refl H) rfl⟩
    · have e1 := ofB h1
      have e2 := ofB h2
      subst e1 e2
      exact .inr ⟨_, _, rfl, rfl, k _ H (Sam.refl H) rfl⟩
end
end Zz
end

section
set_option Elab.async false
set_option linter.all false
set_option maxRecDepth 100000
/-! t[::-1], t a tuple or a list -/
namespace HT2
open PySem PySem.Spec PyProof.Rows HT
section
variable {prog : Program} {w : World} {A : Around} {E : Value → Shared → Prop} {s : Shared}
theorem adjust_rev (n : Nat) : Builtin.Slice.sliceAdjust none none (-1) (n : Int) = ((n : Int) - 1, -1) := by
  unfold Builtin.Slice.sliceAdjust; simp
theorem places_rev (n : Nat) : Builtin.Slice.slicePlaces ((n : Int) - 1) (-1) (-1) = n := by
  unfold Builtin.Slice.slicePlaces
  have h1 : ¬ ((-1 : Int) > 0) := by decide
  have h2 : (-(-1) : Int) = 1 := by decide
  simp only [h1, if_false, h2, Int.ediv_one]
  split <;> omega
theorem fm_map {α β : Type} {f : α → Option β} {g : α → β} : ∀ {l : List α}, (∀ k ∈ l, f k = some (g k)) → l.filterMap f = l.map g
  | [], _ => rfl
  | k :: l, h => by
    rw [List.filterMap_cons, h k List.mem_cons_self, List.map_cons, fm_map fun x hx => h x (List.mem_cons_of_mem _ hx)]
theorem sliceApplied_rev {sl : Addr} {vk : Value} {n : Nat} {Q : Int × Int × Nat → Shared → Prop} {o : Obj} (hs : s.heap.get? sl = some o) (hd : o.data = .fields #[.none, .none, vk]) (pk : IsPart vk (some (-1)))
    (h : Q ((n : Int) - 1, -1, n) s) : wpAny (model prog w) A (Builtin.Slice.sliceApplied (.ref sl) (pure (n : Int))) Q E s := by
  unfold Builtin.Slice.sliceApplied Builtin.Slice.sliceFields
  refine wpAny_bind (wpAny_bind (wpAny_field hs hd (x := .none) rfl (wpAny_bind (wpAny_field hs hd (x := .none) rfl (wpAny_bind (wpAny_field hs hd (x := vk) rfl (wpAny_pure ?_)))))))
  refine wpAny_bind (slicePart_ pk ?_)
  show wpAny _ _ (if ((-1 : Int) == 0) = true then _ else _) _ _ s
  rw [if_neg (by decide)]
  refine wpAny_bind (slicePart_none (wpAny_bind (slicePart_none (wpAny_bind (wpAny_pure ?_)))))
  show wpAny _ _ (match Builtin.Slice.sliceAdjust none none (-1) (n : Int) with | (lo, hi) => pure (lo, (-1 : Int), Builtin.Slice.slicePlaces lo hi (-1))) _ _ s
  rw [adjust_rev]
  show wpAny _ _ (pure ((n : Int) - 1, (-1 : Int), Builtin.Slice.slicePlaces ((n : Int) - 1) (-1) (-1))) _ _ s
  rw [places_rev]
  exact wpAny_pure h
theorem pick_rev (xs : Array Value) : ((List.range xs.size).filterMap fun (k : Nat) => xs[(((xs.size : Int) - 1) + (k : Int) * (-1)).toNat]?) = xs.toList.reverse := by
  have e : ∀ k ∈ List.range xs.size, xs[(((xs.size : Int) - 1) + (k : Int) * (-1)).toNat]? = some (xs.toList.reverse.getD k .none) := fun k hk => by
    have hk := List.mem_range.mp hk
    have e1 : (((xs.size : Int) - 1) + (k : Int) * (-1)).toNat = xs.size - 1 - k := by omega
    rw [e1, List.getD_eq_getElem?_getD, List.getElem?_reverse (by simpa using hk)]
    simp
    rw [Array.getElem?_eq_getElem (by omega)]; rfl
  rw [fm_map e]
  refine List.ext_getElem (by simp) fun i h1 h2 => ?_
  rw [List.getElem_map, List.getElem_range, List.getD_eq_getElem?_getD, List.getElem?_eq_getElem h2]; rfl
theorem getItem_tuple_rev {t sl : Addr} {items : Array Value} {vk : Value} {Q : Value → Shared → Prop} {o : Obj} (ht : IsTup s.heap t items) (hs : s.heap.get? sl = some o) (hc : o.cls = .type "slice") (hd : o.data = .fields #[.none, .none, vk]) (pk : IsPart vk (some (-1)))
    (h : Q (.ref s.heap.objs.size) { s with heap := s.heap.push { cls := .type "tuple", data := .seq items.toList.reverse.toArray } })
    (hsz : items.size ≤ sizeLine) : wpAny (model prog w) A (getItem (.ref t) (.ref sl)) Q E s := by
  have htake : sizeOk (.seq items.toList.reverse.toArray) := by
    show items.toList.reverse.toArray.size ≤ sizeLine
    simpa using hsz
  have hTs : s.TypeIs (.ref sl) "slice" := ⟨o, hs, hc⟩
  unfold getItem
  try with_reducible refine wpAny_holding ?_
  first | refine wpAny_bind (wpAny_pure ?_) | skip
  refine wpAny_bind (wpAny_sequenceKey ht.typeIs (by decide) ?_)
  refine wpAny_bind (wpAny_callSpecial?_slot (name := Str.ofString "__getitem__") ht.typeIs PyProof.Rows.slot_tuple_getitem
    (wpAny_call_entry PyProof.Rows.slot_tuple_getitem ht.typeIs entry_tuple_getitem ?_ (args_tuple_getitem _ _)))
  show wpAny _ _ (Builtin.Tuple.tupleItemsOf (.ref t) >>= _) _ _ s
  refine wpAny_bind (tupleItemsOf_ ht ?_)
  refine wpAny_bind (wpAny_typeOf hTs ?_)
  rw [if_pos (by decide)]
  refine wpAny_bind (sliceApplied_rev hs hd pk ?_)
  have hno : ¬ ((((items.size : Int) - 1) == 0 && (-1 : Int) == 1 && items.size == items.size) = true) := by
    intro q
    rw [Bool.and_eq_true, Bool.and_eq_true] at q
    exact absurd q.1.2 (by decide)
  show wpAny _ _ (if ((((items.size : Int) - 1) == 0 && (-1 : Int) == 1 && items.size == items.size)) = true then _ else _) _ _ s
  rw [if_neg hno, pick_rev]
  first
    | exact wpAny_bind (m := Builtin.Tuple.tupleExact _) (wpAny_newObj_type (wpAny_pure ⟨_, rfl, wpAny_pure h⟩) htake)
    | exact wpAny_bind (m := Builtin.Tuple.tupleExact _) (wpAny_newObj_type (wpAny_bind (wpAny_pure (wpAny_pure ⟨_, rfl, wpAny_pure h⟩))) htake)
    | exact wpAny_bind (wpAny_bind (m := Builtin.Tuple.tupleExact _) (wpAny_newObj_type (wpAny_pure (wpAny_pure ⟨_, rfl, wpAny_pure h⟩)) htake))
    | exact wpAny_bind (wpAny_bind (m := Builtin.Tuple.tupleExact _) (wpAny_newObj_type (wpAny_pure ⟨_, rfl, wpAny_pure h⟩) htake))
end
end HT2
namespace Zz
open PySem PySem.Spec PyProof.Rows L2
section
variable {X : Cx} {G : GG}
def tRevT (K : PySem.W.Frag) (te : TE) : TE := fun σ H Q => te σ H fun x H1 => (∃ a xs, x = .ref a ∧ SqL K H1 a xs ∧ ∀ p, H1 p = none → Q (.ref p) (upd H1 p (.lst xs.reverse))) ∨ ∃ a xs, x = .ref a ∧ SqT K H1 a xs ∧ ∀ p, H1 p = none → Q (.ref p) (upd H1 p (.tup xs.reverse))
theorem pe_revT {e : Expr} {te : TE} {k : Nat} {p1 p2 p3 pos : Pos} (he : PE X e te) : PE X (.Subscript e (.Slice none none (some (.UnaryOp .USub (.Constant (.int 1) k p1) p2)) p3) pos) (tRevT X.K te) := by
  refine ⟨fun pins s σ H Q I h => ?_⟩
  refine Subscript_ (thn (he.run pins s σ H _ I h) fun v s1 ⟨x, H1, I1, r1, q1⟩ => ?_)
  have hst : PO X (some (.UnaryOp .USub (.Constant (.int 1) k p1) p2)) (tPart (tUn (rU fun i => .int (-i)) (tC (.int 1)))) := po_some (pe_un un_neg pe_int)
  refine wpAny_Slice (thn (po_none.run pins s1 σ H1 (fun o H2 => o = none ∧ H2 = H1) I1 ⟨rfl, rfl⟩) fun vl s2 ⟨l, H2, I2, pl, el, e2⟩ => ?_)
  subst el e2
  refine thn (po_none.run pins s2 σ H2 (fun o H3 => o = none ∧ H3 = H2) I2 ⟨rfl, rfl⟩) fun vu s3 ⟨u, H3, I3, pu, eu, e3⟩ => ?_
  subst eu e3
  refine thn (hst.run pins s3 σ H3 (fun o H4 => o = some (-1) ∧ H4 = H3) I3 ⟨1, rfl, -1, rfl, rfl, rfl⟩) fun vs s4 ⟨o, H4, I4, ps, eo, e4⟩ => ?_
  subst eo e4
  have I5 : Inv X pins σ H4 { s4 with heap := s4.heap.push { cls := .type "slice", data := .fields #[vl, vu, vs] } } := I4.kept (t' := s4.toks) fun b ob q => Heap.get?_push_of_some _ q
  rcases q1 with ⟨a, xs, ex, hx, q⟩ | ⟨a, xs, ex, hx, q⟩
  · subst ex
    cases r1
    obtain ⟨its, r, ht, hz⟩ := I5.list hx
    have hlen := r.length
    show wpAny (model X.prog X.w) X.A (subscriptTail e (.Slice none none (some (.UnaryOp .USub (.Constant (.int 1) k p1) p2)) p3) (.ref a) (.ref s4.heap.objs.size)) (EP X pins σ Q) X.xe { s4 with heap := s4.heap.push { cls := .type "slice", data := .fields #[vl, vu, vs] } }
    refine tail_any (ops := [.ref a, .ref s4.heap.objs.size]) ht.isList.typeIs (PySem.slot_list_getitem.lookup) ?_ (by with_unfolding_all rfl)
    refine wpAny_getItem_list_slice ht.isList (Heap.IsSliceOf.new _ vl vu vs) pl pu ps (by decide) ?_ (by rw [List.size_toArray]; omega)
    rw [PySem.W.krv_pick]
    refine ⟨.ref _, _, I5.laid (t' := s4.toks) (o := .lst xs.reverse) (fun b ob q => Heap.get?_push_of_some _ q) (Nat.le_refl _) ?_, rfl, q _ (I5.hok.fresh (Nat.le_refl _))⟩
    exact ⟨by rw [List.length_reverse]; exact hz, _, 0, r.reverse, Heap.get?_push_size _ rfl⟩
  · subst ex
    cases r1
    cases pl
    cases pu
    obtain ⟨its, r, ht, hz⟩ := I5.tuple hx
    have hlen := r.length
    show wpAny (model X.prog X.w) X.A (subscriptTail e (.Slice none none (some (.UnaryOp .USub (.Constant (.int 1) k p1) p2)) p3) (.ref a) (.ref s4.heap.objs.size)) (EP X pins σ Q) X.xe { s4 with heap := s4.heap.push { cls := .type "slice", data := .fields #[.none, .none, vs] } }
    refine tail_any (ops := [.ref a, .ref s4.heap.objs.size]) ht.typeIs (PyProof.Rows.slot_tuple_getitem.lookup) ?_ (by with_unfolding_all rfl)
    refine HT2.getItem_tuple_rev ht (Heap.get?_push_size _ rfl) rfl rfl ps ?_ (by rw [List.size_toArray]; omega)
    refine ⟨.ref _, _, I5.laid (t' := s4.toks) (o := .tup xs.reverse) (fun b ob q => Heap.get?_push_of_some _ q) (Nat.le_refl _) ?_, rfl, q _ (I5.hok.fresh (Nat.le_refl _))⟩
    exact ⟨by rw [List.length_reverse]; exact hz, _, r.reverse, IsTup.new _ _⟩
def gRevV : Dat → Option R
  | .lst l => some (.fresh (.lst l.reverse))
  | .tup l => some (.val (.tup l.reverse))
  | _ => none
def zRevV (fa : SE) : SE := fun env => match fa env with
  | some (r1, e1) => match rdv e1 (nrm r1) with
    | some d => match gRevV d with
      | some r => some (r, e1)
      | none => none
    | none => none
  | none => none
theorem pz_revV {e : Expr} {k : Nat} {p1 p2 p3 pos : Pos} {fa : SE} (he : PE X e (tEv X.K G fa)) : PE X (.Subscript e (.Slice none none (some (.UnaryOp .USub (.Constant (.int 1) k p1) p2)) p3) pos) (tEv X.K G (zRevV fa)) := by
  refine PE.imp (pe_revT he) ?_
  rintro σ H Q ⟨M, env, r, env', e, q, k⟩
  unfold zRevV at q
  split at q <;> try cases q
  rename_i r1 e1 q1
  split at q <;> try cases q
  rename_i d q4
  split at q <;> try cases q
  rename_i r0 q5
  refine tEv_run e q1 fun v H1 p1 z1 _ => ?_
  have rx := rdv_ok p1.env z1.nrm q4
  unfold gRevV at q5
  split at q5 <;> try cases q5
  · rename_i l
    obtain ⟨a, vs, rfl, s1, h1⟩ := ofL rx
    refine .inl ⟨a, vs, rfl, s1, fun p hp => ?_⟩
    obtain ⟨p4, z4, n4⟩ := res0_ok (r := .fresh (.lst l.reverse)) (v := .ref p) p1.env (Sam.new (o := .lst vs.reverse) hp) (show Res0 X.K G _ _ _ _ _ from ⟨p, rfl, hp, _, upd_same, (relDs_rev h1).up (new_up hp)⟩)
    exact k _ _ (p1.trans p4) z4 (n4.back p1)
  · rename_i l
    obtain ⟨a, vs, rfl, s1, h1⟩ := ofT rx
    refine .inr ⟨a, vs, rfl, s1, fun p hp => ?_⟩
    obtain ⟨p4, z4, n4⟩ := res0_ok (r := .val (.tup l.reverse)) (v := .ref p) p1.env (Sam.new (o := .tup vs.reverse) hp) (show Res0 X.K G _ _ _ _ _ from ⟨p, vs.reverse, rfl, .inl ⟨.inl upd_same, fun z => absurd hp (p1.env.liveN z)⟩, (relDs_rev h1).up (Sam.new (o := .tup vs.reverse) hp).up⟩)
    exact k _ _ (p1.trans p4) z4 (n4.back p1)
end
theorem y_revV {E E1 : En} {r1 r : R} {d : Dat} {fa : SE} (ha : fa E = some (r1, E1)) (h1 : rdv E1 (nrm r1) = some d) (h : gRevV d = some r) : zRevV fa E = some (r, E1) := by
  unfold zRevV; simp only [ha, h1, h]
theorem g_revVL {α : Type} {l : List α} {D : α → Dat} : gRevV (.lst (l.map D)) = some (.fresh (.lst (l.reverse.map D))) := by
  unfold gRevV; rw [List.map_reverse]
theorem g_revVT {α : Type} {l : List α} {D : α → Dat} : gRevV (.tup (l.map D)) = some (.val (.tup (l.reverse.map D))) := by
  unfold gRevV; rw [List.map_reverse]
end Zz
end

section
set_option linter.all false
set_option maxRecDepth 100000
namespace Zz
open PySem PySem.Spec PyProof.Rows L2

section
variable {E E0 E1 E2 E3 E4 : En} {r r1 r2 r3 : R} {d d1 d2 d3 : Dat} {b b1 b2 : Bool} {rs : List R} {ds : List Dat} {i : Nat} {fa fb fc fe : SE} {fs : SA} {t u : ST} {g g' : Dat → Dat → Option R} {it : SI} {gt : SG} {vs : List Nat} {io : Bool}
theorem y_c : zC d E = some (.val d, E) := rfl
theorem y_sh (h : E[i]? = some (some (Sl.sh d))) : zVar i E = some (.val d, E) := by unfold zVar; rw [h]
theorem y_ow (h : E[i]? = some (some (Sl.ow d))) : zVar i E = some (.bor i, E) := by unfold zVar; rw [h]
theorem y_bin (ha : fa E = some (r1, E1)) (hb : fb E1 = some (r2, E2)) (h1 : rdv E2 (nrm r1) = some d1) (h2 : rdv E2 (nrm r2) = some d2) (h : g d1 d2 = some r) : zBin g fa fb E = some (r, E2) := by
  unfold zBin; simp only [ha, hb, h1, h2, h]
theorem y_un {g : Dat → Option R} (ha : fa E = some (r1, E1)) (h1 : rdv E1 (nrm r1) = some d1) (h : g d1 = some r) : zUn g fa E = some (r, E1) := by
  unfold zUn; simp only [ha, h1, h]
theorem y_rev (ha : fa E = some (r1, E1)) (h1 : rdv E1 (nrm r1) = some d1) (h : gRev d1 = some r) : zRev fa E = some (r, E1) := by
  unfold zRev; simp only [ha, h1, h]
theorem y_tru (ha : fa E = some (r, E1)) (h1 : rdv E1 r = some d) (h : truD d = some b) : zTru fa E = some (b, E1) := by
  unfold zTru; simp only [ha, h1, h]
theorem y_tb (h : fa E = some (.val (.bl b), E1)) : zTB fa E = some (b, E1) := by unfold zTB; rw [h]
theorem y_tnot (h : t E = some (b, E1)) : zTNot t E = some (!b, E1) := by unfold zTNot; rw [h]
theorem y_tand (h : t E = some (b, E)) (h2 : b = true → u E = some (b2, E)) : zTAnd t u E = some (b && b2, E) := by
  unfold zTAnd; rw [h]; cases b <;> simp at h2 ⊢; exact h2
theorem y_tor (h : t E = some (b, E)) (h2 : b = false → u E = some (b2, E)) : zTOr t u E = some (b || b2, E) := by
  unfold zTOr; rw [h]; cases b <;> simp at h2 ⊢; exact h2
theorem y_andV (h : fa E = some (.val (.bl b), E)) (h2 : b = true → fb E = some (.val (.bl b2), E)) : zAndV fa fb E = some (.val (.bl (b && b2)), E) := by
  unfold zAndV; rw [h]; cases b <;> simp at h2 ⊢; exact h2
theorem y_orV (h : fa E = some (.val (.bl b), E)) (h2 : b = false → fb E = some (.val (.bl b2), E)) : zOrV fa fb E = some (.val (.bl (b || b2)), E) := by
  unfold zOrV; rw [h]; cases b <;> simp at h2 ⊢; exact h2
theorem y_oft (h : t E = some (b, E1)) : zOfT t E = some (.val (.bl b), E1) := by unfold zOfT; rw [h]
theorem y_if (h : t E = some (b, E1)) (h1 : b = true → fa E1 = some (.val d1, E2)) (h2 : b = false → fb E1 = some (.val d2, E2)) : zIf t fa fb E = some (.val (if b then d1 else d2), E2) := by
  unfold zIf; rw [h]; cases b <;> simp at h1 h2 ⊢ <;> assumption
theorem y_ifF (h : t E = some (b, E1)) (h1 : b = true → fa E1 = some (.fresh d1, E2)) (h2 : b = false → fb E1 = some (.fresh d2, E2)) : zIf t fa fb E = some (.fresh (if b then d1 else d2), E2) := by
  unfold zIf; rw [h]; cases b <;> simp at h1 h2 ⊢ <;> assumption
theorem y_ift (h : t E = some (true, E1)) (h1 : fa E1 = some (r, E2)) : zIf t fa fb E = some (r, E2) := by unfold zIf; rw [h]; exact h1
theorem y_iff (h : t E = some (false, E1)) (h1 : fb E1 = some (r, E2)) : zIf t fa fb E = some (r, E2) := by unfold zIf; rw [h]; exact h1
theorem y_chain (ha : fa E = some (r1, E1)) (hb : fb E1 = some (r2, E2)) (h1 : rdv E2 (nrm r1) = some d1) (h2 : rdv E2 (nrm r2) = some d2) (h : g d1 d2 = some (.val (.bl b1))) (hc : fc E2 = some (r3, E2)) (h4 : rdv E2 (nrm r3) = some d3) (h' : g' d2 d3 = some (.val (.bl b2))) :
    zChain g g' fa fb fc E = some (.val (.bl (b1 && b2)), E2) := by
  unfold zChain; simp only [ha, hb, h1, h2, h]; cases b1 <;> simp [hc, h2, h4, h']
theorem y_nil : zNil E = some ([], E) := rfl
theorem y_cons (ha : fa E = some (r, E1)) (hn : nrm r = r2) (hs : fs E1 = some (rs, E2)) : zCons fa fs E = some (r2 :: rs, E2) := by subst hn; unfold zCons; simp only [ha, hs]
theorem nrm_v : nrm (.val d) = .val d := rfl
theorem nrm_f : nrm (.fresh d) = .val d := rfl
theorem nrm_b : nrm (.bor i) = .bor i := rfl
theorem esc_v : esc E (.val d) = some (d, E) := rfl
theorem esc_f : esc E (.fresh d) = some (d, E) := rfl
theorem esc_bs (h : E[i]? = some (some (.sh d))) : esc E (.bor i) = some (d, E) := by unfold esc; simp only [h]
theorem esc_bo (h : E[i]? = some (some (.ow d))) (hs : E.set i (some (.sh d)) = E1) : esc E (.bor i) = some (d, E1) := by unfold esc; simp only [h, hs]
theorem escs_nil : escs E [] = some ([], E) := rfl
theorem escs_cons (h : esc E r = some (d, E1)) (h2 : escs E1 rs = some (ds, E2)) : escs E (r :: rs) = some (d :: ds, E2) := by unfold escs; simp only [h, h2]
theorem y_tup (hs : fs E = some (rs, E1)) (he : escs E1 rs = some (ds, E2)) (hz : sizeOk ds.length = true) : zTup fs E = some (.val (.tup ds), E2) := by unfold zTup; simp only [hs, he, hz, if_true]
theorem y_lst (hs : fs E = some (rs, E1)) (he : escs E1 rs = some (ds, E2)) (hz : sizeOk ds.length = true) : zLst fs E = some (.fresh (.lst ds), E2) := by unfold zLst; simp only [hs, he, hz, if_true]
theorem y_callB {g : List Dat → Option R} (hs : fs E = some (rs, E1)) (h1 : rdvs E1 rs = some ds) (h : g ds = some r) : zCallB g fs E = some (r, E1) := by unfold zCallB; simp only [hs, h1, h]
theorem y_call {F : FS} {fr : Bool} {l : Dat} (hs : fs E = some (rs, E1)) (hio : F.io = false) (he : escs E1 rs = some (ds, E2)) (har : ds.length = F.ar) (hr : F.run ds = some (d, fr, l)) : zCall F fs E = some (resOf d fr, E2) := by
  unfold zCall; simp only [hs, hio, he, har, if_true, hr]
theorem y_callV {F : FS} {l : Dat} (hs : fs E = some (rs, E1)) (hio : F.io = false) (he : escs E1 rs = some (ds, E2)) (har : ds.length = F.ar) (hr : F.run ds = some (d, false, l)) : zCall F fs E = some (.val d, E2) := y_call hs hio he har hr
theorem y_callF {F : FS} {l : Dat} (hs : fs E = some (rs, E1)) (hio : F.io = false) (he : escs E1 rs = some (ds, E2)) (har : ds.length = F.ar) (hr : F.run ds = some (d, true, l)) : zCall F fs E = some (.fresh d, E2) := y_call hs hio he har hr
theorem y_callio {F : FS} {l l' : Dat} {rs0 : List R} (hs : fs E = some (rs0, E1)) (hc : rs0 = .bor i :: rs) (hio : F.io = true) (he : escs E1 rs = some (ds, E2)) (hi : E2[i]? = some (some (.ow l))) (har : ds.length + 1 = F.ar) (hr : F.run (l :: ds) = some (d, false, l')) (hset : E2.set i (some (.ow l')) = E3) : zCall F fs E = some (.val d, E3) := by
  subst hc
  unfold zCall; simp only [hs, hio, he, hi, har, if_true, hr, hset]; rfl
theorem y_sl {fl fh : SO} {lo hi : Option Int} (ha : fa E = some (r1, E1)) (hl : fl E1 = some (lo, E2)) (hh : fh E2 = some (hi, E3)) (h1 : rdv E3 (nrm r1) = some d) (h : gSl d lo hi = some r) : zSl fa fl fh E = some (r, E3) := by
  unfold zSl; simp only [ha, hl, hh, h1, h]
theorem y_nop : zNoP E = some (none, E) := rfl
theorem y_p {k : Int} (ha : fa E = some (r, E1)) (h : rdv E1 r = some (.int k)) : zP fa E = some (some k, E1) := by unfold zP; simp only [ha, h]
/-! iteration -/
theorem y_itL (ha : fa E = some (r, E1)) (he : esc E1 r = some (.lst ds, E2)) : zIt fa E = some (ds, E2) := by unfold zIt; simp only [ha, he]
theorem y_itT (ha : fa E = some (r, E1)) (he : esc E1 r = some (.tup ds, E2)) : zIt fa E = some (ds, E2) := by unfold zIt; simp only [ha, he]
theorem rngD_map : ∀ (n : Nat) (i : Int), rngD i n = (List.range n).map fun k => .int (i + (k : Nat))
  | 0, i => rfl
  | n + 1, i => by
    rw [rngD, rngD_map n (i + 1), List.range_succ_eq_map, List.map_cons, List.map_map]
    simp only [Int.natCast_zero, Int.add_zero, List.cons.injEq, true_and]
    refine List.map_congr_left fun k _ => ?_
    simp only [Function.comp, Dat.int.injEq]
    push_cast
    omega
theorem inB_of {j : Int} (h1 : -(2 ^ 62) ≤ j) (h2 : j < 2 ^ 62) : inB j = true := by unfold inB; simp only [h1, h2, decide_true, Bool.and_self]
/-- how many turns -/
def NatOf (j : Int) (n : Nat) : Prop := j.toNat = n
theorem natOf_cast {n : Nat} : NatOf (n : Int) n := by simp [NatOf]
theorem natOf_sub {a b : Nat} : NatOf ((a : Int) - (b : Int)) (a - b) := by unfold NatOf; omega
theorem natOf_sub1 {a : Nat} : NatOf ((a : Int) - 1) (a - 1) := by unfold NatOf; omega
theorem natOf_add1 {a : Nat} : NatOf ((a : Int) + 1) (a + 1) := by unfold NatOf; omega
theorem natOf_lit {j : Int} : NatOf j j.toNat := rfl
theorem y_rng1 {j : Int} {n : Nat} (hs : fs E = some (rs, E1)) (h : rdvs E1 rs = some [.int j]) (hn : NatOf j n) (h1 : -(2 ^ 62) ≤ j) (h2 : j < 2 ^ 62) : zRng fs E = some ((List.range n).map fun (k : Nat) => Dat.int (k : Int), E1) := by
  unfold NatOf at hn; subst hn
  unfold zRng; simp only [hs, h, inB_of h1 h2, if_true, rngD_map, Int.zero_add]
theorem y_rng2 {i j : Int} {n : Nat} (hs : fs E = some (rs, E1)) (h : rdvs E1 rs = some [.int i, .int j]) (hn : NatOf (j - i) n) (h3 : -(2 ^ 62) ≤ i) (h4 : i < 2 ^ 62) (h1 : -(2 ^ 62) ≤ j) (h2 : j < 2 ^ 62) : zRng fs E = some ((List.range n).map fun (k : Nat) => Dat.int (i + (k : Int)), E1) := by
  unfold NatOf at hn; subst hn
  unfold zRng; simp only [hs, h, inB_of h1 h2, inB_of h3 h4, Bool.and_self, if_true, rngD_map]
theorem zipD_map {α β : Type} {D : α → Dat} {D' : β → Dat} : ∀ (l : List α) (m : List β), zipD (l.map D) (m.map D') = (l.zip m).map fun p => .tup [D p.1, D' p.2]
  | [], m => by cases m <;> rfl
  | x :: l, [] => rfl
  | x :: l, y :: m => by rw [List.map_cons, List.map_cons, zipD, zipD_map l m, List.zip_cons_cons, List.map_cons]
theorem y_zipT {α β : Type} {D : α → Dat} {D' : β → Dat} {l : List α} {m : List β} (hs : fs E = some (rs, E1)) (he : escs E1 rs = some ([.tup (l.map D), .tup (m.map D')], E2)) : zZip fs E = some ((l.zip m).map fun p => Dat.tup [D p.1, D' p.2], E2) := by
  unfold zZip; simp only [hs, he, zipD_map]
theorem y_zipL {α β : Type} {D : α → Dat} {D' : β → Dat} {l : List α} {m : List β} (hs : fs E = some (rs, E1)) (he : escs E1 rs = some ([.lst (l.map D), .lst (m.map D')], E2)) : zZip fs E = some ((l.zip m).map fun p => Dat.tup [D p.1, D' p.2], E2) := by
  unfold zZip; simp only [hs, he, zipD_map]
theorem enumD_map {α : Type} {D : α → Dat} : ∀ (l : List α) (n : Nat), enumD n (l.map D) = (l.zipIdx n).map fun p => .tup [.int (p.2 : Nat), D p.1]
  | [], n => rfl
  | x :: l, n => by rw [List.map_cons, enumD, enumD_map l (n + 1), List.zipIdx_cons, List.map_cons]
theorem y_enumT {α : Type} {D : α → Dat} {l : List α} (hs : fs E = some (rs, E1)) (he : escs E1 rs = some ([.tup (l.map D)], E2)) : zEnum fs E = some (l.zipIdx.map fun p => Dat.tup [.int (p.2 : Nat), D p.1], E2) := by
  unfold zEnum; simp only [hs, he, enumD_map]
theorem y_enumL {α : Type} {D : α → Dat} {l : List α} (hs : fs E = some (rs, E1)) (he : escs E1 rs = some ([.lst (l.map D)], E2)) : zEnum fs E = some (l.zipIdx.map fun p => Dat.tup [.int (p.2 : Nat), D p.1], E2) := by
  unfold zEnum; simp only [hs, he, enumD_map]
/-! targets -/
theorem set_z {α : Type} {a x : α} {l : List α} : (a :: l).set 0 x = x :: l := rfl
theorem set_s {α : Type} {a x : α} {l l' : List α} {n : Nat} (h : l.set n x = l') : (a :: l).set (n + 1) x = a :: l' := by rw [← h]; rfl
theorem y_gN (hi : i < E.length) (h : E.set i (some (.sh d)) = E1) : gN false i d E = some E1 := by
  unfold gN put; simp only [hi, decide_true, Bool.false_and, Bool.not_true, Bool.or_false, Bool.false_eq_true, if_false, h]
theorem y_gNio {n : Nat} (hi : n + 1 < E.length) (h : E.set (n + 1) (some (.sh d)) = E1) : gN io (n + 1) d E = some E1 := by
  unfold gN put; simp [hi, h]
theorem y_gT {gs : List SG} (h : gTs gs ds E = some E1) : gT gs (.tup ds) E = some E1 := h
theorem y_gTc {gs : List SG} (h : gt d E = some E1) (h2 : gTs gs ds E1 = some E2) : gTs (gt :: gs) (d :: ds) E = some E2 := by unfold gTs; simp only [h, h2]
theorem y_gTn : gTs [] [] E = some E := rfl
end
end Zz
end

section
set_option linter.all false
set_option maxRecDepth 100000
namespace Zz
open PySem PySem.Spec PyProof.Rows L2
/-- true, not looked into -/
def Tr (b : Bool) : Prop := b = true
theorem filt_true {α : Type} (l : List α) : l.filter (fun _ => true) = l := List.filter_eq_self.mpr fun _ _ => rfl
theorem wipe_get (E : En) : ∀ (vs : List Nat) (i : Nat), i ∉ vs → (wipeE E vs)[i]? = E[i]?
  | [], i, _ => rfl
  | v :: vs, i, h => by
    unfold wipeE
    rw [List.getElem?_set_ne (fun e => h (by simp [e])), wipe_get E vs i fun z => h (List.mem_cons_of_mem _ z)]
theorem unwipe_wipe (E : En) (vs : List Nat) : unwipe E (wipeE E vs) vs = E := by
  unfold unwipe
  apply List.ext_getElem?
  intro i
  rw [List.getElem?_map]
  by_cases hi : i < E.length
  · rw [List.getElem?_range hi, Option.map_some]
    by_cases hv : i ∈ vs
    · rw [if_pos hv, List.getElem?_eq_getElem hi]; rfl
    · rw [if_neg hv, wipe_get E vs i hv, List.getElem?_eq_getElem hi]; rfl
  · rw [List.getElem?_eq_none (by simpa using hi), List.getElem?_eq_none (by omega)]; rfl
theorem wipe_nil {E : En} : wipeE E [] = E := rfl
theorem wipe_cons {E E1 E2 : En} {v : Nat} {vs : List Nat} (h : wipeE E vs = E1) (h2 : E1.set v none = E2) : wipeE E (v :: vs) = E2 := by rw [← h2, ← h]; rfl
section
variable {E E0 E1 E2 E3 E4 : En} {r r1 r2 r3 : R} {d d1 d2 d3 : Dat} {b b1 b2 : Bool} {rs : List R} {ds : List Dat} {i : Nat} {fa fb fc fe : SE} {fs : SA} {t t1 u : ST} {it it1 : SI} {gt gt1 : SG} {vs vs1 : List Nat} {io : Bool} {α β : Type} {l : List α} {D h : α → Dat} {p q : α → Bool} {env1 : α → En} {rr : α → R}
theorem lcLoop_eq (hg : ∀ x, gt (D x) E0 = some (env1 x)) (hb : ∀ x, wipeE (env1 x) vs = E0) : ∀ (l : List α) (acc : List Dat), (∀ x ∈ l, t (env1 x) = some (p x, env1 x)) → (∀ x ∈ l, p x = true → fe (env1 x) = some (rr x, env1 x)) → (∀ x, esc (env1 x) (rr x) = some (h x, env1 x)) →
    acc.length + l.length ≤ 16777216 → lcLoop gt t fe vs (l.map D) E0 acc = some (acc ++ (l.filter p).map h, E0)
  | [], acc, _, _, _, _ => by simp [lcLoop]
  | x :: l, acc, ht, hf, he, hz => by
    simp only [List.length_cons] at hz
    rw [List.map_cons]
    unfold lcLoop
    simp only [hg x, ht x List.mem_cons_self]
    cases hp : p x with
    | true =>
      have s : sizeOk (acc.length + 1) = true := by simp [sizeOk]; omega
      simp only [hf x List.mem_cons_self hp, he x, s, if_true, hb x]
      rw [lcLoop_eq hg hb l _ (fun y hy => ht y (List.mem_cons_of_mem _ hy)) (fun y hy => hf y (List.mem_cons_of_mem _ hy)) he (by simp; omega)]
      simp [List.filter_cons, hp]
    | false =>
      simp only [hb x]
      rw [lcLoop_eq hg hb l _ (fun y hy => ht y (List.mem_cons_of_mem _ hy)) (fun y hy => hf y (List.mem_cons_of_mem _ hy)) he (by omega)]
      simp [List.filter_cons, hp]
theorem y_lc (hi : it E = some (l.map D, E1)) (hpl : plainB E1 vs = true) (hw : wipeE E1 vs = E0) (hg : ∀ x, gt (D x) E0 = some (env1 x)) (hb : ∀ x, wipeE (env1 x) vs = E0)
    (ht : ∀ x ∈ l, t (env1 x) = some (p x, env1 x)) (hf : ∀ x ∈ l, Tr (p x) → fe (env1 x) = some (rr x, env1 x)) (he : ∀ x, esc (env1 x) (rr x) = some (h x, env1 x)) (hz : l.length ≤ 16777216) :
    zLc it gt t fe vs E = some (.fresh (.lst ((l.filter p).map h)), E1) := by
  unfold zLc
  have hu := unwipe_wipe E1 vs
  rw [hw] at hu
  simp only [hi, hpl, hw, hu, if_true, lcLoop_eq hg hb l [] ht hf he (by simpa using hz), List.nil_append]
theorem y_lcy (hi : it E = some (l.map D, E1)) (hpl : plainB E1 vs = true) (hw : wipeE E1 vs = E0) (hg : ∀ x, gt (D x) E0 = some (env1 x)) (hb : ∀ x, wipeE (env1 x) vs = E0)
    (hf : ∀ x ∈ l, fe (env1 x) = some (rr x, env1 x)) (he : ∀ x, esc (env1 x) (rr x) = some (h x, env1 x)) (hz : l.length ≤ 16777216) :
    zLc it gt zYes fe vs E = some (.fresh (.lst (l.map h)), E1) := by
  have := y_lc (t := zYes) (p := fun _ => true) (l := l) (D := D) hi hpl hw hg hb (fun x _ => rfl) (fun x hx _ => hf x hx) he hz
  rw [this, filt_true]
theorem y_tg (hi : it E = some (l.map D, E1)) (hpl : plainB E1 vs = true) (hw : wipeE E1 vs = E0) (hg : ∀ x, gt (D x) E0 = some (env1 x)) (hb : ∀ x, wipeE (env1 x) vs = E0)
    (ht : ∀ x ∈ l, t (env1 x) = some (p x, env1 x)) (hf : ∀ x ∈ l, Tr (p x) → fe (env1 x) = some (rr x, env1 x)) (he : ∀ x, esc (env1 x) (rr x) = some (h x, env1 x)) (hz : l.length ≤ 16777216) :
    zTupG it gt t fe vs E = some (.val (.tup ((l.filter p).map h)), E1) := by
  unfold zTupG
  have hu := unwipe_wipe E1 vs
  rw [hw] at hu
  simp only [hi, hpl, hw, hu, if_true, lcLoop_eq hg hb l [] ht hf he (by simpa using hz), List.nil_append]
theorem y_tgy (hi : it E = some (l.map D, E1)) (hpl : plainB E1 vs = true) (hw : wipeE E1 vs = E0) (hg : ∀ x, gt (D x) E0 = some (env1 x)) (hb : ∀ x, wipeE (env1 x) vs = E0)
    (hf : ∀ x ∈ l, fe (env1 x) = some (rr x, env1 x)) (he : ∀ x, esc (env1 x) (rr x) = some (h x, env1 x)) (hz : l.length ≤ 16777216) :
    zTupG it gt zYes fe vs E = some (.val (.tup (l.map h)), E1) := by
  have := y_tg (t := zYes) (p := fun _ => true) (l := l) (D := D) hi hpl hw hg hb (fun x _ => rfl) (fun x hx _ => hf x hx) he hz
  rw [this, filt_true]
theorem alLoop_eq (hg : ∀ x, gt (D x) E0 = some (env1 x)) (hb : ∀ x, wipeE (env1 x) vs = E0) : ∀ (l : List α), (∀ x ∈ l, fe (env1 x) = some (.val (.bl (q x)), env1 x)) → alLoop gt zYes fe vs (l.map D) E0 = some (l.all q, E0)
  | [], _ => by simp [alLoop]
  | x :: l, hf => by
    rw [List.map_cons]
    unfold alLoop
    simp only [hg x, zYes, hf x List.mem_cons_self, esc]
    cases hq : q x with
    | true =>
      simp only [hb x]
      rw [alLoop_eq hg hb l fun y hy => hf y (List.mem_cons_of_mem _ hy)]
      simp [hq]
    | false => simp [hb x, hq]
theorem y_all (hi : it E = some (l.map D, E1)) (hpl : plainB E1 vs = true) (hw : wipeE E1 vs = E0) (hg : ∀ x, gt (D x) E0 = some (env1 x)) (hb : ∀ x, wipeE (env1 x) vs = E0)
    (hf : ∀ x ∈ l, fe (env1 x) = some (.val (.bl (q x)), env1 x)) (hz : l.length ≤ 16777216) :
    zAll it gt zYes fe vs E = some (.val (.bl (l.all q)), E1) := by
  have s : sizeOk (l.map D).length = true := by simp [sizeOk]; omega
  unfold zAll
  have hu := unwipe_wipe E1 vs
  rw [hw] at hu
  simp only [hi, hpl, s, Bool.and_self, if_true, hw, hu, alLoop_eq hg hb l hf]
/-! two clauses -/
section
variable {l1 : α → List β} {D1 : β → Dat} {E1' : α → En} {env2 : α → β → En} {rr2 : α → β → R} {h2 : α → β → Dat} {p2 : α → β → Bool}
theorem foldIn_eq {e0 : En} {e2 : β → En} {rq : β → R} {hh : β → Dat} {pp : β → Bool} (hg : ∀ y, gt1 (D1 y) e0 = some (e2 y)) (hb : ∀ y, wipeE (e2 y) vs1 = e0) : ∀ (m : List β) (acc : List Dat), (∀ y ∈ m, t1 (e2 y) = some (pp y, e2 y)) → (∀ y ∈ m, pp y = true → fe (e2 y) = some (rq y, e2 y)) → (∀ y, esc (e2 y) (rq y) = some (hh y, e2 y)) →
    acc.length + m.length ≤ 16777216 → foldS (stepIn gt1 t1 fe vs1) (m.map D1) e0 acc = some (acc ++ (m.filter pp).map hh, e0)
  | [], acc, _, _, _, _ => by simp [foldS]
  | y :: m, acc, ht, hf, he, hz => by
    simp only [List.length_cons] at hz
    rw [List.map_cons]
    unfold foldS
    cases hp : pp y with
    | true =>
      have s : sizeOk (acc.length + 1) = true := by simp [sizeOk]; omega
      have e : stepIn gt1 t1 fe vs1 (D1 y) e0 acc = some (acc ++ [hh y], e0) := by
        unfold stepIn
        simp only [hg y, ht y List.mem_cons_self, hp, hf y List.mem_cons_self hp, he y, s, if_true, hb y]
      simp only [e]
      rw [foldIn_eq hg hb m _ (fun z hz => ht z (List.mem_cons_of_mem _ hz)) (fun z hz => hf z (List.mem_cons_of_mem _ hz)) he (by simp; omega)]
      simp [List.filter_cons, hp]
    | false =>
      have e : stepIn gt1 t1 fe vs1 (D1 y) e0 acc = some (acc, e0) := by
        unfold stepIn
        simp only [hg y, ht y List.mem_cons_self, hp, hb y]
      simp only [e]
      rw [foldIn_eq hg hb m _ (fun z hz => ht z (List.mem_cons_of_mem _ hz)) (fun z hz => hf z (List.mem_cons_of_mem _ hz)) he (by omega)]
      simp [List.filter_cons, hp]
theorem foldOut_eq (hg : ∀ x, gt (D x) E0 = some (env1 x)) (hb : ∀ x, wipeE (E1' x) vs = E0) (hit : ∀ x, p x = true → it1 (env1 x) = some ((l1 x).map D1, env1 x)) (hw1 : ∀ x, wipeE (env1 x) vs1 = E1' x)
    (hg1 : ∀ x y, gt1 (D1 y) (E1' x) = some (env2 x y)) (hb1 : ∀ x y, wipeE (env2 x y) vs1 = E1' x) (hb0 : ∀ x, wipeE (env1 x) vs = E0) : ∀ (l : List α) (acc : List Dat), (∀ x ∈ l, t (env1 x) = some (p x, env1 x)) →
    (∀ x ∈ l, p x = true → ∀ y ∈ l1 x, t1 (env2 x y) = some (p2 x y, env2 x y)) → (∀ x ∈ l, p x = true → ∀ y ∈ l1 x, p2 x y = true → fe (env2 x y) = some (rr2 x y, env2 x y)) → (∀ x y, esc (env2 x y) (rr2 x y) = some (h2 x y, env2 x y)) →
    acc.length + (l.map fun x => (l1 x).length).sum ≤ 16777216 →
    foldS (stepOut gt t it1 gt1 t1 fe vs vs1) (l.map D) E0 acc = some (acc ++ (l.filter p).flatMap fun x => ((l1 x).filter (p2 x)).map (h2 x), E0)
  | [], acc, _, _, _, _, _ => by simp [foldS]
  | x :: l, acc, ht, ht1, hf, he, hz => by
    simp only [List.map_cons, List.sum_cons] at hz
    rw [List.map_cons]
    unfold foldS
    cases hp : p x with
    | true =>
      have e : stepOut gt t it1 gt1 t1 fe vs vs1 (D x) E0 acc = some (acc ++ ((l1 x).filter (p2 x)).map (h2 x), E0) := by
        unfold stepOut
        simp only [hg x, ht x List.mem_cons_self, hp, hit x hp, hw1 x]
        rw [foldIn_eq (hg1 x) (hb1 x) (l1 x) acc (ht1 x List.mem_cons_self hp) (hf x List.mem_cons_self hp) (he x) (by omega)]
        simp only [hb x]
      simp only [e]
      have hle : ((l1 x).filter (p2 x)).length ≤ (l1 x).length := List.length_filter_le _ _
      rw [foldOut_eq hg hb hit hw1 hg1 hb1 hb0 l _ (fun z hz => ht z (List.mem_cons_of_mem _ hz)) (fun z hz => ht1 z (List.mem_cons_of_mem _ hz)) (fun z hz => hf z (List.mem_cons_of_mem _ hz)) he (by simp; omega)]
      simp [List.filter_cons, hp]
    | false =>
      have e : stepOut gt t it1 gt1 t1 fe vs vs1 (D x) E0 acc = some (acc, E0) := by
        unfold stepOut
        simp only [hg x, ht x List.mem_cons_self, hp, hb0 x]
      simp only [e]
      rw [foldOut_eq hg hb hit hw1 hg1 hb1 hb0 l _ (fun z hz => ht z (List.mem_cons_of_mem _ hz)) (fun z hz => ht1 z (List.mem_cons_of_mem _ hz)) (fun z hz => hf z (List.mem_cons_of_mem _ hz)) he (by omega)]
      simp [List.filter_cons, hp]
theorem y_lc2 (hi : it E = some (l.map D, E1)) (hpl : plainB E1 vs = true) (hw : wipeE E1 vs = E0) (hg : ∀ x, gt (D x) E0 = some (env1 x)) (ht : ∀ x ∈ l, t (env1 x) = some (p x, env1 x)) (hit : ∀ x, Tr (p x) → it1 (env1 x) = some ((l1 x).map D1, env1 x)) (hw1 : ∀ x, wipeE (env1 x) vs1 = E1' x) (hb : ∀ x, wipeE (E1' x) vs = E0) (hb0 : ∀ x, wipeE (env1 x) vs = E0)
    (hg1 : ∀ x y, gt1 (D1 y) (E1' x) = some (env2 x y)) (hb1 : ∀ x y, wipeE (env2 x y) vs1 = E1' x) (ht1 : ∀ x ∈ l, Tr (p x) → ∀ y ∈ l1 x, t1 (env2 x y) = some (p2 x y, env2 x y)) (hf : ∀ x ∈ l, Tr (p x) → ∀ y ∈ l1 x, Tr (p2 x y) → fe (env2 x y) = some (rr2 x y, env2 x y)) (he : ∀ x y, esc (env2 x y) (rr2 x y) = some (h2 x y, env2 x y)) (hz : (l.map fun x => (l1 x).length).sum ≤ 16777216) :
    zLc2 it gt t it1 gt1 t1 fe vs vs1 E = some (.fresh (.lst ((l.filter p).flatMap fun x => ((l1 x).filter (p2 x)).map (h2 x))), E1) := by
  unfold zLc2
  have hu := unwipe_wipe E1 vs
  rw [hw] at hu
  simp only [hi, hpl, hw, hu, if_true, foldOut_eq hg hb hit hw1 hg1 hb1 hb0 l [] ht ht1 hf he (by simpa using hz), List.nil_append]
end
/-- what is walked -/
def itD (env : En) (r : R) : Option (List Dat × En) := match esc env r with
  | some (.lst ds, e2) => some (ds, e2)
  | some (.tup ds, e2) => some (ds, e2)
  | _ => none
theorem itD_vL {ds : List Dat} : itD E (.val (.lst ds)) = some (ds, E) := rfl
theorem itD_vT {ds : List Dat} : itD E (.val (.tup ds)) = some (ds, E) := rfl
theorem itD_fL {ds : List Dat} : itD E (.fresh (.lst ds)) = some (ds, E) := rfl
theorem itD_bo {ds : List Dat} (h : E[i]? = some (some (.ow (.lst ds)))) (hs : E.set i (some (.sh (.lst ds))) = E1) : itD E (.bor i) = some (ds, E1) := by unfold itD esc; simp only [h, hs]
theorem y_it (ha : fa E = some (r, E1)) (he : itD E1 r = some (ds, E2)) : zIt fa E = some (ds, E2) := by
  unfold itD at he
  unfold zIt
  rw [ha]
  split at he
  · rename_i q; cases he; simp only [q]
  · rename_i q; cases he; simp only [q]
  · cases he
/-! data -/
theorem ixN_lt {n k : Nat} (h : k < n) : ixN n (k : Int) = some k := by
  unfold ixN; rw [if_pos (by omega), if_pos (by omega)]; simp
theorem ixN_neg1 {n : Nat} (h : 0 < n) : ixN n (-1) = some (n - 1) := by
  unfold ixN; rw [if_neg (by omega), if_pos (by omega)]; congr 1; omega
theorem atI_lt {α : Type} {l : List α} {k : Nat} {x : α} (h : l[k]? = some x) : atI l (k : Int) = some x := by
  have hk : k < l.length := (List.getElem?_eq_some_iff.mp h).1
  unfold atI; rw [ixN_lt hk]; exact h
theorem g_ixT {α : Type} [Inhabited α] {l : List α} {D : α → Dat} {k : Nat} (hk : k < l.length) : gIx (.tup (l.map D)) (.int (k : Int)) = some (.val (D (l.getD k default))) := by
  unfold gIx
  have : (l.map D)[k]? = some (D (l.getD k default)) := by
    rw [List.getElem?_map, List.getD_eq_getElem?_getD, List.getElem?_eq_getElem hk]; rfl
  simp only [atI_lt this]; rfl
theorem g_ixL {α : Type} [Inhabited α] {l : List α} {D : α → Dat} {k : Nat} (hk : k < l.length) : gIx (.lst (l.map D)) (.int (k : Int)) = some (.val (D (l.getD k default))) := by
  unfold gIx
  have : (l.map D)[k]? = some (D (l.getD k default)) := by
    rw [List.getElem?_map, List.getD_eq_getElem?_getD, List.getElem?_eq_getElem hk]; rfl
  simp only [atI_lt this]; rfl
theorem g_ixT0 {α : Type} [Inhabited α] {l : List α} {D : α → Dat} (hk : 0 < l.length) : gIx (.tup (l.map D)) (.int 0) = some (.val (D (l.getD 0 default))) := g_ixT (k := 0) hk
theorem g_ixL0 {α : Type} [Inhabited α] {l : List α} {D : α → Dat} (hk : 0 < l.length) : gIx (.lst (l.map D)) (.int 0) = some (.val (D (l.getD 0 default))) := g_ixL (k := 0) hk
theorem g_ixL3 {x0 x1 x2 x3 : Dat} : gIx (.lst [x0, x1, x2, x3]) (.int 0) = some (.val x0) ∧ gIx (.lst [x0, x1, x2, x3]) (.int 1) = some (.val x1) ∧ gIx (.lst [x0, x1, x2, x3]) (.int 2) = some (.val x2) ∧ gIx (.lst [x0, x1, x2, x3]) (.int 3) = some (.val x3) := ⟨rfl, rfl, rfl, rfl⟩
theorem g_lenL {α : Type} {l : List α} {D : α → Dat} : gLen [.lst (l.map D)] = some (.val (.int l.length)) := by simp [gLen]
theorem g_lenT {α : Type} {l : List α} {D : α → Dat} : gLen [.tup (l.map D)] = some (.val (.int l.length)) := by simp [gLen]
theorem g_addI {x y : Int} : gAdd (.int x) (.int y) = some (.val (.int (x + y))) := rfl
theorem g_addT {a b : List Dat} (h : sizeOk (a.length + b.length) = true) : gAdd (.tup a) (.tup b) = some (.val (.tup (a ++ b))) := by
  have h' : sizeOk (a ++ b).length = true := by simpa using h
  simp [gAdd, gOr, gII, gCatT, h]
theorem g_addL {a b : List Dat} (h : sizeOk (a.length + b.length) = true) : gAdd (.lst a) (.lst b) = some (.fresh (.lst (a ++ b))) := by
  simp [gAdd, gOr, gII, gCatT, gCatL, h]
theorem g_subI {x y : Int} : gSub (.int x) (.int y) = some (.val (.int (x - y))) := rfl
theorem g_mulI {x y : Int} (h : smallB x = true) : gMul (.int x) (.int y) = some (.val (.int (x * y))) := by simp [gMul, gII, h]
theorem g_mulI' {x y : Int} (h : smallB y = true) : gMul (.int x) (.int y) = some (.val (.int (x * y))) := by simp [gMul, gII, h]
theorem g_divI {x y : Int} (h1 : 0 < y) (h2 : y < 1073741824) : gDiv (.int x) (.int y) = some (.val (.int (x / y))) := by simp [gDiv, gII, h1, h2]
theorem g_modI {x y : Int} (h1 : 0 < y) : gMod (.int x) (.int y) = some (.val (.int (x % y))) := by simp [gMod, gII, h1]
theorem g_ltI {x y : Int} : gLt (.int x) (.int y) = some (.val (.bl (decide (x < y)))) := rfl
theorem g_leI {x y : Int} : gLe (.int x) (.int y) = some (.val (.bl (decide (x ≤ y)))) := rfl
theorem g_gtI {x y : Int} : gGt (.int x) (.int y) = some (.val (.bl (decide (y < x)))) := rfl
theorem g_geI {x y : Int} : gGe (.int x) (.int y) = some (.val (.bl (decide (y ≤ x)))) := rfl
end
/-! isinstance -/
theorem isi_non_int  : gIsi [.non, .ty "int"] = some (.val (.bl false)) := by simp [gIsi, tyD, isiT]
theorem isi_non_bool  : gIsi [.non, .ty "bool"] = some (.val (.bl false)) := by simp [gIsi, tyD, isiT]
theorem isi_non_tuple  : gIsi [.non, .ty "tuple"] = some (.val (.bl false)) := by simp [gIsi, tyD, isiT]
theorem isi_non_list  : gIsi [.non, .ty "list"] = some (.val (.bl false)) := by simp [gIsi, tyD, isiT]
theorem isi_non_str  : gIsi [.non, .ty "str"] = some (.val (.bl false)) := by simp [gIsi, tyD, isiT]
theorem isi_non_tl  : gIsi [.non, .tup [.ty "tuple", .ty "list"]] = some (.val (.bl false)) := by simp [gIsi, tyD, tysOf, isiAny, isiT]
theorem isi_bl_int {b : Bool} : gIsi [.bl b, .ty "int"] = some (.val (.bl true)) := by simp [gIsi, tyD, isiT]
theorem isi_bl_bool {b : Bool} : gIsi [.bl b, .ty "bool"] = some (.val (.bl true)) := by simp [gIsi, tyD, isiT]
theorem isi_bl_tuple {b : Bool} : gIsi [.bl b, .ty "tuple"] = some (.val (.bl false)) := by simp [gIsi, tyD, isiT]
theorem isi_bl_list {b : Bool} : gIsi [.bl b, .ty "list"] = some (.val (.bl false)) := by simp [gIsi, tyD, isiT]
theorem isi_bl_str {b : Bool} : gIsi [.bl b, .ty "str"] = some (.val (.bl false)) := by simp [gIsi, tyD, isiT]
theorem isi_bl_tl {b : Bool} : gIsi [.bl b, .tup [.ty "tuple", .ty "list"]] = some (.val (.bl false)) := by simp [gIsi, tyD, tysOf, isiAny, isiT]
theorem isi_int_int {i : Int} : gIsi [.int i, .ty "int"] = some (.val (.bl true)) := by simp [gIsi, tyD, isiT]
theorem isi_int_bool {i : Int} : gIsi [.int i, .ty "bool"] = some (.val (.bl false)) := by simp [gIsi, tyD, isiT]
theorem isi_int_tuple {i : Int} : gIsi [.int i, .ty "tuple"] = some (.val (.bl false)) := by simp [gIsi, tyD, isiT]
theorem isi_int_list {i : Int} : gIsi [.int i, .ty "list"] = some (.val (.bl false)) := by simp [gIsi, tyD, isiT]
theorem isi_int_str {i : Int} : gIsi [.int i, .ty "str"] = some (.val (.bl false)) := by simp [gIsi, tyD, isiT]
theorem isi_int_tl {i : Int} : gIsi [.int i, .tup [.ty "tuple", .ty "list"]] = some (.val (.bl false)) := by simp [gIsi, tyD, tysOf, isiAny, isiT]
theorem isi_str_int {x : Str} : gIsi [.str x, .ty "int"] = some (.val (.bl false)) := by simp [gIsi, tyD, isiT]
theorem isi_str_bool {x : Str} : gIsi [.str x, .ty "bool"] = some (.val (.bl false)) := by simp [gIsi, tyD, isiT]
theorem isi_str_tuple {x : Str} : gIsi [.str x, .ty "tuple"] = some (.val (.bl false)) := by simp [gIsi, tyD, isiT]
theorem isi_str_list {x : Str} : gIsi [.str x, .ty "list"] = some (.val (.bl false)) := by simp [gIsi, tyD, isiT]
theorem isi_str_str {x : Str} : gIsi [.str x, .ty "str"] = some (.val (.bl true)) := by simp [gIsi, tyD, isiT]
theorem isi_str_tl {x : Str} : gIsi [.str x, .tup [.ty "tuple", .ty "list"]] = some (.val (.bl false)) := by simp [gIsi, tyD, tysOf, isiAny, isiT]
theorem isi_tup_int {l : List Dat} : gIsi [.tup l, .ty "int"] = some (.val (.bl false)) := by simp [gIsi, tyD, isiT]
theorem isi_tup_bool {l : List Dat} : gIsi [.tup l, .ty "bool"] = some (.val (.bl false)) := by simp [gIsi, tyD, isiT]
theorem isi_tup_tuple {l : List Dat} : gIsi [.tup l, .ty "tuple"] = some (.val (.bl true)) := by simp [gIsi, tyD, isiT]
theorem isi_tup_list {l : List Dat} : gIsi [.tup l, .ty "list"] = some (.val (.bl false)) := by simp [gIsi, tyD, isiT]
theorem isi_tup_str {l : List Dat} : gIsi [.tup l, .ty "str"] = some (.val (.bl false)) := by simp [gIsi, tyD, isiT]
theorem isi_tup_tl {l : List Dat} : gIsi [.tup l, .tup [.ty "tuple", .ty "list"]] = some (.val (.bl true)) := by simp [gIsi, tyD, tysOf, isiAny, isiT]
theorem isi_lst_int {l : List Dat} : gIsi [.lst l, .ty "int"] = some (.val (.bl false)) := by simp [gIsi, tyD, isiT]
theorem isi_lst_bool {l : List Dat} : gIsi [.lst l, .ty "bool"] = some (.val (.bl false)) := by simp [gIsi, tyD, isiT]
theorem isi_lst_tuple {l : List Dat} : gIsi [.lst l, .ty "tuple"] = some (.val (.bl false)) := by simp [gIsi, tyD, isiT]
theorem isi_lst_list {l : List Dat} : gIsi [.lst l, .ty "list"] = some (.val (.bl true)) := by simp [gIsi, tyD, isiT]
theorem isi_lst_str {l : List Dat} : gIsi [.lst l, .ty "str"] = some (.val (.bl false)) := by simp [gIsi, tyD, isiT]
theorem isi_lst_tl {l : List Dat} : gIsi [.lst l, .tup [.ty "tuple", .ty "list"]] = some (.val (.bl true)) := by simp [gIsi, tyD, tysOf, isiAny, isiT]
/-! statements -/
/-- the def's body, from here on, ends in something of which Q is true -/
def Run (io : Bool) (f : SS) (E : En) (Q : Dat × Bool × Dat → Prop) : Prop := ∃ fl o, f E = some fl ∧ fin io fl = some o ∧ Q o
/-- it is this -/
def Is (o : Dat × Bool × Dat) : Dat × Bool × Dat → Prop := fun o' => o' = o
theorem is_of {d d' : Dat} {b : Bool} {l : Dat} (h : d = d') : Is (d', b, l) (d, b, l) := by rw [h]; rfl
section
variable {io : Bool} {f g k : SS} {E E1 E2 : En} {o : Dat × Bool × Dat} {Q : Dat × Bool × Dat → Prop} {fa : SE} {r : R} {t : ST} {b : Bool} {i : Nat}
theorem run_defQ {n : Nat} {ds : List Dat} (h : argEnv io ds ++ List.replicate (n - ds.length) none = E) (q : Run io f E Q) : ∃ o, zDef n io f ds = some o ∧ Q o := by
  obtain ⟨fl, o, h1, h2, h3⟩ := q
  refine ⟨o, ?_, h3⟩
  unfold zDef; rw [h, h1]; exact h2
theorem run_def {n : Nat} {ds : List Dat} (h : argEnv io ds ++ List.replicate (n - ds.length) none = E) (q : Run io f E (Is o)) : zDef n io f ds = some o := by
  obtain ⟨o', h1, h2⟩ := run_defQ h q
  rw [h1]; exact congrArg some h2
theorem run_seq (h : f E = some (.next E1)) (q : Run io k E1 Q) : Run io (zSeq f k) E Q := by
  obtain ⟨fl, o, h1, h2, h3⟩ := q
  exact ⟨fl, o, by unfold zSeq; rw [h]; exact h1, h2, h3⟩
theorem seq_assoc : zSeq f (zSeq g k) = zSeq (zSeq f g) k := by
  funext E
  unfold zSeq
  cases hf : f E with
  | none => simp
  | some z => cases z <;> simp
theorem run_assoc (q : Run io (zSeq f (zSeq g k)) E Q) : Run io (zSeq (zSeq f g) k) E Q := by rw [← seq_assoc]; exact q
theorem run_nop (q : Run io k E Q) : Run io (zSeq zNext k) E Q := run_seq rfl q
theorem run_ret (h : fa E = some (r, E1)) (hp : pinB io E1 = true) (hf : fin io (.ret r E1) = some o) (q : Q o) : Run io (zSeq (zRet io fa) k) E Q := by
  refine ⟨.ret r E1, o, ?_, hf, q⟩
  unfold zSeq zRet; simp only [h, hp, if_true]
theorem run_retN (hf : fin io (.ret (.val .non) E) = some o) (q : Q o) : Run io (zSeq zRetN k) E Q := ⟨_, o, rfl, hf, q⟩
theorem run_set (h : fa E = some (r, E1)) (hp : pinB io E1 = true) (h2 : put io i r E1 = some E2) (q : Run io k E2 Q) : Run io (zSeq (zSet io i fa) k) E Q :=
  run_seq (by unfold zSet; simp only [h, hp, if_true, h2]) q
theorem run_drop (h : fa E = some (r, E1)) (hp : pinB io E1 = true) (q : Run io k E1 Q) : Run io (zSeq (zDrop io fa) k) E Q :=
  run_seq (by unfold zDrop; simp only [h, hp, if_true]) q
theorem run_if (h : t E = some (b, E1)) (hp : pinB io E1 = true) (q1 : b = true → Run io (zSeq f k) E1 Q) (q2 : b = false → Run io (zSeq g k) E1 Q) : Run io (zSeq (zIfS io t f g) k) E Q := by
  have e : zSeq (zIfS io t f g) k E = (if b then zSeq f k E1 else zSeq g k E1) := by
    unfold zSeq zIfS; simp only [h]; cases b <;> simp [hp]
  cases b with
  | true => obtain ⟨fl, o, h1, h2, h3⟩ := q1 rfl; exact ⟨fl, o, by rw [e]; exact h1, h2, h3⟩
  | false => obtain ⟨fl, o, h1, h2, h3⟩ := q2 rfl; exact ⟨fl, o, by rw [e]; exact h1, h2, h3⟩
theorem run_end (hf : fin io (.next E) = some o) (q : Q o) : Run io zNext E Q := ⟨_, o, rfl, hf, q⟩
theorem put_v {d : Dat} (hi : i < E.length) (h : E.set i (some (.sh d)) = E1) : put false i (.val d) E = some E1 := by unfold put; simp [hi, h]
theorem put_f {d : Dat} (hi : i < E.length) (h : E.set i (some (.ow d)) = E1) : put false i (.fresh d) E = some E1 := by unfold put; simp [hi, h]
theorem put_vio {d : Dat} (hi : i + 1 < E.length) (h : E.set (i + 1) (some (.sh d)) = E1) : put io (i + 1) (.val d) E = some E1 := by unfold put; simp [hi, h]
theorem put_fio {d : Dat} (hi : i + 1 < E.length) (h : E.set (i + 1) (some (.ow d)) = E1) : put io (i + 1) (.fresh d) E = some E1 := by unfold put; simp [hi, h]
/-- a loop's turn goes on so -/
def BodyTo (gt : SG) (f : SS) (d : Dat) (E E' : En) : Prop := ∃ E1, gt d E = some E1 ∧ (f E1 = some (.next E') ∨ f E1 = some (.cnt E'))
theorem body_next {gt : SG} {f : SS} {d : Dat} {E E1 E' : En} (h1 : gt d E = some E1) (h2 : f E1 = some (.next E')) : BodyTo gt f d E E' := ⟨E1, h1, .inl h2⟩
theorem body_cnt {gt : SG} {f : SS} {d : Dat} {E E1 E' : En} (h1 : gt d E = some E1) (h2 : f E1 = some (.cnt E')) : BodyTo gt f d E E' := ⟨E1, h1, .inr h2⟩
/-- a loop that folds -/
theorem zLoop_fold {α S : Type} {D : α → Dat} {gt : SG} (Es : S → Option Sl → En) (step : S → α → S) (Inv : S → Prop) (x0 : α → Option Sl) : ∀ (l : List α) (s : S) (y : Option Sl), Inv s →
    (∀ s x y, Inv s → x ∈ l → BodyTo gt f (D x) (Es s y) (Es (step s x) (x0 x)) ∧ Inv (step s x)) →
    ∃ y', zLoop io gt f (l.map D) (Es s y) = some (.next (Es (l.foldl step s) y')) ∧ Inv (l.foldl step s)
  | [], s, y, hI, _ => ⟨y, rfl, hI⟩
  | x :: l, s, y, hI, h => by
    obtain ⟨⟨E1, h1, h3⟩, h2⟩ := h s x y hI List.mem_cons_self
    obtain ⟨y', h4, h5⟩ := zLoop_fold Es step Inv x0 l (step s x) (x0 x) h2 fun s x y hs hx => h s x y hs (List.mem_cons_of_mem _ hx)
    refine ⟨y', ?_, h5⟩
    rw [List.map_cons]
    unfold zLoop
    rcases h3 with h3 | h3 <;> (simp only [h1, h3]; exact h4)
theorem run_fold {α S : Type} {l : List α} {D : α → Dat} {gt : SG} {it : SI} (Es : S → Option Sl → En) (step : S → α → S) (s0 : S) (y0 : Option Sl) (Inv : S → Prop) (x0 : α → Option Sl) (hi : it E = some (l.map D, Es s0 y0)) (hp : pinB io (Es s0 y0) = true) (h0 : Inv s0)
    (hb : ∀ s x y, Inv s → x ∈ l → BodyTo gt f (D x) (Es s y) (Es (step s x) (x0 x)) ∧ Inv (step s x))
    (q : ∀ y', Inv (l.foldl step s0) → Run io k (Es (l.foldl step s0) y') Q) : Run io (zSeq (zFor io it gt f) k) E Q := by
  obtain ⟨y', h1, h2⟩ := zLoop_fold (io := io) Es step Inv x0 l s0 y0 h0 hb
  exact run_seq (by unfold zFor; simp only [hi, hp, if_true]; exact h1) (q y' h2)
end
end Zz
end

section
set_option linter.all false
set_option maxRecDepth 100000
namespace Zz
open PySem PySem.Spec PyProof.Rows L2
section
variable {E E0 E1 E2 E3 E4 : En} {r r1 r2 r3 : R} {d d1 d2 d3 : Dat} {b b1 b2 : Bool} {rs : List R} {ds : List Dat} {i j : Nat} {fa fb fc fe : SE} {fs : SA} {t t1 u : ST} {it it1 : SI} {gt gt1 : SG} {vs vs1 : List Nat} {io : Bool} {f g k : SS} {Q : Dat × Bool × Dat → Prop} {fl : Fl}
/-! lists changed in place -/
/-- nothing borrowed -/
def nrmB : R → Bool
  | .bor _ => false
  | _ => true
theorem y_app {l0 l : List Dat} (ho : E[i]? = some (some (.ow (.lst l0)))) (ha : fa E = some (r, E1)) (he : esc E1 r = some (d, E2)) (h2 : E2[i]? = some (some (.ow (.lst l)))) (hz : l.length + 1 ≤ 16777216) (hs : E2.set i (some (.ow (.lst (l ++ [d])))) = E3) : zApp i fa E = some (.val .non, E3) := by
  have s : sizeOk (l.length + 1) = true := by simpa [sizeOk] using hz
  unfold zApp; simp only [ho, ha, he, h2, s, if_true, hs]
theorem y_popI {l0 l : List Dat} {kk : Nat} {y : Dat} (ho : E[i]? = some (some (.ow (.lst l0)))) (ha : fa E = some (r, E1)) (he : rdv E1 r = some (.int (kk : Nat))) (h2 : E1[i]? = some (some (.ow (.lst l)))) (hy : l[kk]? = some y) (hz : l.length ≤ 16777216) (hs : E1.set i (some (.ow (.lst (l.eraseIdx kk)))) = E3) : zPopI i fa E = some (.val y, E3) := by
  have s : sizeOk l.length = true := by simpa [sizeOk] using hz
  have hk : kk < l.length := (List.getElem?_eq_some_iff.mp hy).1
  unfold zPopI; simp only [ho, ha, he, h2, ixN_lt hk, hy, s, if_true, hs]
theorem y_subL {l0 l : List Dat} {fi : SE} {kk : Nat} (ho : E[i]? = some (some (.ow (.lst l0)))) (ha : fi E = some (r, E1)) (he : rdv E1 r = some (.int (kk : Nat))) (h2 : E1[i]? = some (some (.ow (.lst l)))) (hk : kk < l.length) (hs : E1.set i (some (.ow (.lst (l.set kk d)))) = E3) (hp : pinB io E3 = true) : gSubL io i fi d E = some E3 := by
  subst hs
  unfold gSubL; simp only [ho, ha, he, h2, ixN_lt hk, hp, if_true]
/-! statements that go on -/
theorem s_next : zNext E = some (.next E) := rfl
theorem s_nextE (h : E = E1) : zNext E = some (.next E1) := by rw [h]; rfl
theorem s_seq (h : f E = some (.next E1)) (h2 : g E1 = some fl) : zSeq f g E = some fl := by unfold zSeq; simp only [h, h2]
theorem s_set (h : fa E = some (r, E1)) (hp : pinB io E1 = true) (h2 : put io i r E1 = some E2) : zSet io i fa E = some (.next E2) := by unfold zSet; simp only [h, hp, if_true, h2]
theorem s_drop (h : fa E = some (r, E1)) (hp : pinB io E1 = true) : zDrop io fa E = some (.next E1) := by unfold zDrop; simp only [h, hp, if_true]
theorem s_ift (h : t E = some (true, E1)) (hp : pinB io E1 = true) (h2 : f E1 = some fl) : zIfS io t f g E = some fl := by unfold zIfS; simp only [h, hp, if_true, h2]
theorem s_iff (h : t E = some (false, E1)) (hp : pinB io E1 = true) (h2 : g E1 = some fl) : zIfS io t f g E = some fl := by unfold zIfS; simp only [h, hp, if_true, h2]
theorem s_if (h : t E = some (b, E1)) (hp : pinB io E1 = true) (h2 : b = true → f E1 = some fl) (h3 : b = false → g E1 = some fl) : zIfS io t f g E = some fl := by
  cases b with
  | true => exact s_ift h hp (h2 rfl)
  | false => exact s_iff h hp (h3 rfl)
theorem s_par (h : fa E = some (r1, E1)) (h2 : fb E1 = some (r2, E2)) (hb : nrmB r1 = true) (hp : pinB io E1 = true) (hp2 : pinB io E2 = true) (h3 : put io j r2 E2 = some E3) (h4 : put io i r1 E3 = some E4) : zPar io i j fa fb E = some (.next E4) := by
  unfold zPar
  simp only [h, h2]
  cases r1 with
  | bor _ => cases hb
  | val d => simp only [hp, hp2, Bool.and_self, if_true, h3, h4]
  | fresh d => simp only [hp, hp2, Bool.and_self, if_true, h3, h4]
theorem s_asg (h : fa E = some (r, E1)) (he : esc E1 r = some (d, E2)) (hp : pinB io E2 = true) (h2 : gt d E2 = some E3) : zAsg io fa gt E = some (.next E3) := by
  unfold zAsg; simp only [h, he, hp, if_true, h2]
theorem run_par (h : fa E = some (r1, E1)) (h2 : fb E1 = some (r2, E2)) (hb : nrmB r1 = true) (hp : pinB io E1 = true) (hp2 : pinB io E2 = true) (h3 : put io j r2 E2 = some E3) (h4 : put io i r1 E3 = some E4) (q : Run io k E4 Q) : Run io (zSeq (zPar io i j fa fb) k) E Q :=
  run_seq (s_par h h2 hb hp hp2 h3 h4) q
theorem run_asg (h : fa E = some (r, E1)) (he : esc E1 r = some (d, E2)) (hp : pinB io E2 = true) (h2 : gt d E2 = some E3) (q : Run io k E3 Q) : Run io (zSeq (zAsg io fa gt) k) E Q := run_seq (s_asg h he hp h2) q
theorem run_ift (h : t E = some (true, E1)) (hp : pinB io E1 = true) (q : Run io (zSeq f k) E1 Q) : Run io (zSeq (zIfS io t f g) k) E Q := run_if h hp (fun _ => q) (fun e => Bool.noConfusion e)
theorem run_iff (h : t E = some (false, E1)) (hp : pinB io E1 = true) (q : Run io (zSeq g k) E1 Q) : Run io (zSeq (zIfS io t f g) k) E Q := run_if h hp (fun e => Bool.noConfusion e) (fun _ => q)
/-- a loop by an invariant -/
theorem zLoop_inv {α S : Type} {D : α → Dat} (Es : S → En) (Inv : Nat → S → Prop) : ∀ (l : List α) (n : Nat) (s : S), Inv n s →
    (∀ m x s, n ≤ m → l[m - n]? = some x → Inv m s → ∃ s', BodyTo gt f (D x) (Es s) (Es s') ∧ Inv (m + 1) s') →
    ∃ s', zLoop io gt f (l.map D) (Es s) = some (.next (Es s')) ∧ Inv (n + l.length) s'
  | [], n, s, hI, _ => ⟨s, rfl, hI⟩
  | x :: l, n, s, hI, h => by
    obtain ⟨s1, ⟨E1, h1, h2⟩, h3⟩ := h n x s (Nat.le_refl _) (by simp) hI
    obtain ⟨s2, h4, h5⟩ := zLoop_inv Es Inv l (n + 1) s1 h3 fun m y s hm hy hs => h m y s (by omega) (by
      have e : m - n = (m - (n + 1)) + 1 := by omega
      rw [e, List.getElem?_cons_succ]; exact hy) hs
    refine ⟨s2, ?_, by rw [List.length_cons]; rw [show n + (l.length + 1) = n + 1 + l.length by omega]; exact h5⟩
    rw [List.map_cons]
    unfold zLoop
    rcases h2 with h2 | h2 <;> (simp only [h1, h2]; exact h4)
theorem run_inv {α S : Type} {l : List α} {D : α → Dat} (Es : S → En) (Inv : Nat → S → Prop) (s0 : S) (hi : it E = some (l.map D, Es s0)) (hp : pinB io (Es s0) = true) (h0 : Inv 0 s0)
    (hb : ∀ m x s, l[m]? = some x → Inv m s → ∃ s', BodyTo gt f (D x) (Es s) (Es s') ∧ Inv (m + 1) s')
    (q : ∀ s, Inv l.length s → Run io k (Es s) Q) : Run io (zSeq (zFor io it gt f) k) E Q := by
  obtain ⟨s', h1, h2⟩ := zLoop_inv (io := io) (f := f) (gt := gt) (D := D) Es Inv l 0 s0 h0 fun m x s _ hx hs => hb m x s (by simpa using hx) hs
  exact run_seq (by unfold zFor; simp only [hi, hp, if_true]; exact h1) (q s' (by simpa using h2))
theorem s_inv {α S : Type} {l : List α} {D : α → Dat} (Es : S → En) (Inv : Nat → S → Prop) (s0 : S) (hi : it E = some (l.map D, Es s0)) (hp : pinB io (Es s0) = true) (h0 : Inv 0 s0)
    (hb : ∀ m x s, l[m]? = some x → Inv m s → ∃ s', BodyTo gt f (D x) (Es s) (Es s') ∧ Inv (m + 1) s') :
    ∃ s', zFor io it gt f E = some (.next (Es s')) ∧ Inv l.length s' := by
  obtain ⟨s', h1, h2⟩ := zLoop_inv (io := io) (f := f) (gt := gt) (D := D) Es Inv l 0 s0 h0 fun m x s _ hx hs => hb m x s (by simpa using hx) hs
  exact ⟨s', by unfold zFor; simp only [hi, hp, if_true]; exact h1, by simpa using h2⟩
/-- a loop that only looks, and may return -/
theorem run_find {α : Type} {l : List α} {D : α → Dat} (Es : Option Sl → En) (y0 : Option Sl) (x0 : α → Option Sl) (p : α → Bool) (hi : it E = some (l.map D, Es y0)) (hp : pinB io (Es y0) = true)
    (hb : ∀ x y, x ∈ l → ∃ E1, gt (D x) (Es y) = some E1 ∧ (p x = true → ∃ fl, f E1 = some fl ∧ (∃ o, fin io fl = some o ∧ Q o) ∧ (∃ r e, fl = .ret r e)) ∧ (p x = false → f E1 = some (.next (Es (x0 x))) ∨ f E1 = some (.cnt (Es (x0 x)))))
    (q : (∀ x ∈ l, p x = false) → ∀ y, Run io k (Es y) Q) : Run io (zSeq (zFor io it gt f) k) E Q := by
  have key : ∀ (l : List α) (y : Option Sl), (∀ x y, x ∈ l → ∃ E1, gt (D x) (Es y) = some E1 ∧ (p x = true → ∃ fl, f E1 = some fl ∧ (∃ o, fin io fl = some o ∧ Q o) ∧ (∃ r e, fl = .ret r e)) ∧ (p x = false → f E1 = some (.next (Es (x0 x))) ∨ f E1 = some (.cnt (Es (x0 x))))) →
      (∃ fl, zLoop io gt f (l.map D) (Es y) = some fl ∧ (∃ o, fin io fl = some o ∧ Q o) ∧ ∃ r e, fl = .ret r e) ∨ ((∀ x ∈ l, p x = false) ∧ ∃ y', zLoop io gt f (l.map D) (Es y) = some (.next (Es y'))) := by
    intro l
    induction l with
    | nil => exact fun y _ => .inr ⟨fun _ h => absurd h List.not_mem_nil, y, rfl⟩
    | cons x l ih =>
      intro y hb
      obtain ⟨E1, h1, h2, h3⟩ := hb x y List.mem_cons_self
      rw [List.map_cons]
      cases hpx : p x with
      | true =>
        obtain ⟨fl, h4, h5, r, e, h6⟩ := h2 hpx
        subst h6
        refine .inl ⟨.ret r e, ?_, h5, r, e, rfl⟩
        unfold zLoop; simp only [h1, h4]
      | false =>
        have e : zLoop io gt f (D x :: l.map D) (Es y) = zLoop io gt f (l.map D) (Es (x0 x)) := by
          conv => lhs; unfold zLoop
          rcases h3 hpx with h3 | h3 <;> simp only [h1, h3]
        rw [e]
        rcases ih (x0 x) (fun z y hz => hb z y (List.mem_cons_of_mem _ hz)) with h | ⟨h, h'⟩
        · exact .inl h
        · exact .inr ⟨fun z hz => (List.mem_cons.mp hz).elim (fun e => e ▸ hpx) (fun hz => h z hz), h'⟩
  rcases key l y0 hb with ⟨fl, h1, h2, r, e, h3⟩ | ⟨h1, y', h2⟩
  · subst h3
    obtain ⟨o, h2, h4⟩ := h2
    refine ⟨.ret r e, o, ?_, h2, h4⟩
    unfold zSeq zFor; simp only [hi, hp, if_true, h1]
  · exact run_seq (by unfold zFor; simp only [hi, hp, if_true]; exact h2) (q h1 y')
/-! how many different tuples -/
theorem nd_eqlen {α : Type} : ∀ {a b : List α}, a.Nodup → b.Nodup → (∀ x, x ∈ a ↔ x ∈ b) → a.length = b.length := by
  intro a b ha hb h
  exact (List.Perm.length_eq ((List.perm_ext_iff_of_nodup ha hb).mpr h))
theorem dst_len {a b : List (List Int)} (h : ∀ x, x ∈ a ↔ x ∈ b) : (dst a).length = (dst b).length :=
  nd_eqlen (dst_nd a) (dst_nd b) fun x => by rw [dst_mem, dst_mem]; exact h x
theorem tupsD_map : ∀ l : List (List Int), tupsD (l.map fun c => Dat.tup (c.map Dat.int)) = some l
  | [] => rfl
  | x :: l => by rw [List.map_cons, tupsD, tupsD_map l, intsD_map x]
theorem g_lenSet {l : List (List Int)} (h : l.length < 64) : gLenSet [.lst (l.map fun c => Dat.tup (c.map Dat.int))] = some (.val (.int (dst l).length)) := by
  unfold gLenSet; simp only [tupsD_map, h, if_true]
theorem y_lenSc {α : Type} {l : List α} {D : α → Dat} {κ : α → List Int} {env1 : α → En} (hi : it E = some (l.map D, E1)) (hpl : plainB E1 vs = true) (hw : wipeE E1 vs = E0) (hg : ∀ x, gt (D x) E0 = some (env1 x)) (hb : ∀ x, wipeE (env1 x) vs = E0)
    (hf : ∀ x ∈ l, fe (env1 x) = some (.val (.tup ((κ x).map Dat.int)), env1 x)) (hz : l.length < 64) : zLenSc it gt zYes fe vs E = some (.val (.int (dst (l.map κ)).length), E1) := by
  have key : ∀ (l : List α) (ks : List (List Int)), (∀ x ∈ l, fe (env1 x) = some (.val (.tup ((κ x).map Dat.int)), env1 x)) → ks.length + l.length < 64 → foldG (stepSet gt zYes fe vs) (l.map D) E0 ks = some ((l.map κ).reverse ++ ks, E0) := by
    intro l
    induction l with
    | nil => intro ks _ _; simp [foldG]
    | cons x l ih =>
      intro ks hf hz
      simp only [List.length_cons] at hz
      rw [List.map_cons]
      unfold foldG
      have e : stepSet gt zYes fe vs (D x) E0 ks = some (κ x :: ks, E0) := by
        unfold stepSet
        have : ks.length + 1 < 64 := by omega
        simp only [hg x, zYes, hf x List.mem_cons_self, esc, intsD_map, this, if_true, hb x]
      simp only [e]
      rw [ih _ (fun y hy => hf y (List.mem_cons_of_mem _ hy)) (by simp; omega)]
      simp
  have hu := unwipe_wipe E1 vs
  rw [hw] at hu
  unfold zLenSc
  simp only [hi, hpl, hw, hu, if_true, key l [] hf (by simpa using hz)]
  rw [dst_len (b := l.map κ) (by intro x; simp)]
end
end Zz
end

section
set_option linter.all false
set_option maxRecDepth 100000
namespace Zz
open PySem PySem.Spec PyProof.Rows L2
/-- D's data are told apart by their sources; they nest at most n deep -/
structure EqE {α : Type} [DecidableEq α] (D : α → Dat) (n : Nat) : Prop where
  p : ∀ x, ∃ q, toP (D x) = some q ∧ q.canLay0 = true ∧ q.depth ≤ n
  e : ∀ x y p q, toP (D x) = some p → toP (D y) = some q → PyData.eqv p q = decide (x = y)
section
variable {α β : Type} [DecidableEq α] [DecidableEq β] {D : α → Dat} {D' : β → Dat} {n m : Nat}
theorem EqE.eq (h : EqE D n) (hn : n ≤ 64) (x y : α) : eqD (D x) (D y) = some (decide (x = y)) := by
  obtain ⟨p, h1, h2, h3⟩ := h.p x
  obtain ⟨q, h4, h5, h6⟩ := h.p y
  have e := h.e x y p q h1 h4
  unfold eqD
  rw [h1, h4]
  have s1 : SeqAt.shaped p = true := by unfold SeqAt.shaped; rw [h2, Bool.true_and]; exact decide_eq_true (by omega)
  have s2 : SeqAt.shaped q = true := by unfold SeqAt.shaped; rw [h5, Bool.true_and]; exact decide_eq_true (by omega)
  simp only [s1, s2, Bool.and_self, if_true, e]
theorem eqe_int : EqE Dat.int 0 := ⟨fun x => ⟨.int x, rfl, rfl, by simp [PyData.depth]⟩, fun x y p q h1 h2 => by
  cases h1; cases h2; simp only [PyData.eqv]; rfl⟩
theorem eqe_nat : EqE (fun k : Nat => Dat.int (k : Int)) 0 := ⟨fun x => ⟨.int x, rfl, rfl, by simp [PyData.depth]⟩, fun x y p q h1 h2 => by
  cases h1; cases h2; simp only [PyData.eqv]; by_cases e : x = y
  · subst e; simp
  · simp [e]; omega⟩
theorem eqe_bl : EqE Dat.bl 0 := ⟨fun x => ⟨.bool x, rfl, rfl, by simp [PyData.depth]⟩, fun x y p q h1 h2 => by
  cases h1; cases h2; simp only [PyData.eqv]; cases x <;> cases y <;> rfl⟩
theorem toPs_map (h : EqE D n) : ∀ l : List α, ∃ qs, toPs (l.map D) = some qs ∧ PyData.canLayAll0 qs = true ∧ PyData.depthAll qs ≤ n
  | [] => ⟨[], rfl, rfl, by simp [PyData.depthAll]⟩
  | x :: l => by
    obtain ⟨qs, h1, h2, h3⟩ := toPs_map h l
    obtain ⟨q, h4, h5, h6⟩ := h.p x
    refine ⟨q :: qs, ?_, by simp only [PyData.canLayAll0, h5, h2, Bool.and_self], by simp only [PyData.depthAll]; omega⟩
    rw [List.map_cons, toPs, h4, h1]
theorem eqvAll_map (h : EqE D n) : ∀ (l l' : List α) (ps qs : List PyData), toPs (l.map D) = some ps → toPs (l'.map D) = some qs → PyData.eqvAll ps qs = decide (l = l')
  | [], [], ps, qs, h1, h2 => by cases h1; cases h2; simp [PyData.eqvAll]
  | [], y :: l', ps, qs, h1, h2 => by
    cases h1
    obtain ⟨q, a1, _⟩ := h.p y
    obtain ⟨qs', a2, _⟩ := toPs_map h l'
    rw [List.map_cons, toPs, a1, a2] at h2; cases h2
    simp [PyData.eqvAll]
  | x :: l, [], ps, qs, h1, h2 => by
    cases h2
    obtain ⟨q, a1, _⟩ := h.p x
    obtain ⟨qs', a2, _⟩ := toPs_map h l
    rw [List.map_cons, toPs, a1, a2] at h1; cases h1
    simp [PyData.eqvAll]
  | x :: l, y :: l', ps, qs, h1, h2 => by
    obtain ⟨p, a1, _⟩ := h.p x
    obtain ⟨ps', a2, _⟩ := toPs_map h l
    obtain ⟨q, b1, _⟩ := h.p y
    obtain ⟨qs', b2, _⟩ := toPs_map h l'
    rw [List.map_cons, toPs, a1, a2] at h1; cases h1
    rw [List.map_cons, toPs, b1, b2] at h2; cases h2
    simp only [PyData.eqvAll, h.e x y p q a1 b1, eqvAll_map h l l' ps' qs' a2 b2]
    by_cases e : x = y <;> by_cases e' : l = l' <;> simp [e, e']
theorem eqe_tup (h : EqE D n) : EqE (fun l : List α => Dat.tup (l.map D)) (n + 1) where
  p := fun l => by
    obtain ⟨qs, h1, h2, h3⟩ := toPs_map h l
    exact ⟨.tuple qs, by show (toPs (l.map D)).map _ = _; rw [h1]; rfl, by simp only [PyData.canLay0, h2], by simp only [PyData.depth]; omega⟩
  e := fun l l' p q h1 h2 => by
    obtain ⟨ps, a1, _⟩ := toPs_map h l
    obtain ⟨qs, b1, _⟩ := toPs_map h l'
    have h1' : (toPs (l.map D)).map PyData.tuple = some p := h1
    have h2' : (toPs (l'.map D)).map PyData.tuple = some q := h2
    rw [a1] at h1'; rw [b1] at h2'; cases h1'; cases h2'
    simp only [PyData.eqv]
    exact eqvAll_map h l l' ps qs a1 b1
theorem eqe_lst (h : EqE D n) : EqE (fun l : List α => Dat.lst (l.map D)) (n + 1) where
  p := fun l => by
    obtain ⟨qs, h1, h2, h3⟩ := toPs_map h l
    exact ⟨.list qs, by show (toPs (l.map D)).map _ = _; rw [h1]; rfl, by simp only [PyData.canLay0, h2], by simp only [PyData.depth]; omega⟩
  e := fun l l' p q h1 h2 => by
    obtain ⟨ps, a1, _⟩ := toPs_map h l
    obtain ⟨qs, b1, _⟩ := toPs_map h l'
    have h1' : (toPs (l.map D)).map PyData.list = some p := h1
    have h2' : (toPs (l'.map D)).map PyData.list = some q := h2
    rw [a1] at h1'; rw [b1] at h2'; cases h1'; cases h2'
    simp only [PyData.eqv]
    exact eqvAll_map h l l' ps qs a1 b1
theorem eqe_pair (h : EqE D n) (h' : EqE D' m) : EqE (fun p : α × β => Dat.tup [D p.1, D' p.2]) (n + m + 1) where
  p := fun x => by
    obtain ⟨p, h1, h2, h3⟩ := h.p x.1
    obtain ⟨q, h4, h5, h6⟩ := h'.p x.2
    refine ⟨.tuple [p, q], by simp [toP, toPs, h1, h4], by simp only [PyData.canLay0, PyData.canLayAll0, h2, h5, Bool.and_self], by simp only [PyData.depth, PyData.depthAll]; omega⟩
  e := fun x y p q h1 h2 => by
    obtain ⟨p1, a1, _⟩ := h.p x.1
    obtain ⟨p2, a2, _⟩ := h'.p x.2
    obtain ⟨q1, b1, _⟩ := h.p y.1
    obtain ⟨q2, b2, _⟩ := h'.p y.2
    simp [toP, toPs, a1, a2] at h1
    simp [toP, toPs, b1, b2] at h2
    subst h1 h2
    simp only [PyData.eqv, PyData.eqvAll, h.e _ _ _ _ a1 b1, h'.e _ _ _ _ a2 b2, Bool.and_true]
    by_cases e : x.1 = y.1 <;> by_cases e' : x.2 = y.2 <;> simp [e, e', Prod.ext_iff]
theorem g_eq (h : EqE D n) (hn : n ≤ 64) (x y : α) : gEq (D x) (D y) = some (.val (.bl (decide (x = y)))) := by unfold gEq; rw [h.eq hn]; rfl
theorem g_ne (h : EqE D n) (hn : n ≤ 64) (x y : α) : gNe (D x) (D y) = some (.val (.bl (!decide (x = y)))) := by unfold gNe; rw [h.eq hn]; rfl
end
theorem g_eqI {x y : Int} : gEq (.int x) (.int y) = some (.val (.bl (decide (x = y)))) := g_eq eqe_int (by decide) x y
theorem g_neI {x y : Int} : gNe (.int x) (.int y) = some (.val (.bl (!decide (x = y)))) := g_ne eqe_int (by decide) x y
theorem g_eqB {x y : Bool} : gEq (.bl x) (.bl y) = some (.val (.bl (decide (x = y)))) := g_eq eqe_bl (by decide) x y
theorem g_neB {x y : Bool} : gNe (.bl x) (.bl y) = some (.val (.bl (!decide (x = y)))) := g_ne eqe_bl (by decide) x y
theorem g_eqR {x y : List Int} : gEq (.tup (x.map Dat.int)) (.tup (y.map Dat.int)) = some (.val (.bl (decide (x = y)))) := g_eq (eqe_tup eqe_int) (by decide) x y
theorem g_neR {x y : List Int} : gNe (.tup (x.map Dat.int)) (.tup (y.map Dat.int)) = some (.val (.bl (!decide (x = y)))) := g_ne (eqe_tup eqe_int) (by decide) x y
theorem g_eqLI {x y : List Int} : gEq (.lst (x.map Dat.int)) (.lst (y.map Dat.int)) = some (.val (.bl (decide (x = y)))) := g_eq (eqe_lst eqe_int) (by decide) x y
theorem g_neLI {x y : List Int} : gNe (.lst (x.map Dat.int)) (.lst (y.map Dat.int)) = some (.val (.bl (!decide (x = y)))) := g_ne (eqe_lst eqe_int) (by decide) x y
theorem g_eqLR {x y : List (List Int)} : gEq (.lst (x.map fun c => Dat.tup (c.map Dat.int))) (.lst (y.map fun c => Dat.tup (c.map Dat.int))) = some (.val (.bl (decide (x = y)))) := g_eq (eqe_lst (eqe_tup eqe_int)) (by decide) x y
/-- nothing in a list: == [] -/
theorem g_eqNil {α : Type} [DecidableEq α] {D : α → Dat} {n : Nat} (h : EqE D n) (hn : n + 1 ≤ 64) (l : List α) : gEq (.lst (l.map D)) (.lst []) = some (.val (.bl (decide (l = [])))) := g_eq (eqe_lst h) hn l []
theorem g_neNil {α : Type} [DecidableEq α] {D : α → Dat} {n : Nat} (h : EqE D n) (hn : n + 1 ≤ 64) (l : List α) : gNe (.lst (l.map D)) (.lst []) = some (.val (.bl (!decide (l = [])))) := g_ne (eqe_lst h) hn l []
theorem g_eqN : gEq .non .non = some (.val (.bl true)) := by simp [gEq, eqD, toP, SeqAt.shaped, PyData.canLay0, PyData.depth, PyData.eqv]
theorem erase_map {α β : Type} (f : α → β) : ∀ (l : List α) (n : Nat), (l.map f).eraseIdx n = (l.eraseIdx n).map f
  | [], _ => rfl
  | x :: l, 0 => rfl
  | x :: l, n + 1 => by simp [erase_map f l n]
theorem cons_erase {α : Type} : ∀ {l : List α} {n : Nat} (h : n < l.length), (l[n] :: l.eraseIdx n).Perm l
  | [], n, h => absurd h (Nat.not_lt_zero _)
  | x :: l, 0, h => .refl _
  | x :: l, n + 1, h => by
    have hn : n < l.length := by simpa using h
    simp only [List.getElem_cons_succ, List.eraseIdx_cons_succ]
    exact (List.Perm.swap _ _ _).trans ((cons_erase hn).cons x)
/-! ### what a law's own comparison takes -/
def Alk : Nat → Dat → Prop
  | _, .non => True
  | _, .bl _ => True
  | _, .int _ => True
  | n + 1, .tup l => l.length ≤ 16777216 ∧ ∀ x ∈ l, Alk n x
  | n + 1, .lst l => l.length ≤ 16777216 ∧ ∀ x ∈ l, Alk n x
  | _, _ => False
theorem Alk.mono : ∀ {n m : Nat} {d : Dat}, n ≤ m → Alk n d → Alk m d
  | n, m, .non, _, _ => by cases m <;> trivial
  | n, m, .bl _, _, _ => by cases m <;> trivial
  | n, m, .int _, _, _ => by cases m <;> trivial
  | n, m, .str _, _, h => by cases n <;> exact h.elim
  | n, m, .dct _ _, _, h => by cases n <;> exact h.elim
  | n, m, .set _, _, h => by cases n <;> exact h.elim
  | n, m, .fn _, _, h => by cases n <;> exact h.elim
  | n, m, .ty _, _, h => by cases n <;> exact h.elim
  | n + 1, m + 1, .tup l, h, ⟨a, b⟩ => ⟨a, fun x hx => Alk.mono (by omega) (b x hx)⟩
  | n + 1, m + 1, .lst l, h, ⟨a, b⟩ => ⟨a, fun x hx => Alk.mono (by omega) (b x hx)⟩
theorem alk_int {n : Nat} {i : Int} : Alk n (.int i) := by cases n <;> trivial
theorem alk_bl {n : Nat} {i : Bool} : Alk n (.bl i) := by cases n <;> trivial
theorem alk_non {n : Nat} : Alk n .non := by cases n <;> trivial
theorem alk_tup {α : Type} {n : Nat} {l : List α} {D : α → Dat} (h1 : l.length ≤ 16777216) (h2 : ∀ x ∈ l, Alk n (D x)) : Alk (n + 1) (.tup (l.map D)) := ⟨by simpa using h1, fun x hx => by obtain ⟨y, hy, rfl⟩ := List.mem_map.mp hx; exact h2 y hy⟩
theorem alk_lst {α : Type} {n : Nat} {l : List α} {D : α → Dat} (h1 : l.length ≤ 16777216) (h2 : ∀ x ∈ l, Alk n (D x)) : Alk (n + 1) (.lst (l.map D)) := ⟨by simpa using h1, fun x hx => by obtain ⟨y, hy, rfl⟩ := List.mem_map.mp hx; exact h2 y hy⟩
theorem alk_cons {n : Nat} {d : Dat} {l : List Dat} (h : Alk n d) (h2 : ∀ x ∈ l, Alk n x) : ∀ x ∈ d :: l, Alk n x := fun x hx => (List.mem_cons.mp hx).elim (fun e => e ▸ h) (h2 x)
theorem alk_nil {n : Nat} : ∀ x ∈ ([] : List Dat), Alk n x := fun x hx => absurd hx List.not_mem_nil
theorem g_ixR {l : List Dat} {k : Nat} (h : k < l.length) : gIx (.tup l) (.int (k : Int)) = some (.val (l.getD k .non)) := by
  unfold gIx
  have : l[k]? = some (l.getD k .non) := by rw [List.getD_eq_getElem?_getD, List.getElem?_eq_getElem h]; rfl
  simp only [atI_lt this]; rfl
theorem g_ixRL {l : List Dat} {k : Nat} (h : k < l.length) : gIx (.lst l) (.int (k : Int)) = some (.val (l.getD k .non)) := by
  unfold gIx
  have : l[k]? = some (l.getD k .non) := by rw [List.getD_eq_getElem?_getD, List.getElem?_eq_getElem h]; rfl
  simp only [atI_lt this]; rfl
theorem y_listRng {E E1 : En} {fa : SE} {r : R} {j : Int} {n : Nat} (ha : fa E = some (r, E1)) (h : rdv E1 (nrm r) = some (.int j)) (hn : NatOf j n) (h1 : -16777216 < j) (h2 : j < 16777216) : zListRng fa E = some (.fresh (.lst ((List.range n).map fun (k : Nat) => Dat.int (k : Int))), E1) := by
  unfold NatOf at hn; subst hn
  unfold zListRng; simp [ha, h, h1, h2, rngD_map]
end Zz
end

section
set_option linter.all false
set_option maxRecDepth 100000
namespace Zz
open PySem PySem.Spec PyProof.Rows L2
theorem put_b {io : Bool} {i j : Nat} {E E1 E2 : En} {d : Dat} (hi : i + 0 < E.length) (h0 : (io && i == 0) = false) (he : esc E (.bor j) = some (d, E1)) (hp : pinB io E1 = true) (h : E1.set i (some (.sh d)) = E2) : put io i (.bor j) E = some E2 := by
  have hi : i < E.length := hi
  unfold put; simp [hi, h0, he, hp, h]
/-! ### slices, sorted, picks by index -/
theorem cut_to (l : List Dat) (k : Nat) : Zz.cutD l none (some (k : Int)) = l.take k := by
  unfold Zz.cutD; rw [HT.sIx_none, HT.sIx_nat, List.drop_zero, Nat.sub_zero]
  by_cases h : k ≤ l.length
  · rw [Nat.min_eq_left h]
  · rw [Nat.min_eq_right (by omega), List.take_of_length_le (Nat.le_refl _), List.take_of_length_le (by omega)]
theorem cut_ft (l : List Dat) (i j : Nat) (h : i ≤ l.length) (hj : j ≤ l.length) : Zz.cutD l (some (i : Int)) (some (j : Int)) = (l.drop i).take (j - i) := by
  unfold Zz.cutD; rw [HT.sIx_nat, HT.sIx_nat, Nat.min_eq_left h, Nat.min_eq_left hj]
theorem g_slTo {α : Type} {l : List α} {D : α → Dat} {k : Nat} : gSl (.tup (l.map D)) none (some (k : Int)) = some (.val (.tup ((l.take k).map D))) := by
  simp only [gSl, cut_to, List.map_take]
theorem g_slOne {α : Type} [Inhabited α] {l : List α} {D : α → Dat} {k : Nat} (h : k < l.length) : gSl (.tup (l.map D)) (some (k : Int)) (some ((k : Int) + 1)) = some (.val (.tup [D (l.getD k default)])) := by
  have e : ((k : Int) + 1) = ((k + 1 : Nat) : Int) := by omega
  simp only [gSl, e]
  rw [cut_ft _ _ _ (by simp; omega) (by simp; omega), show k + 1 - k = 1 by omega, List.drop_eq_getElem_cons (by simpa using h)]
  simp [List.getD_eq_getElem?_getD, List.getElem?_eq_getElem h]
theorem g_revM {α : Type} {l : List α} {D : α → Dat} : gRev (.lst (l.map D)) = some (.fresh (.lst (l.reverse.map D))) := by
  unfold gRev; rw [List.map_reverse]
theorem pick_filter {α : Type} (d : α) (p : α → Bool) : ∀ l : List α, ((List.range l.length).filter fun k => p (l.getD k d)).map (fun k => l.getD k d) = l.filter p
  | [] => rfl
  | x :: l => by
    have ih := pick_filter d p l
    rw [List.length_cons, List.range_succ_eq_map, List.filter_cons, List.filter_map]
    have e : (List.filter ((fun k => p ((x :: l).getD k d)) ∘ Nat.succ) (List.range l.length)) = (List.range l.length).filter fun k => p (l.getD k d) := by
      apply List.filter_congr; intro k _; simp
    rw [e]
    have e2 : (List.map (fun k => (x :: l).getD k d) (List.map Nat.succ ((List.range l.length).filter fun k => p (l.getD k d)))) = ((List.range l.length).filter fun k => p (l.getD k d)).map fun k => l.getD k d := by
      rw [List.map_map]; apply List.map_congr_left; intro k _; simp
    cases hp : p x
    · simp only [List.getD_cons_zero, hp, List.filter_cons, Bool.false_eq_true, if_false]
      rw [e2, ih]
    · simp only [List.getD_cons_zero, hp, List.filter_cons, if_true, List.map_cons]
      rw [e2, ih]
theorem one_cast (n : Nat) : (1 : Int) + (n : Int) = ((n + 1 : Nat) : Int) := by omega
theorem low2 (a b : Nat) : lowI (a : Int) [(b : Int)] = ((min a b : Nat) : Int) := by
  simp only [lowI, PySem.W.minOf, List.foldl]
  by_cases h : b < a
  · rw [if_pos (by simpa [PySem.W.DatumOrd.lt] using h)]; omega
  · rw [if_neg (by simpa [PySem.W.DatumOrd.lt] using h)]; omega
theorem top2 (a b : Nat) : topI (a : Int) [(b : Int)] = ((max a b : Nat) : Int) := by
  simp only [topI, PySem.W.maxOf, List.foldl]
  by_cases h : a < b
  · rw [if_pos (by simpa [PySem.W.DatumOrd.lt] using h)]; omega
  · rw [if_neg (by simpa [PySem.W.DatumOrd.lt] using h)]; omega
theorem y_ifT' {E E1 E2 : En} {t : ST} {fa fb : SE} {b : Bool} {r : R} (h : t E = some (b, E1)) (hb : b = true) (h1 : fa E1 = some (r, E2)) : zIf t fa fb E = some (r, E2) := y_ift (hb ▸ h) h1
theorem y_ifF' {E E1 E2 : En} {t : ST} {fa fb : SE} {b : Bool} {r : R} (h : t E = some (b, E1)) (hb : b = false) (h1 : fb E1 = some (r, E2)) : zIf t fa fb E = some (r, E2) := y_iff (hb ▸ h) h1
theorem g_eqNilF {α β : Type} [DecidableEq α] {D : α → Dat} {n : Nat} (h : EqE D n) (hn : n + 1 ≤ 64) (f : β → α) (l : List β) : gEq (.lst (l.map fun k => D (f k))) (.lst []) = some (.val (.bl l.isEmpty)) := by
  have e := g_eqNil h hn (l.map f)
  rw [List.map_map] at e
  rw [show (l.map fun k => D (f k)) = l.map (D ∘ f) from rfl, e]
  cases l <;> simp
theorem g_eqNilT {β : Type} {f : β → List Int} {l : List β} : gEq (.lst (l.map fun k => Dat.tup ((f k).map Dat.int))) (.lst []) = some (.val (.bl l.isEmpty)) := g_eqNilF (eqe_tup eqe_int) (by decide) f l
theorem alk_lstR {n : Nat} {l : List Dat} (h1 : l.length ≤ 16777216) (h2 : ∀ x ∈ l, Alk n x) : Alk (n + 1) (.lst l) := ⟨h1, h2⟩
theorem alk_tupR {n : Nat} {l : List Dat} (h1 : l.length ≤ 16777216) (h2 : ∀ x ∈ l, Alk n x) : Alk (n + 1) (.tup l) := ⟨h1, h2⟩
theorem isiX_of {ds : List Dat} {r : R} (h : gIsi ds = some r) : gIsiX ds = some r := by unfold gIsiX; rw [h]
theorem isiX_dct_int {a b : List Dat} : gIsiX [.dct a b, .ty "int"] = some (.val (.bl false)) := by simp [gIsiX, gIsi, tyD, gIsiD]
theorem isiX_dct_bool {a b : List Dat} : gIsiX [.dct a b, .ty "bool"] = some (.val (.bl false)) := by simp [gIsiX, gIsi, tyD, gIsiD]
theorem isiX_dct_tuple {a b : List Dat} : gIsiX [.dct a b, .ty "tuple"] = some (.val (.bl false)) := by simp [gIsiX, gIsi, tyD, gIsiD]
theorem isiX_dct_list {a b : List Dat} : gIsiX [.dct a b, .ty "list"] = some (.val (.bl false)) := by simp [gIsiX, gIsi, tyD, gIsiD]
theorem isiX_dct_str {a b : List Dat} : gIsiX [.dct a b, .ty "str"] = some (.val (.bl false)) := by simp [gIsiX, gIsi, tyD, gIsiD]
theorem y_dict0 {E : En} : zDict0 E = some (.fresh (.dct [] []), E) := rfl
theorem y_allR {E E0 E1 : En} {it : SI} {gt : SG} {fe : SE} {vs : List Nat} {l : List Dat} {q : Dat → Bool} {env1 : Dat → En} (hi : it E = some (l, E1)) (hpl : plainB E1 vs = true) (hw : wipeE E1 vs = E0) (hg : ∀ x, gt x E0 = some (env1 x)) (hb : ∀ x, wipeE (env1 x) vs = E0)
    (hf : ∀ x ∈ l, fe (env1 x) = some (.val (.bl (q x)), env1 x)) (hz : l.length ≤ 16777216) : zAll it gt zYes fe vs E = some (.val (.bl (l.all q)), E1) :=
  y_all (D := fun x => x) (by rw [hi, List.map_id'']; intro x; rfl) hpl hw hg hb hf hz
theorem y_andVf {E : En} {fa fb : SE} {b : Bool} (h : fa E = some (.val (.bl b), E)) (hb : b = false) : zAndV fa fb E = some (.val (.bl false), E) := by
  subst hb; unfold zAndV; rw [h]
end Zz
end

section
set_option linter.all false
set_option maxRecDepth 100000
namespace Zz
open PySem PySem.Spec PyProof.Rows L2
theorem sIx_of (n d : Nat) {a : Int} {k : Nat} (h : a = (k : Int)) : HT.sIx n d (some a) = min k n := by subst h; exact HT.sIx_nat n d k
theorem cut_gen {l : List Dat} {lo hi : Option Int} : cutD l lo hi = (l.drop (HT.sIx l.length 0 lo)).take (HT.sIx l.length l.length hi - HT.sIx l.length 0 lo) := rfl
theorem cut_from (l : List Dat) {a : Int} {k : Nat} (h : a = (k : Int)) : cutD l (some a) none = l.drop k := by
  rw [cut_gen, sIx_of _ _ h, HT.sIx_none]
  by_cases hk : k ≤ l.length
  · rw [Nat.min_eq_left hk, List.take_of_length_le (by simp)]
  · rw [Nat.min_eq_right (by omega), List.drop_of_length_le (by omega : l.length ≤ l.length), List.drop_of_length_le (by omega : l.length ≤ k)]; simp
theorem cut_upto (l : List Dat) {a : Int} {k : Nat} (h : a = (k : Int)) : cutD l none (some a) = l.take k := by
  rw [cut_gen, sIx_of _ _ h, HT.sIx_none, List.drop_zero, Nat.sub_zero]
  by_cases hk : k ≤ l.length
  · rw [Nat.min_eq_left hk]
  · rw [Nat.min_eq_right (by omega), List.take_of_length_le (Nat.le_refl _), List.take_of_length_le (by omega)]
theorem cut_last (l : List Dat) : cutD l none (some (-1)) = l.dropLast := by
  rw [cut_gen, HT.sIx_none, List.drop_zero, Nat.sub_zero, List.dropLast_eq_take]
  congr 1
  unfold HT.sIx
  simp only [show (-1 : Int) < 0 from by decide, if_true]; omega
theorem cut_both (l : List Dat) {a b : Int} {i j : Nat} (h : a = (i : Int)) (h2 : b = (j : Int)) : cutD l (some a) (some b) = (l.drop i).take (j - i) := by
  rw [cut_gen, sIx_of _ _ h, sIx_of _ _ h2]
  by_cases hi : i ≤ l.length
  · by_cases hj : j ≤ l.length
    · rw [Nat.min_eq_left hi, Nat.min_eq_left hj]
    · rw [Nat.min_eq_left hi, Nat.min_eq_right (by omega), List.take_of_length_le (by simp), List.take_of_length_le (by simp; omega)]
  · have e1 : min i l.length = l.length := Nat.min_eq_right (by omega)
    rw [e1, List.drop_of_length_le (Nat.le_refl l.length), List.drop_of_length_le (by omega : l.length ≤ i)]; simp
section
variable {α : Type} {l : List α} {D : α → Dat} {a b : Int} {i k : Nat}
theorem g_slFT (h : a = (k : Int)) : gSl (.tup (l.map D)) (some a) none = some (.val (.tup ((l.drop k).map D))) := by simp only [gSl, cut_from _ h, List.map_drop]
theorem g_slFL (h : a = (k : Int)) : gSl (.lst (l.map D)) (some a) none = some (.fresh (.lst ((l.drop k).map D))) := by simp only [gSl, cut_from _ h, List.map_drop]
theorem g_slUT (h : a = (k : Int)) : gSl (.tup (l.map D)) none (some a) = some (.val (.tup ((l.take k).map D))) := by simp only [gSl, cut_upto _ h, List.map_take]
theorem g_slUL (h : a = (k : Int)) : gSl (.lst (l.map D)) none (some a) = some (.fresh (.lst ((l.take k).map D))) := by simp only [gSl, cut_upto _ h, List.map_take]
theorem g_slBT : gSl (.tup (l.map D)) none (some (-1)) = some (.val (.tup (l.dropLast.map D))) := by simp only [gSl, cut_last, List.map_dropLast]
theorem g_slBL : gSl (.lst (l.map D)) none (some (-1)) = some (.fresh (.lst (l.dropLast.map D))) := by simp only [gSl, cut_last, List.map_dropLast]
theorem g_slXT (h : a = (i : Int)) (h2 : b = (k : Int)) : gSl (.tup (l.map D)) (some a) (some b) = some (.val (.tup (((l.drop i).take (k - i)).map D))) := by simp only [gSl, cut_both _ h h2, List.map_drop, List.map_take]
theorem g_slXL (h : a = (i : Int)) (h2 : b = (k : Int)) : gSl (.lst (l.map D)) (some a) (some b) = some (.fresh (.lst (((l.drop i).take (k - i)).map D))) := by simp only [gSl, cut_both _ h h2, List.map_drop, List.map_take]
theorem g_addTM {l' : List α} (h : sizeOk (l.length + l'.length) = true) : gAdd (.tup (l.map D)) (.tup (l'.map D)) = some (.val (.tup ((l ++ l').map D))) := by
  rw [g_addT (by simpa using h), List.map_append]
theorem g_addLM {l' : List α} (h : sizeOk (l.length + l'.length) = true) : gAdd (.lst (l.map D)) (.lst (l'.map D)) = some (.fresh (.lst ((l ++ l').map D))) := by
  rw [g_addL (by simpa using h), List.map_append]
theorem g_addTM1 {x : α} (h : sizeOk (l.length + 1) = true) : gAdd (.tup (l.map D)) (.tup [D x]) = some (.val (.tup ((l ++ [x]).map D))) := g_addTM (l' := [x]) h
theorem g_addLM1 {x : α} (h : sizeOk (l.length + 1) = true) : gAdd (.lst (l.map D)) (.lst [D x]) = some (.fresh (.lst ((l ++ [x]).map D))) := g_addLM (l' := [x]) h
end
theorem g_negI {i : Int} : gNeg (.int i) = some (.val (.int (-i))) := rfl
end Zz
end

section
set_option Elab.async false
set_option linter.all false
set_option maxRecDepth 100000
set_option maxHeartbeats 0
namespace Pr
open PySem PySem.Spec PyProof.Rows L2 Zz
def top (i : Nat) : Stmt := PySem.Challenge.pw_laytogether_k17_whole_shortest_fixed_lay.main.body.getD i (.Pass ⟨0, 0, 0, 0⟩)
section
variable {P : Program} {w : World} {K : PySem.W.Frag} {G : GG} {base : Heap}

def DC_FEWEST_LAYS : Dat := .tup [.tup [], .tup [.tup [.int 0, .int 1]], .tup [.tup [.int 0, .int 1], .tup [.int 1, .int 2], .tup [.int 0, .int 1]], .tup [.tup [.int 0, .int 1], .tup [.int 2, .int 3], .tup [.int 0, .int 2], .tup [.int 1, .int 3], .tup [.int 1, .int 2]], .tup [.tup [.int 0, .int 1], .tup [.int 3, .int 4], .tup [.int 2, .int 4], .tup [.int 2, .int 3], .tup [.int 1, .int 4], .tup [.int 0, .int 3], .tup [.int 0, .int 2], .tup [.int 1, .int 3], .tup [.int 1, .int 2]]]
/-! ### is_number -/
abbrev N_is_number : List Str := ["value", "least", "most"]
theorem nd_is_number : (N_is_number : List Str).Nodup := by decide
theorem sc_is_number : FnScope N_is_number ["value", "least", "most"] (defScope (top 7)) := ⟨rfl, rfl, rfl, by decide +kernel, rfl, by decide +kernel, by decide +kernel⟩
def g_is_number : SS := zSeq (zRet false (zAndV (zCallB gIsiX (zCons (zVar 0) (zCons (zC (.ty "int")) (zNil)))) (zAndV (zOfT (zTNot (zTru (zCallB gIsiX (zCons (zVar 0) (zCons (zC (.ty "bool")) (zNil))))))) (zChain gLe gLe (zVar 1) (zVar 0) (zVar 2))))) (zNext)
def fs_is_number : FS := ⟨3, false, zDef (N_is_number).length false g_is_number⟩
theorem rd_is_number {d0 d1 d2 : Dat} {o : Dat × Bool × Dat} (h : Zz.Run false g_is_number [some (.sh d0), some (.sh d1), some (.sh d2)] (Is o)) : fs_is_number.run [d0, d1, d2] = some o := run_def rfl h
theorem rq_is_number {d0 d1 d2 : Dat} {Q : Dat × Bool × Dat → Prop} (h : Zz.Run false g_is_number [some (.sh d0), some (.sh d1), some (.sh d2)] Q) : ∃ o, fs_is_number.run [d0, d1, d2] = some o ∧ Q o := run_defQ rfl h
theorem b_is_number (m_bool : G.mg "bool" = none) (m_int : G.mg "int" = none) (m_isinstance : G.mg "isinstance" = none) {cd : Value} {f : Addr} {A : Around} {outer : List Env} {s : Shared} {H : Hp} {E : XK} (hr : Room 0 (A.deeper (envOfC "is_number" (defScope (top 7)) s.heap.objs.size f cd))) :
    PSs (cxOf CX0 P w K G.mg base N_is_number "is_number" (defScope (top 7)) f cd A outer s H E).nox (defBody (top 7)) (tSv K G false g_is_number) := by
  unfold g_is_number
  exact pzs_cons (pz_ret (pz_andV (pz_callB' (by rfl) m_isinstance rfl cz_isiX (by decide) rfl (pz_cons (pz_var (i := 0) rfl (by first | exact .inl rfl | exact .inr (.inl rfl) | exact .inr (.inr rfl)) rfl rfl) (pz_cons (pz_bv (by rfl) m_int rfl (by decide) rfl) (pz_nil) (by rfl)) (by rfl)) (by rfl) (by rfl)) (pz_andV (pz_notT (pz_callB' (by rfl) m_isinstance rfl cz_isiX (by decide) rfl (pz_cons (pz_var (i := 0) rfl (by first | exact .inl rfl | exact .inr (.inl rfl) | exact .inr (.inr rfl)) rfl rfl) (pz_cons (pz_bv (by rfl) m_bool rfl (by decide) rfl) (pz_nil) (by rfl)) (by rfl)) (by rfl) (by rfl))) (pz_one (pz_chain (oz_le) (oz_le) (pz_var (i := 1) rfl (by first | exact .inl rfl | exact .inr (.inl rfl) | exact .inr (.inr rfl)) rfl rfl) (pz_var (i := 0) rfl (by first | exact .inl rfl | exact .inr (.inl rfl) | exact .inr (.inr rfl)) rfl rfl) (pz_var (i := 2) rfl (by first | exact .inl rfl | exact .inr (.inl rfl) | exact .inr (.inr rfl)) rfl rfl) (by with_unfolding_all rfl)))))) (pzs_nil)
theorem k_is_number (m_bool : G.mg "bool" = none) (m_int : G.mg "int" = none) (m_isinstance : G.mg "isinstance" = none) {cd : Value} {fd : FuncData} {f : Addr} (F : Df K "is_number" (top 7) f fd cd) (gm : G.mg "is_number" = some (.ref f)) (b : L2.Binds K fd ["value", "least", "most"] []) : Kn P w K G base "is_number" 1 fs_is_number :=
  ⟨⟨f, fd, ["value", "least", "most"], F.ok (k := 0) sc_is_number rfl (by decide) (fun A outer s H E hr => b_is_number m_bool m_int m_isinstance hr) (fun ds out _ h => h), gm, F.kp, b⟩⟩
/-! ### is_tuple -/
abbrev N_is_tuple : List Str := ["value", "least", "most"]
theorem nd_is_tuple : (N_is_tuple : List Str).Nodup := by decide
theorem sc_is_tuple : FnScope N_is_tuple ["value", "least", "most"] (defScope (top 8)) := ⟨rfl, rfl, rfl, by decide +kernel, rfl, by decide +kernel, by decide +kernel⟩
def g_is_tuple : SS := zSeq (zRet false (zAndV (zCallB gIsiX (zCons (zVar 0) (zCons (zC (.ty "tuple")) (zNil)))) (zChain gLe gLe (zVar 1) (zCallB gLen (zCons (zVar 0) (zNil))) (zVar 2)))) (zNext)
def fs_is_tuple : FS := ⟨3, false, zDef (N_is_tuple).length false g_is_tuple⟩
theorem rd_is_tuple {d0 d1 d2 : Dat} {o : Dat × Bool × Dat} (h : Zz.Run false g_is_tuple [some (.sh d0), some (.sh d1), some (.sh d2)] (Is o)) : fs_is_tuple.run [d0, d1, d2] = some o := run_def rfl h
theorem rq_is_tuple {d0 d1 d2 : Dat} {Q : Dat × Bool × Dat → Prop} (h : Zz.Run false g_is_tuple [some (.sh d0), some (.sh d1), some (.sh d2)] Q) : ∃ o, fs_is_tuple.run [d0, d1, d2] = some o ∧ Q o := run_defQ rfl h
theorem b_is_tuple (m_isinstance : G.mg "isinstance" = none) (m_len : G.mg "len" = none) (m_tuple : G.mg "tuple" = none) {cd : Value} {f : Addr} {A : Around} {outer : List Env} {s : Shared} {H : Hp} {E : XK} (hr : Room 0 (A.deeper (envOfC "is_tuple" (defScope (top 8)) s.heap.objs.size f cd))) :
    PSs (cxOf CX0 P w K G.mg base N_is_tuple "is_tuple" (defScope (top 8)) f cd A outer s H E).nox (defBody (top 8)) (tSv K G false g_is_tuple) := by
  unfold g_is_tuple
  exact pzs_cons (pz_ret (pz_andV (pz_callB' (by rfl) m_isinstance rfl cz_isiX (by decide) rfl (pz_cons (pz_var (i := 0) rfl (by first | exact .inl rfl | exact .inr (.inl rfl) | exact .inr (.inr rfl)) rfl rfl) (pz_cons (pz_bv (by rfl) m_tuple rfl (by decide) rfl) (pz_nil) (by rfl)) (by rfl)) (by rfl) (by rfl)) (pz_one (pz_chain (oz_le) (oz_le) (pz_var (i := 1) rfl (by first | exact .inl rfl | exact .inr (.inl rfl) | exact .inr (.inr rfl)) rfl rfl) (pz_callB' (by rfl) m_len rfl cz_len (by decide) rfl (pz_cons (pz_var (i := 0) rfl (by first | exact .inl rfl | exact .inr (.inl rfl) | exact .inr (.inr rfl)) rfl rfl) (pz_nil) (by rfl)) (by rfl) (by rfl)) (pz_var (i := 2) rfl (by first | exact .inl rfl | exact .inr (.inl rfl) | exact .inr (.inr rfl)) rfl rfl) (by with_unfolding_all rfl))))) (pzs_nil)
theorem k_is_tuple (m_isinstance : G.mg "isinstance" = none) (m_len : G.mg "len" = none) (m_tuple : G.mg "tuple" = none) {cd : Value} {fd : FuncData} {f : Addr} (F : Df K "is_tuple" (top 8) f fd cd) (gm : G.mg "is_tuple" = some (.ref f)) (b : L2.Binds K fd ["value", "least", "most"] []) : Kn P w K G base "is_tuple" 1 fs_is_tuple :=
  ⟨⟨f, fd, ["value", "least", "most"], F.ok (k := 0) sc_is_tuple rfl (by decide) (fun A outer s H E hr => b_is_tuple m_isinstance m_len m_tuple hr) (fun ds out _ h => h), gm, F.kp, b⟩⟩
/-! ### check_number -/
abbrev N_check_number : List Str := ["value", "least", "most"]
theorem nd_check_number : (N_check_number : List Str).Nodup := by decide
theorem sc_check_number : FnScope N_check_number ["value", "least", "most"] (defScope (top 9)) := ⟨rfl, rfl, rfl, by decide +kernel, rfl, by decide +kernel, by decide +kernel⟩
def g_check_number : SS := zSeq (zIfS false (zTNot (zTru (zCall fs_is_number (zCons (zVar 0) (zCons (zVar 1) (zCons (zVar 2) (zNil))))))) (zSeq (zNever) (zNext)) (zNext)) (zNext)
def fs_check_number : FS := ⟨3, false, zDef (N_check_number).length false g_check_number⟩
theorem rd_check_number {d0 d1 d2 : Dat} {o : Dat × Bool × Dat} (h : Zz.Run false g_check_number [some (.sh d0), some (.sh d1), some (.sh d2)] (Is o)) : fs_check_number.run [d0, d1, d2] = some o := run_def rfl h
theorem rq_check_number {d0 d1 d2 : Dat} {Q : Dat × Bool × Dat → Prop} (h : Zz.Run false g_check_number [some (.sh d0), some (.sh d1), some (.sh d2)] Q) : ∃ o, fs_check_number.run [d0, d1, d2] = some o ∧ Q o := run_defQ rfl h
theorem b_check_number (K_is_number : Kn P w K G base "is_number" 1 fs_is_number) {cd : Value} {f : Addr} {A : Around} {outer : List Env} {s : Shared} {H : Hp} {E : XK} (hr : Room 1 (A.deeper (envOfC "check_number" (defScope (top 9)) s.heap.objs.size f cd))) :
    PSs (cxOf CX0 P w K G.mg base N_check_number "check_number" (defScope (top 9)) f cd A outer s H E).nox (defBody (top 9)) (tSv K G false g_check_number) := by
  unfold g_check_number
  exact pzs_cons (pz_ifS (pz_tnot (pz_tru (pz_callK K_is_number rfl (hr.mono (by decide)) (by rfl) (pz_cons (pz_var (i := 0) rfl (by first | exact .inl rfl | exact .inr (.inl rfl) | exact .inr (.inr rfl)) rfl rfl) (pz_cons (pz_var (i := 1) rfl (by first | exact .inl rfl | exact .inr (.inl rfl) | exact .inr (.inr rfl)) rfl rfl) (pz_cons (pz_var (i := 2) rfl (by first | exact .inl rfl | exact .inr (.inl rfl) | exact .inr (.inr rfl)) rfl rfl) (pz_nil) (by rfl)) (by rfl)) (by rfl)) (nrm_cons (nrm_cons (nrm_cons (nrm_nil)))) rfl (by rfl) (by rfl)) (fun _ => rfl))) (pzs_cons (pz_never) (pzs_nil)) (pzs_nil)) (pzs_nil)
theorem k_check_number (K_is_number : Kn P w K G base "is_number" 1 fs_is_number) {cd : Value} {fd : FuncData} {f : Addr} (F : Df K "check_number" (top 9) f fd cd) (gm : G.mg "check_number" = some (.ref f)) (b : L2.Binds K fd ["value", "least", "most"] []) : Kn P w K G base "check_number" 2 fs_check_number :=
  ⟨⟨f, fd, ["value", "least", "most"], F.ok (k := 1) sc_check_number rfl (by decide) (fun A outer s H E hr => b_check_number K_is_number hr) (fun ds out _ h => h), gm, F.kp, b⟩⟩
/-! ### is_lay -/
abbrev N_is_lay : List Str := ["value", "many", "people", "person"]
theorem nd_is_lay : (N_is_lay : List Str).Nodup := by decide
theorem sc_is_lay : FnScope N_is_lay ["value", "many"] (defScope (top 10)) := ⟨rfl, rfl, rfl, by decide +kernel, rfl, by decide +kernel, by decide +kernel⟩
def g_is_lay : SS := zSeq (zSet false 2 (zAndV (zCall fs_is_tuple (zCons (zVar 0) (zCons (zC (.int 2)) (zCons (zC (.int 2)) (zNil))))) (zAll (zIt (zVar 0)) (gN false 3) (zYes) (zCall fs_is_number (zCons (zVar 3) (zCons (zC (.int 0)) (zCons (zBin gSub (zVar 1) (zC (.int 1))) (zNil))))) [3]))) (zSeq (zRet false (zAndV (zVar 2) (zBin gNe (zBin gIx (zVar 0) (zC (.int 0))) (zBin gIx (zVar 0) (zC (.int 1)))))) (zNext))
def fs_is_lay : FS := ⟨2, false, zDef (N_is_lay).length false g_is_lay⟩
theorem rd_is_lay {d0 d1 : Dat} {o : Dat × Bool × Dat} (h : Zz.Run false g_is_lay [some (.sh d0), some (.sh d1), none, none] (Is o)) : fs_is_lay.run [d0, d1] = some o := run_def rfl h
theorem rq_is_lay {d0 d1 : Dat} {Q : Dat × Bool × Dat → Prop} (h : Zz.Run false g_is_lay [some (.sh d0), some (.sh d1), none, none] Q) : ∃ o, fs_is_lay.run [d0, d1] = some o ∧ Q o := run_defQ rfl h
theorem b_is_lay (m_all : G.mg "all" = none) (K_is_number : Kn P w K G base "is_number" 1 fs_is_number) (K_is_tuple : Kn P w K G base "is_tuple" 1 fs_is_tuple) {c PT : Addr} (TB : GxR.TabB base G.mg c PT) (hP : PT ∈ G.ts) {f : Addr} {A : Around} {outer : List Env} {s : Shared} {H : Hp} {E : XK} (hr : Room 6 (A.deeper (envOfC "is_lay" (defScope (top 10)) s.heap.objs.size f (.ref c)))) :
    PSs (cxOf CX0 P w K G.mg base N_is_lay "is_lay" (defScope (top 10)) f (.ref c) A outer s H E).nox (defBody (top 10)) (tSv K G false g_is_lay) := by
  unfold g_is_lay
  exact pzs_cons (pz_set (i := 2) nd_is_lay rfl (by first | exact .inl rfl | exact .inr rfl) (pz_andV (pz_callK K_is_tuple rfl (hr.mono (by decide)) (by rfl) (pz_cons (pz_var (i := 0) rfl (by first | exact .inl rfl | exact .inr (.inl rfl) | exact .inr (.inr rfl)) rfl rfl) (pz_cons (pz_const_int) (pz_cons (pz_const_int) (pz_nil) (by rfl)) (by rfl)) (by rfl)) (nrm_cons (nrm_cons (nrm_cons (nrm_nil)))) rfl (by rfl) (by rfl)) (pz_one (pz_allG (own := [("person", 3)]) (k := 1) (hr.mono (by decide)) rfl nd_is_lay TB hP rfl (by rfl) m_all rfl (gblkB_ok (by rfl)) (piz_seq (pz_var (i := 0) rfl (by first | exact .inl rfl | exact .inr (.inl rfl) | exact .inr (.inr rfl)) rfl rfl)) (fun _ _ _ _ _ _ _ => pgz_name (i := 3) nd_is_lay rfl (by first | exact .inl rfl | exact .inr rfl) (by first | exact .inl rfl | exact .inr rfl)) (fun _ _ _ _ _ _ _ hr => ptz_nil) (fun _ _ _ _ _ _ _ hr => pz_callK K_is_number rfl (hr.mono (by decide)) (by rfl) (pz_cons (pz_var (i := 3) rfl (by first | exact .inl rfl | exact .inr (.inl rfl) | exact .inr (.inr rfl)) rfl rfl) (pz_cons (pz_const_int) (pz_cons (pz_bin oz_sub (pz_var (i := 1) rfl (by first | exact .inl rfl | exact .inr (.inl rfl) | exact .inr (.inr rfl)) rfl rfl) (pz_const_int)) (pz_nil) (by rfl)) (by rfl)) (by rfl)) (nrm_cons (nrm_cons (nrm_cons (nrm_nil)))) rfl (by rfl) (by rfl)) (fun _ => rfl) (tgOk_name) (by decide) (by rfl)))) (by rfl) (by first | exact .inl rfl | exact .inr rfl)) (pzs_cons (pz_ret (pz_andV (pz_var (i := 2) rfl (by first | exact .inl rfl | exact .inr (.inl rfl) | exact .inr (.inr rfl)) rfl rfl) (pz_one (pz_cmp (oz_ne hr.units) (by rfl) (pz_ix (pz_var (i := 0) rfl (by first | exact .inl rfl | exact .inr (.inl rfl) | exact .inr (.inr rfl)) rfl rfl) (pz_const_int) (fun _ _ => rfl)) (pz_ix (pz_var (i := 0) rfl (by first | exact .inl rfl | exact .inr (.inl rfl) | exact .inr (.inr rfl)) rfl rfl) (pz_const_int) (fun _ _ => rfl)))))) (pzs_nil))
theorem k_is_lay (m_all : G.mg "all" = none) (K_is_number : Kn P w K G base "is_number" 1 fs_is_number) (K_is_tuple : Kn P w K G base "is_tuple" 1 fs_is_tuple) {c PT : Addr} (TB : GxR.TabB base G.mg c PT) (hP : PT ∈ G.ts) {fd : FuncData} {f : Addr} (F : Df K "is_lay" (top 10) f fd (.ref c)) (gm : G.mg "is_lay" = some (.ref f)) (b : L2.Binds K fd ["value", "many"] []) : Kn P w K G base "is_lay" 7 fs_is_lay :=
  ⟨⟨f, fd, ["value", "many"], F.ok (k := 6) sc_is_lay rfl (by decide) (fun A outer s H E hr => b_is_lay m_all K_is_number K_is_tuple TB hP hr) (fun ds out _ h => h), gm, F.kp, b⟩⟩
/-! ### is_lays -/
abbrev N_is_lays : List Str := ["value", "many", "pair"]
theorem nd_is_lays : (N_is_lays : List Str).Nodup := by decide
theorem sc_is_lays : FnScope N_is_lays ["value", "many"] (defScope (top 11)) := ⟨rfl, rfl, rfl, by decide +kernel, rfl, by decide +kernel, by decide +kernel⟩
def g_is_lays : SS := zSeq (zRet false (zAndV (zCall fs_is_tuple (zCons (zVar 0) (zCons (zC (.int 0)) (zCons (zC (.int 60)) (zNil))))) (zAll (zIt (zVar 0)) (gN false 2) (zYes) (zCall fs_is_lay (zCons (zVar 2) (zCons (zVar 1) (zNil)))) [2]))) (zNext)
def fs_is_lays : FS := ⟨2, false, zDef (N_is_lays).length false g_is_lays⟩
theorem rd_is_lays {d0 d1 : Dat} {o : Dat × Bool × Dat} (h : Zz.Run false g_is_lays [some (.sh d0), some (.sh d1), none] (Is o)) : fs_is_lays.run [d0, d1] = some o := run_def rfl h
theorem rq_is_lays {d0 d1 : Dat} {Q : Dat × Bool × Dat → Prop} (h : Zz.Run false g_is_lays [some (.sh d0), some (.sh d1), none] Q) : ∃ o, fs_is_lays.run [d0, d1] = some o ∧ Q o := run_defQ rfl h
theorem b_is_lays (m_all : G.mg "all" = none) {t_MOST_LAYS : Tok} (c_MOST_LAYS : G.mg "MOST_LAYS" = some (.int 60 t_MOST_LAYS)) (K_is_lay : Kn P w K G base "is_lay" 7 fs_is_lay) (K_is_tuple : Kn P w K G base "is_tuple" 1 fs_is_tuple) {c PT : Addr} (TB : GxR.TabB base G.mg c PT) (hP : PT ∈ G.ts) {f : Addr} {A : Around} {outer : List Env} {s : Shared} {H : Hp} {E : XK} (hr : Room 12 (A.deeper (envOfC "is_lays" (defScope (top 11)) s.heap.objs.size f (.ref c)))) :
    PSs (cxOf CX0 P w K G.mg base N_is_lays "is_lays" (defScope (top 11)) f (.ref c) A outer s H E).nox (defBody (top 11)) (tSv K G false g_is_lays) := by
  unfold g_is_lays
  exact pzs_cons (pz_ret (pz_andV (pz_callK K_is_tuple rfl (hr.mono (by decide)) (by rfl) (pz_cons (pz_var (i := 0) rfl (by first | exact .inl rfl | exact .inr (.inl rfl) | exact .inr (.inr rfl)) rfl rfl) (pz_cons (pz_const_int) (pz_cons (pz_gv (v := .int 60) (by rfl) c_MOST_LAYS ⟨_, rfl⟩ (fun _ _ => rfl) rfl) (pz_nil) (by rfl)) (by rfl)) (by rfl)) (nrm_cons (nrm_cons (nrm_cons (nrm_nil)))) rfl (by rfl) (by rfl)) (pz_one (pz_allG (own := [("pair", 2)]) (k := 7) (hr.mono (by decide)) rfl nd_is_lays TB hP rfl (by rfl) m_all rfl (gblkB_ok (by rfl)) (piz_seq (pz_var (i := 0) rfl (by first | exact .inl rfl | exact .inr (.inl rfl) | exact .inr (.inr rfl)) rfl rfl)) (fun _ _ _ _ _ _ _ => pgz_name (i := 2) nd_is_lays rfl (by first | exact .inl rfl | exact .inr rfl) (by first | exact .inl rfl | exact .inr rfl)) (fun _ _ _ _ _ _ _ hr => ptz_nil) (fun _ _ _ _ _ _ _ hr => pz_callK K_is_lay rfl (hr.mono (by decide)) (by rfl) (pz_cons (pz_var (i := 2) rfl (by first | exact .inl rfl | exact .inr (.inl rfl) | exact .inr (.inr rfl)) rfl rfl) (pz_cons (pz_var (i := 1) rfl (by first | exact .inl rfl | exact .inr (.inl rfl) | exact .inr (.inr rfl)) rfl rfl) (pz_nil) (by rfl)) (by rfl)) (nrm_cons (nrm_cons (nrm_nil))) rfl (by rfl) (by rfl)) (fun _ => rfl) (tgOk_name) (by decide) (by rfl))))) (pzs_nil)
theorem k_is_lays (m_all : G.mg "all" = none) {t_MOST_LAYS : Tok} (c_MOST_LAYS : G.mg "MOST_LAYS" = some (.int 60 t_MOST_LAYS)) (K_is_lay : Kn P w K G base "is_lay" 7 fs_is_lay) (K_is_tuple : Kn P w K G base "is_tuple" 1 fs_is_tuple) {c PT : Addr} (TB : GxR.TabB base G.mg c PT) (hP : PT ∈ G.ts) {fd : FuncData} {f : Addr} (F : Df K "is_lays" (top 11) f fd (.ref c)) (gm : G.mg "is_lays" = some (.ref f)) (b : L2.Binds K fd ["value", "many"] []) : Kn P w K G base "is_lays" 13 fs_is_lays :=
  ⟨⟨f, fd, ["value", "many"], F.ok (k := 12) sc_is_lays rfl (by decide) (fun A outer s H E hr => b_is_lays m_all c_MOST_LAYS K_is_lay K_is_tuple TB hP hr) (fun ds out _ h => h), gm, F.kp, b⟩⟩
/-! ### check_lays -/
abbrev N_check_lays : List Str := ["lays", "many", "index", "pair"]
theorem nd_check_lays : (N_check_lays : List Str).Nodup := by decide
theorem sc_check_lays : FnScope N_check_lays ["lays", "many"] (defScope (top 12)) := ⟨rfl, rfl, rfl, by decide +kernel, rfl, by decide +kernel, by decide +kernel⟩
def g_check_lays : SS := zSeq (zIfS false (zTNot (zTru (zCall fs_is_tuple (zCons (zVar 0) (zCons (zC (.int 0)) (zCons (zC (.int 60)) (zNil))))))) (zSeq (zNever) (zNext)) (zNext)) (zSeq (zFor false (zEnum (zCons (zVar 0) (zNil))) (gT [gN false 2, gN false 3]) (zSeq (zIfS false (zTNot (zTru (zCall fs_is_lay (zCons (zVar 3) (zCons (zVar 1) (zNil)))))) (zSeq (zNever) (zNext)) (zNext)) (zNext))) (zNext))
def fs_check_lays : FS := ⟨2, false, zDef (N_check_lays).length false g_check_lays⟩
theorem rd_check_lays {d0 d1 : Dat} {o : Dat × Bool × Dat} (h : Zz.Run false g_check_lays [some (.sh d0), some (.sh d1), none, none] (Is o)) : fs_check_lays.run [d0, d1] = some o := run_def rfl h
theorem rq_check_lays {d0 d1 : Dat} {Q : Dat × Bool × Dat → Prop} (h : Zz.Run false g_check_lays [some (.sh d0), some (.sh d1), none, none] Q) : ∃ o, fs_check_lays.run [d0, d1] = some o ∧ Q o := run_defQ rfl h
theorem b_check_lays (m_enumerate : G.mg "enumerate" = none) {t_MOST_LAYS : Tok} (c_MOST_LAYS : G.mg "MOST_LAYS" = some (.int 60 t_MOST_LAYS)) (K_is_lay : Kn P w K G base "is_lay" 7 fs_is_lay) (K_is_tuple : Kn P w K G base "is_tuple" 1 fs_is_tuple) {cd : Value} {f : Addr} {A : Around} {outer : List Env} {s : Shared} {H : Hp} {E : XK} (hr : Room 7 (A.deeper (envOfC "check_lays" (defScope (top 12)) s.heap.objs.size f cd))) :
    PSs (cxOf CX0 P w K G.mg base N_check_lays "check_lays" (defScope (top 12)) f cd A outer s H E).nox (defBody (top 12)) (tSv K G false g_check_lays) := by
  unfold g_check_lays
  exact pzs_cons (pz_ifS (pz_tnot (pz_tru (pz_callK K_is_tuple rfl (hr.mono (by decide)) (by rfl) (pz_cons (pz_var (i := 0) rfl (by first | exact .inl rfl | exact .inr (.inl rfl) | exact .inr (.inr rfl)) rfl rfl) (pz_cons (pz_const_int) (pz_cons (pz_gv (v := .int 60) (by rfl) c_MOST_LAYS ⟨_, rfl⟩ (fun _ _ => rfl) rfl) (pz_nil) (by rfl)) (by rfl)) (by rfl)) (nrm_cons (nrm_cons (nrm_cons (nrm_nil)))) rfl (by rfl) (by rfl)) (fun _ => rfl))) (pzs_cons (pz_never) (pzs_nil)) (pzs_nil)) (pzs_cons (pz_for PassesOwn.never rfl (piz_enum (by rfl) m_enumerate (pz_cons (pz_var (i := 0) rfl (by first | exact .inl rfl | exact .inr (.inl rfl) | exact .inr (.inr rfl)) rfl rfl) (pz_nil) (by rfl)) (nrm_cons (nrm_nil)) (by rfl)) (pgz_tup rfl (pgsz_cons (pgz_name (i := 2) nd_check_lays rfl (by first | exact .inl rfl | exact .inr rfl) (by first | exact .inl rfl | exact .inr rfl)) (pgsz_cons (pgz_name (i := 3) nd_check_lays rfl (by first | exact .inl rfl | exact .inr rfl) (by first | exact .inl rfl | exact .inr rfl)) (pgsz_nil) (by rfl)) (by rfl)) rfl (by rfl) (by rfl)) (pzs_cons (pz_ifS (pz_tnot (pz_tru (pz_callK K_is_lay rfl (hr.mono (by decide)) (by rfl) (pz_cons (pz_var (i := 3) rfl (by first | exact .inl rfl | exact .inr (.inl rfl) | exact .inr (.inr rfl)) rfl rfl) (pz_cons (pz_var (i := 1) rfl (by first | exact .inl rfl | exact .inr (.inl rfl) | exact .inr (.inr rfl)) rfl rfl) (pz_nil) (by rfl)) (by rfl)) (nrm_cons (nrm_cons (nrm_nil))) rfl (by rfl) (by rfl)) (fun _ => rfl))) (pzs_cons (pz_never) (pzs_nil)) (pzs_nil)) (pzs_nil)) (fun _ => rfl)) (pzs_nil))
theorem k_check_lays (m_enumerate : G.mg "enumerate" = none) {t_MOST_LAYS : Tok} (c_MOST_LAYS : G.mg "MOST_LAYS" = some (.int 60 t_MOST_LAYS)) (K_is_lay : Kn P w K G base "is_lay" 7 fs_is_lay) (K_is_tuple : Kn P w K G base "is_tuple" 1 fs_is_tuple) {cd : Value} {fd : FuncData} {f : Addr} (F : Df K "check_lays" (top 12) f fd cd) (gm : G.mg "check_lays" = some (.ref f)) (b : L2.Binds K fd ["lays", "many"] []) : Kn P w K G base "check_lays" 8 fs_check_lays :=
  ⟨⟨f, fd, ["lays", "many"], F.ok (k := 7) sc_check_lays rfl (by decide) (fun A outer s H E hr => b_check_lays m_enumerate c_MOST_LAYS K_is_lay K_is_tuple hr) (fun ds out _ h => h), gm, F.kp, b⟩⟩
/-! ### choices -/
abbrev N_choices : List Str := ["lots", "found", "lot", "chosen", "thing"]
theorem nd_choices : (N_choices : List Str).Nodup := by decide
theorem sc_choices : FnScope N_choices ["lots"] (defScope (top 13)) := ⟨rfl, rfl, rfl, by decide +kernel, rfl, by decide +kernel, by decide +kernel⟩
def g_choices : SS := zSeq (zSet false 1 (zLst (zCons (zTup (zNil)) (zNil)))) (zSeq (zFor false (zIt (zVar 0)) (gN false 2) (zSeq (zSet false 1 (zLc2 (zIt (zVar 1)) (gN false 3) (zYes) (zIt (zVar 2)) (gN false 4) (zYes) (zBin gAdd (zVar 3) (zTup (zCons (zVar 4) (zNil)))) [3, 4] [4])) (zNext))) (zSeq (zRet false (zVar 1)) (zNext)))
def fs_choices : FS := ⟨1, false, zDef (N_choices).length false g_choices⟩
theorem rd_choices {d0 : Dat} {o : Dat × Bool × Dat} (h : Zz.Run false g_choices [some (.sh d0), none, none, none, none] (Is o)) : fs_choices.run [d0] = some o := run_def rfl h
theorem rq_choices {d0 : Dat} {Q : Dat × Bool × Dat → Prop} (h : Zz.Run false g_choices [some (.sh d0), none, none, none, none] Q) : ∃ o, fs_choices.run [d0] = some o ∧ Q o := run_defQ rfl h
theorem b_choices {cd : Value} {f : Addr} {A : Around} {outer : List Env} {s : Shared} {H : Hp} {E : XK} (hr : Room 0 (A.deeper (envOfC "choices" (defScope (top 13)) s.heap.objs.size f cd))) :
    PSs (cxOf CX0 P w K G.mg base N_choices "choices" (defScope (top 13)) f cd A outer s H E).nox (defBody (top 13)) (tSv K G false g_choices) := by
  unfold g_choices
  exact pzs_cons (pz_set (i := 1) nd_choices rfl (by first | exact .inl rfl | exact .inr rfl) (pz_lst (pz_cons (pz_tup (pz_nil) (nrm_nil)) (pz_nil) (by rfl)) (nrm_cons (nrm_nil))) (by rfl) (by first | exact .inl rfl | exact .inr rfl)) (pzs_cons (pz_for PassesOwn.never rfl (piz_seq (pz_var (i := 0) rfl (by first | exact .inl rfl | exact .inr (.inl rfl) | exact .inr (.inr rfl)) rfl rfl)) (pgz_name (i := 2) nd_choices rfl (by first | exact .inl rfl | exact .inr rfl) (by first | exact .inl rfl | exact .inr rfl)) (pzs_cons ((by first | exact pz_setLc2 (i := 1) (own := [("chosen", 3), ("thing", 4)]) (vs1 := [4]) rfl nd_choices rfl rfl (by rfl) (piz_seq (pz_var (i := 1) rfl (by first | exact .inl rfl | exact .inr (.inl rfl) | exact .inr (.inr rfl)) rfl rfl)) (blkB_ok (by rfl)) (fun _ _ _ _ _ => pgz_name (i := 3) nd_choices rfl (by first | exact .inl rfl | exact .inr rfl) (by first | exact .inl rfl | exact .inr rfl)) (fun _ _ _ _ _ => ptz_nil) (fun _ _ _ _ _ => piz_seq (pz_var (i := 2) rfl (by first | exact .inl rfl | exact .inr (.inl rfl) | exact .inr (.inr rfl)) rfl rfl)) (fun _ _ _ _ _ => pgz_name (i := 4) nd_choices rfl (by first | exact .inl rfl | exact .inr rfl) (by first | exact .inl rfl | exact .inr rfl)) (fun _ _ _ _ _ => ptz_nil) (fun _ _ _ _ _ => pz_bin oz_add (pz_var (i := 3) rfl (by first | exact .inl rfl | exact .inr (.inl rfl) | exact .inr (.inr rfl)) rfl rfl) (pz_tup (pz_cons (pz_var (i := 4) rfl (by first | exact .inl rfl | exact .inr (.inl rfl) | exact .inr (.inr rfl)) rfl rfl) (pz_nil) (by rfl)) (nrm_cons (nrm_nil)))) (fun _ => rfl) (fun _ _ => rfl) (tgOk_name) (by decide) (tgOk_name) (by decide) (by decide) | exact pz_set (i := 1) nd_choices rfl (by first | exact .inl rfl | exact .inr rfl) (pz_lc2 (own := [("chosen", 3), ("thing", 4)]) (vs1 := [4]) rfl nd_choices (piz_seq (pz_var (i := 1) rfl (by first | exact .inl rfl | exact .inr (.inl rfl) | exact .inr (.inr rfl)) rfl rfl)) (blkB_ok (by rfl)) (fun _ _ _ _ _ => pgz_name (i := 3) nd_choices rfl (by first | exact .inl rfl | exact .inr rfl) (by first | exact .inl rfl | exact .inr rfl)) (fun _ _ _ _ _ => ptz_nil) (fun _ _ _ _ _ => piz_seq (pz_var (i := 2) rfl (by first | exact .inl rfl | exact .inr (.inl rfl) | exact .inr (.inr rfl)) rfl rfl)) (fun _ _ _ _ _ => pgz_name (i := 4) nd_choices rfl (by first | exact .inl rfl | exact .inr rfl) (by first | exact .inl rfl | exact .inr rfl)) (fun _ _ _ _ _ => ptz_nil) (fun _ _ _ _ _ => pz_bin oz_add (pz_var (i := 3) rfl (by first | exact .inl rfl | exact .inr (.inl rfl) | exact .inr (.inr rfl)) rfl rfl) (pz_tup (pz_cons (pz_var (i := 4) rfl (by first | exact .inl rfl | exact .inr (.inl rfl) | exact .inr (.inr rfl)) rfl rfl) (pz_nil) (by rfl)) (nrm_cons (nrm_nil)))) (fun _ => rfl) (fun _ _ => rfl) (tgOk_name) (by decide) (tgOk_name) (by decide) (by decide)) (by rfl) (by first | exact .inl rfl | exact .inr rfl))) (pzs_nil)) (fun _ => rfl)) (pzs_cons (pz_ret (pz_var (i := 1) rfl (by first | exact .inl rfl | exact .inr (.inl rfl) | exact .inr (.inr rfl)) rfl rfl)) (pzs_nil)))
theorem k_choices {cd : Value} {fd : FuncData} {f : Addr} (F : Df K "choices" (top 13) f fd cd) (gm : G.mg "choices" = some (.ref f)) (b : L2.Binds K fd ["lots"] []) : Kn P w K G base "choices" 1 fs_choices :=
  ⟨⟨f, fd, ["lots"], F.ok (k := 0) sc_choices rfl (by decide) (fun A outer s H E hr => b_choices hr) (fun ds out _ h => h), gm, F.kp, b⟩⟩
/-! ### fewest_lays -/
abbrev N_fewest_lays : List Str := ["many"]
theorem nd_fewest_lays : (N_fewest_lays : List Str).Nodup := by decide
theorem sc_fewest_lays : FnScope N_fewest_lays ["many"] (defScope (top 17)) := ⟨rfl, rfl, rfl, by decide +kernel, rfl, by decide +kernel, by decide +kernel⟩
def g_fewest_lays : SS := zSeq (zDrop false (zCall fs_check_number (zCons (zVar 0) (zCons (zC (.int 1)) (zCons (zCallB gLen (zCons (zC DC_FEWEST_LAYS) (zNil))) (zNil)))))) (zSeq (zRet false (zBin gIx (zC DC_FEWEST_LAYS) (zBin gSub (zVar 0) (zC (.int 1))))) (zNext))
def fs_fewest_lays : FS := ⟨1, false, zDef (N_fewest_lays).length false g_fewest_lays⟩
theorem rd_fewest_lays {d0 : Dat} {o : Dat × Bool × Dat} (h : Zz.Run false g_fewest_lays [some (.sh d0)] (Is o)) : fs_fewest_lays.run [d0] = some o := run_def rfl h
theorem rq_fewest_lays {d0 : Dat} {Q : Dat × Bool × Dat → Prop} (h : Zz.Run false g_fewest_lays [some (.sh d0)] Q) : ∃ o, fs_fewest_lays.run [d0] = some o ∧ Q o := run_defQ rfl h
theorem b_fewest_lays (m_len : G.mg "len" = none) (D_FEWEST_LAYS : CnD K G "FEWEST_LAYS" DC_FEWEST_LAYS) (K_check_number : Kn P w K G base "check_number" 2 fs_check_number) {cd : Value} {f : Addr} {A : Around} {outer : List Env} {s : Shared} {H : Hp} {E : XK} (hr : Room 2 (A.deeper (envOfC "fewest_lays" (defScope (top 17)) s.heap.objs.size f cd))) :
    PSs (cxOf CX0 P w K G.mg base N_fewest_lays "fewest_lays" (defScope (top 17)) f cd A outer s H E).nox (defBody (top 17)) (tSv K G false g_fewest_lays) := by
  unfold g_fewest_lays
  exact pzs_cons (pz_expr (pz_callK K_check_number rfl (hr.mono (by decide)) (by rfl) (pz_cons (pz_var (i := 0) rfl (by first | exact .inl rfl | exact .inr (.inl rfl) | exact .inr (.inr rfl)) rfl rfl) (pz_cons (pz_const_int) (pz_cons (pz_callB' (by rfl) m_len rfl cz_len (by decide) rfl (pz_cons (pz_cn (by rfl) rfl D_FEWEST_LAYS rfl) (pz_nil) (by rfl)) (by rfl) (by rfl)) (pz_nil) (by rfl)) (by rfl)) (by rfl)) (nrm_cons (nrm_cons (nrm_cons (nrm_nil)))) rfl (by rfl) (by rfl)) (by rfl)) (pzs_cons (pz_ret (pz_ix (pz_cn (by rfl) rfl D_FEWEST_LAYS rfl) (pz_bin oz_sub (pz_var (i := 0) rfl (by first | exact .inl rfl | exact .inr (.inl rfl) | exact .inr (.inr rfl)) rfl rfl) (pz_const_int)) (fun _ _ => rfl))) (pzs_nil))
theorem k_fewest_lays (m_len : G.mg "len" = none) (D_FEWEST_LAYS : CnD K G "FEWEST_LAYS" DC_FEWEST_LAYS) (K_check_number : Kn P w K G base "check_number" 2 fs_check_number) {cd : Value} {fd : FuncData} {f : Addr} (F : Df K "fewest_lays" (top 17) f fd cd) (gm : G.mg "fewest_lays" = some (.ref f)) (b : L2.Binds K fd ["many"] []) : Kn P w K G base "fewest_lays" 3 fs_fewest_lays :=
  ⟨⟨f, fd, ["many"], F.ok (k := 2) sc_fewest_lays rfl (by decide) (fun A outer s H E hr => b_fewest_lays m_len D_FEWEST_LAYS K_check_number hr) (fun ds out _ h => h), gm, F.kp, b⟩⟩
/-! ### check_fixed -/
abbrev N_check_fixed : List Str := ["many", "lays"]
theorem nd_check_fixed : (N_check_fixed : List Str).Nodup := by decide
theorem sc_check_fixed : FnScope N_check_fixed ["many", "lays"] (defScope (top 19)) := ⟨rfl, rfl, rfl, by decide +kernel, rfl, by decide +kernel, by decide +kernel⟩
def g_check_fixed : SS := zSeq (zDrop false (zCall fs_check_number (zCons (zVar 0) (zCons (zC (.int 1)) (zCons (zC (.int 6)) (zNil)))))) (zSeq (zDrop false (zCall fs_check_lays (zCons (zVar 1) (zCons (zVar 0) (zNil))))) (zNext))
def fs_check_fixed : FS := ⟨2, false, zDef (N_check_fixed).length false g_check_fixed⟩
theorem rd_check_fixed {d0 d1 : Dat} {o : Dat × Bool × Dat} (h : Zz.Run false g_check_fixed [some (.sh d0), some (.sh d1)] (Is o)) : fs_check_fixed.run [d0, d1] = some o := run_def rfl h
theorem rq_check_fixed {d0 d1 : Dat} {Q : Dat × Bool × Dat → Prop} (h : Zz.Run false g_check_fixed [some (.sh d0), some (.sh d1)] Q) : ∃ o, fs_check_fixed.run [d0, d1] = some o ∧ Q o := run_defQ rfl h
theorem b_check_fixed {t_MOST_PEOPLE : Tok} (c_MOST_PEOPLE : G.mg "MOST_PEOPLE" = some (.int 6 t_MOST_PEOPLE)) (K_check_lays : Kn P w K G base "check_lays" 8 fs_check_lays) (K_check_number : Kn P w K G base "check_number" 2 fs_check_number) {cd : Value} {f : Addr} {A : Around} {outer : List Env} {s : Shared} {H : Hp} {E : XK} (hr : Room 8 (A.deeper (envOfC "check_fixed" (defScope (top 19)) s.heap.objs.size f cd))) :
    PSs (cxOf CX0 P w K G.mg base N_check_fixed "check_fixed" (defScope (top 19)) f cd A outer s H E).nox (defBody (top 19)) (tSv K G false g_check_fixed) := by
  unfold g_check_fixed
  exact pzs_cons (pz_expr (pz_callK K_check_number rfl (hr.mono (by decide)) (by rfl) (pz_cons (pz_var (i := 0) rfl (by first | exact .inl rfl | exact .inr (.inl rfl) | exact .inr (.inr rfl)) rfl rfl) (pz_cons (pz_const_int) (pz_cons (pz_gv (v := .int 6) (by rfl) c_MOST_PEOPLE ⟨_, rfl⟩ (fun _ _ => rfl) rfl) (pz_nil) (by rfl)) (by rfl)) (by rfl)) (nrm_cons (nrm_cons (nrm_cons (nrm_nil)))) rfl (by rfl) (by rfl)) (by rfl)) (pzs_cons (pz_expr (pz_callK K_check_lays rfl (hr.mono (by decide)) (by rfl) (pz_cons (pz_var (i := 1) rfl (by first | exact .inl rfl | exact .inr (.inl rfl) | exact .inr (.inr rfl)) rfl rfl) (pz_cons (pz_var (i := 0) rfl (by first | exact .inl rfl | exact .inr (.inl rfl) | exact .inr (.inr rfl)) rfl rfl) (pz_nil) (by rfl)) (by rfl)) (nrm_cons (nrm_cons (nrm_nil))) rfl (by rfl) (by rfl)) (by rfl)) (pzs_nil))
theorem k_check_fixed {t_MOST_PEOPLE : Tok} (c_MOST_PEOPLE : G.mg "MOST_PEOPLE" = some (.int 6 t_MOST_PEOPLE)) (K_check_lays : Kn P w K G base "check_lays" 8 fs_check_lays) (K_check_number : Kn P w K G base "check_number" 2 fs_check_number) {cd : Value} {fd : FuncData} {f : Addr} (F : Df K "check_fixed" (top 19) f fd cd) (gm : G.mg "check_fixed" = some (.ref f)) (b : L2.Binds K fd ["many", "lays"] []) : Kn P w K G base "check_fixed" 9 fs_check_fixed :=
  ⟨⟨f, fd, ["many", "lays"], F.ok (k := 8) sc_check_fixed rfl (by decide) (fun A outer s H E hr => b_check_fixed c_MOST_PEOPLE K_check_lays K_check_number hr) (fun ds out _ h => h), gm, F.kp, b⟩⟩
/-! ### all_heaps -/
abbrev N_all_heaps : List Str := ["many"]
theorem nd_all_heaps : (N_all_heaps : List Str).Nodup := by decide
theorem sc_all_heaps : FnScope N_all_heaps ["many"] (defScope (top 20)) := ⟨rfl, rfl, rfl, by decide +kernel, rfl, by decide +kernel, by decide +kernel⟩
def g_all_heaps : SS := zSeq (zRet false (zCall fs_choices (zCons (zBin gMulX (zLst (zCons (zTup (zCons (zC (.int 0)) (zCons (zC (.int 1)) (zNil)))) (zNil))) (zVar 0)) (zNil)))) (zNext)
def fs_all_heaps : FS := ⟨1, false, zDef (N_all_heaps).length false g_all_heaps⟩
theorem rd_all_heaps {d0 : Dat} {o : Dat × Bool × Dat} (h : Zz.Run false g_all_heaps [some (.sh d0)] (Is o)) : fs_all_heaps.run [d0] = some o := run_def rfl h
theorem rq_all_heaps {d0 : Dat} {Q : Dat × Bool × Dat → Prop} (h : Zz.Run false g_all_heaps [some (.sh d0)] Q) : ∃ o, fs_all_heaps.run [d0] = some o ∧ Q o := run_defQ rfl h
theorem b_all_heaps (K_choices : Kn P w K G base "choices" 1 fs_choices) {cd : Value} {f : Addr} {A : Around} {outer : List Env} {s : Shared} {H : Hp} {E : XK} (hr : Room 1 (A.deeper (envOfC "all_heaps" (defScope (top 20)) s.heap.objs.size f cd))) :
    PSs (cxOf CX0 P w K G.mg base N_all_heaps "all_heaps" (defScope (top 20)) f cd A outer s H E).nox (defBody (top 20)) (tSv K G false g_all_heaps) := by
  unfold g_all_heaps
  exact pzs_cons (pz_ret (pz_callK K_choices rfl (hr.mono (by decide)) (by rfl) (pz_cons (pz_bin oz_mulX (pz_lst (pz_cons (pz_tup (pz_cons (pz_const_int) (pz_cons (pz_const_int) (pz_nil) (by rfl)) (by rfl)) (nrm_cons (nrm_cons (nrm_nil)))) (pz_nil) (by rfl)) (nrm_cons (nrm_nil))) (pz_var (i := 0) rfl (by first | exact .inl rfl | exact .inr (.inl rfl) | exact .inr (.inr rfl)) rfl rfl)) (pz_nil) (by rfl)) (nrm_cons (nrm_nil)) rfl (by rfl) (by rfl))) (pzs_nil)
theorem k_all_heaps (K_choices : Kn P w K G base "choices" 1 fs_choices) {cd : Value} {fd : FuncData} {f : Addr} (F : Df K "all_heaps" (top 20) f fd cd) (gm : G.mg "all_heaps" = some (.ref f)) (b : L2.Binds K fd ["many"] []) : Kn P w K G base "all_heaps" 2 fs_all_heaps :=
  ⟨⟨f, fd, ["many"], F.ok (k := 1) sc_all_heaps rfl (by decide) (fun A outer s H E hr => b_all_heaps K_choices hr) (fun ds out _ h => h), gm, F.kp, b⟩⟩
/-! ### brought -/
abbrev N_brought : List Str := ["heaps", "lays", "now", "one", "other"]
theorem nd_brought : (N_brought : List Str).Nodup := by decide
theorem sc_brought : FnScope N_brought ["heaps", "lays"] (defScope (top 21)) := ⟨rfl, rfl, rfl, by decide +kernel, rfl, by decide +kernel, by decide +kernel⟩
def g_brought : SS := zSeq (zSet false 2 (zCallB gList (zCons (zVar 0) (zNil)))) (zSeq (zFor false (zIt (zVar 1)) (gT [gN false 3, gN false 4]) (zSeq (zAsg false (zTup (zCons (zCallB gMax2 (zCons (zBin gIx (zVar 2) (zVar 3)) (zCons (zBin gIx (zVar 2) (zVar 4)) (zNil)))) (zCons (zCallB gMin2 (zCons (zBin gIx (zVar 2) (zVar 3)) (zCons (zBin gIx (zVar 2) (zVar 4)) (zNil)))) (zNil)))) (gT [gSubL false 2 (zVar 3), gSubL false 2 (zVar 4)])) (zNext))) (zSeq (zRet false (zCallB gTuple (zCons (zVar 2) (zNil)))) (zNext)))
def fs_brought : FS := ⟨2, false, zDef (N_brought).length false g_brought⟩
theorem rd_brought {d0 d1 : Dat} {o : Dat × Bool × Dat} (h : Zz.Run false g_brought [some (.sh d0), some (.sh d1), none, none, none] (Is o)) : fs_brought.run [d0, d1] = some o := run_def rfl h
theorem rq_brought {d0 d1 : Dat} {Q : Dat × Bool × Dat → Prop} (h : Zz.Run false g_brought [some (.sh d0), some (.sh d1), none, none, none] Q) : ∃ o, fs_brought.run [d0, d1] = some o ∧ Q o := run_defQ rfl h
theorem b_brought (m_list : G.mg "list" = none) (m_max : G.mg "max" = none) (m_min : G.mg "min" = none) (m_tuple : G.mg "tuple" = none) {cd : Value} {f : Addr} {A : Around} {outer : List Env} {s : Shared} {H : Hp} {E : XK} (hr : Room 0 (A.deeper (envOfC "brought" (defScope (top 21)) s.heap.objs.size f cd))) :
    PSs (cxOf CX0 P w K G.mg base N_brought "brought" (defScope (top 21)) f cd A outer s H E).nox (defBody (top 21)) (tSv K G false g_brought) := by
  unfold g_brought
  exact pzs_cons (pz_set (i := 2) nd_brought rfl (by first | exact .inl rfl | exact .inr rfl) (pz_callTy' (by rfl) m_list rfl cz_list (by decide) rfl (pz_cons (pz_var (i := 0) rfl (by first | exact .inl rfl | exact .inr (.inl rfl) | exact .inr (.inr rfl)) rfl rfl) (pz_nil) (by rfl)) (by rfl) (by rfl)) (by rfl) (by first | exact .inl rfl | exact .inr rfl)) (pzs_cons (pz_for PassesOwn.never rfl (piz_seq (pz_var (i := 1) rfl (by first | exact .inl rfl | exact .inr (.inl rfl) | exact .inr (.inr rfl)) rfl rfl)) (pgz_tup rfl (pgsz_cons (pgz_name (i := 3) nd_brought rfl (by first | exact .inl rfl | exact .inr rfl) (by first | exact .inl rfl | exact .inr rfl)) (pgsz_cons (pgz_name (i := 4) nd_brought rfl (by first | exact .inl rfl | exact .inr rfl) (by first | exact .inl rfl | exact .inr rfl)) (pgsz_nil) (by rfl)) (by rfl)) rfl (by rfl) (by rfl)) (pzs_cons (pz_asg (pz_tup (pz_cons (pz_callB' (by rfl) m_max rfl (cz_max2 rfl) (by decide) rfl (pz_cons (pz_ix (pz_var (i := 2) rfl (by first | exact .inl rfl | exact .inr (.inl rfl) | exact .inr (.inr rfl)) rfl rfl) (pz_var (i := 3) rfl (by first | exact .inl rfl | exact .inr (.inl rfl) | exact .inr (.inr rfl)) rfl rfl) (fun _ _ => rfl)) (pz_cons (pz_ix (pz_var (i := 2) rfl (by first | exact .inl rfl | exact .inr (.inl rfl) | exact .inr (.inr rfl)) rfl rfl) (pz_var (i := 4) rfl (by first | exact .inl rfl | exact .inr (.inl rfl) | exact .inr (.inr rfl)) rfl rfl) (fun _ _ => rfl)) (pz_nil) (by rfl)) (by rfl)) (by rfl) (by rfl)) (pz_cons (pz_callB' (by rfl) m_min rfl (cz_min2 rfl) (by decide) rfl (pz_cons (pz_ix (pz_var (i := 2) rfl (by first | exact .inl rfl | exact .inr (.inl rfl) | exact .inr (.inr rfl)) rfl rfl) (pz_var (i := 3) rfl (by first | exact .inl rfl | exact .inr (.inl rfl) | exact .inr (.inr rfl)) rfl rfl) (fun _ _ => rfl)) (pz_cons (pz_ix (pz_var (i := 2) rfl (by first | exact .inl rfl | exact .inr (.inl rfl) | exact .inr (.inr rfl)) rfl rfl) (pz_var (i := 4) rfl (by first | exact .inl rfl | exact .inr (.inl rfl) | exact .inr (.inr rfl)) rfl rfl) (fun _ _ => rfl)) (pz_nil) (by rfl)) (by rfl)) (by rfl) (by rfl)) (pz_nil) (by rfl)) (by rfl)) (nrm_cons (nrm_cons (nrm_nil)))) (pgh_tup rfl (pgsh_cons (pgz_sub (pz_var (i := 2) rfl (by first | exact .inl rfl | exact .inr (.inl rfl) | exact .inr (.inr rfl)) rfl rfl) (pz_var (i := 3) rfl (by first | exact .inl rfl | exact .inr (.inl rfl) | exact .inr (.inr rfl)) rfl rfl) (fun _ => rfl)) (pgsh_cons (pgz_sub (pz_var (i := 2) rfl (by first | exact .inl rfl | exact .inr (.inl rfl) | exact .inr (.inr rfl)) rfl rfl) (pz_var (i := 4) rfl (by first | exact .inl rfl | exact .inr (.inl rfl) | exact .inr (.inr rfl)) rfl rfl) (fun _ => rfl)) (pgsh_nil) (by rfl)) (by rfl)) rfl (by rfl) (by rfl)) (by rfl) (by rfl) (by rfl)) (pzs_nil)) (fun _ => rfl)) (pzs_cons (pz_ret (pz_callTy' (by rfl) m_tuple rfl cz_tuple (by decide) rfl (pz_cons (pz_var (i := 2) rfl (by first | exact .inl rfl | exact .inr (.inl rfl) | exact .inr (.inr rfl)) rfl rfl) (pz_nil) (by rfl)) (by rfl) (by rfl))) (pzs_nil)))
theorem k_brought (m_list : G.mg "list" = none) (m_max : G.mg "max" = none) (m_min : G.mg "min" = none) (m_tuple : G.mg "tuple" = none) {cd : Value} {fd : FuncData} {f : Addr} (F : Df K "brought" (top 21) f fd cd) (gm : G.mg "brought" = some (.ref f)) (b : L2.Binds K fd ["heaps", "lays"] []) : Kn P w K G base "brought" 1 fs_brought :=
  ⟨⟨f, fd, ["heaps", "lays"], F.ok (k := 0) sc_brought rfl (by decide) (fun A outer s H E hr => b_brought m_list m_max m_min m_tuple hr) (fun ds out _ h => h), gm, F.kp, b⟩⟩
/-! ### not_brought -/
abbrev N_not_brought : List Str := ["many", "lays", "heaps"]
theorem nd_not_brought : (N_not_brought : List Str).Nodup := by decide
theorem sc_not_brought : FnScope N_not_brought ["many", "lays"] (defScope (top 22)) := ⟨rfl, rfl, rfl, by decide +kernel, rfl, by decide +kernel, by decide +kernel⟩
def g_not_brought : SS := zSeq (zRet false (zLc (zIt (zCall fs_all_heaps (zCons (zVar 0) (zNil)))) (gN false 2) (zTB (zBin gNe (zCall fs_brought (zCons (zVar 2) (zCons (zVar 1) (zNil)))) (zCallB gTuple (zCons (zCallB (gSorted true) (zCons (zVar 2) (zNil))) (zNil))))) (zVar 2) [2])) (zNext)
def fs_not_brought : FS := ⟨2, false, zDef (N_not_brought).length false g_not_brought⟩
theorem rd_not_brought {d0 d1 : Dat} {o : Dat × Bool × Dat} (h : Zz.Run false g_not_brought [some (.sh d0), some (.sh d1), none] (Is o)) : fs_not_brought.run [d0, d1] = some o := run_def rfl h
theorem rq_not_brought {d0 d1 : Dat} {Q : Dat × Bool × Dat → Prop} (h : Zz.Run false g_not_brought [some (.sh d0), some (.sh d1), none] Q) : ∃ o, fs_not_brought.run [d0, d1] = some o ∧ Q o := run_defQ rfl h
theorem b_not_brought (m_sorted : G.mg "sorted" = none) (m_tuple : G.mg "tuple" = none) (K_all_heaps : Kn P w K G base "all_heaps" 2 fs_all_heaps) (K_brought : Kn P w K G base "brought" 1 fs_brought) {cd : Value} {f : Addr} {A : Around} {outer : List Env} {s : Shared} {H : Hp} {E : XK} (hr : Room 2 (A.deeper (envOfC "not_brought" (defScope (top 22)) s.heap.objs.size f cd))) :
    PSs (cxOf CX0 P w K G.mg base N_not_brought "not_brought" (defScope (top 22)) f cd A outer s H E).nox (defBody (top 22)) (tSv K G false g_not_brought) := by
  unfold g_not_brought
  exact pzs_cons (pz_ret (pz_lc (own := [("heaps", 2)]) rfl nd_not_brought (piz_seq (pz_callK K_all_heaps rfl (hr.mono (by decide)) (by rfl) (pz_cons (pz_var (i := 0) rfl (by first | exact .inl rfl | exact .inr (.inl rfl) | exact .inr (.inr rfl)) rfl rfl) (pz_nil) (by rfl)) (nrm_cons (nrm_nil)) rfl (by rfl) (by rfl))) (blkB_ok (by rfl)) (fun _ _ _ _ _ => pgz_name (i := 2) nd_not_brought rfl (by first | exact .inl rfl | exact .inr rfl) (by first | exact .inl rfl | exact .inr rfl)) (fun _ _ _ _ _ => ptz_one (pz_tcmp (oz_ne hr.units) (pz_callK K_brought rfl (hr.mono (by decide)) (by rfl) (pz_cons (pz_var (i := 2) rfl (by first | exact .inl rfl | exact .inr (.inl rfl) | exact .inr (.inr rfl)) rfl rfl) (pz_cons (pz_var (i := 1) rfl (by first | exact .inl rfl | exact .inr (.inl rfl) | exact .inr (.inr rfl)) rfl rfl) (pz_nil) (by rfl)) (by rfl)) (nrm_cons (nrm_cons (nrm_nil))) rfl (by rfl) (by rfl)) (pz_callTy' (by rfl) m_tuple rfl cz_tuple (by decide) rfl (pz_cons (pz_sortedR hr.units (by rfl) m_sorted rfl (pz_cons (pz_var (i := 2) rfl (by first | exact .inl rfl | exact .inr (.inl rfl) | exact .inr (.inr rfl)) rfl rfl) (pz_nil) (by rfl)) (by rfl) (by rfl) (by rfl) (by rfl) (by rfl)) (pz_nil) (by rfl)) (by rfl) (by rfl)) (by rfl))) (fun _ _ _ _ _ => pz_var (i := 2) rfl (by first | exact .inl rfl | exact .inr (.inl rfl) | exact .inr (.inr rfl)) rfl rfl) (fun _ => rfl) (tgOk_name) (by decide))) (pzs_nil)
theorem k_not_brought (m_sorted : G.mg "sorted" = none) (m_tuple : G.mg "tuple" = none) (K_all_heaps : Kn P w K G base "all_heaps" 2 fs_all_heaps) (K_brought : Kn P w K G base "brought" 1 fs_brought) {cd : Value} {fd : FuncData} {f : Addr} (F : Df K "not_brought" (top 22) f fd cd) (gm : G.mg "not_brought" = some (.ref f)) (b : L2.Binds K fd ["many", "lays"] []) : Kn P w K G base "not_brought" 3 fs_not_brought :=
  ⟨⟨f, fd, ["many", "lays"], F.ok (k := 2) sc_not_brought rfl (by decide) (fun A outer s H E hr => b_not_brought m_sorted m_tuple K_all_heaps K_brought hr) (fun ds out _ h => h), gm, F.kp, b⟩⟩
/-! ### _law_taken -/
abbrev N__law_taken : List Str := ["row", "many", "cell", "found"]
theorem nd__law_taken : (N__law_taken : List Str).Nodup := by decide
theorem sc__law_taken : FnScope N__law_taken ["row", "many"] (defScope (top 24)) := ⟨rfl, rfl, rfl, by decide +kernel, rfl, by decide +kernel, by decide +kernel⟩
def g__law_taken : SS := zSeq (zIfS true (zTB (zBin gGt (zBin gIx (zVar 0) (zC (.int 3))) (zC (.int 0)))) (zSeq (zSet true 3 (zBin gMod (zCallB gInt (zCons (zBin gIx (zVar 0) (zC (.int 3))) (zNil))) (zVar 1))) (zSeq (zAsg true (zBin gDiv (zBin gIx (zVar 0) (zC (.int 3))) (zVar 1)) (gSubL true 0 (zC (.int 3)))) (zSeq (zRet true (zVar 3)) (zNext)))) (zNext)) (zSeq (zAsg true (zBin gAdd (zBin gIx (zVar 0) (zC (.int 1))) (zC (.int 1))) (gSubL true 0 (zC (.int 1)))) (zSeq (zIfS true (zTB (zBin gGt (zBin gIx (zVar 0) (zC (.int 1))) (zCallB gLen (zCons (zBin gIx (zVar 0) (zC (.int 0))) (zNil))))) (zSeq (zAsg true (zBin gMod (zCallB gInt (zCons (zBin gAdd (zBin gMulX (zBin gIx (zVar 0) (zC (.int 2))) (zC (.int 48271))) (zC (.int 11))) (zNil))) (zC (.int 2147483647))) (gSubL true 0 (zC (.int 2)))) (zSeq (zRet true (zBin gMod (zCallB gInt (zCons (zBin gDiv (zBin gIx (zVar 0) (zC (.int 2))) (zC (.int 7))) (zNil))) (zVar 1))) (zNext))) (zNext)) (zSeq (zSet true 2 (zBin gIx (zBin gIx (zVar 0) (zC (.int 0))) (zBin gSub (zBin gIx (zVar 0) (zC (.int 1))) (zC (.int 1))))) (zSeq (zAsg true (zBin gMod (zCallB gInt (zCons (zBin gAdd (zBin gAdd (zBin gMulX (zBin gIx (zVar 0) (zC (.int 2))) (zC (.int 48271))) (zVar 2)) (zC (.int 11))) (zNil))) (zC (.int 2147483647))) (gSubL true 0 (zC (.int 2)))) (zSeq (zIfS true (zTB (zBin gGe (zVar 2) (zBin gPow (zC (.int 10)) (zC (.int 18))))) (zSeq (zAsg true (zBin gDiv (zVar 2) (zVar 1)) (gSubL true 0 (zC (.int 3)))) (zNext)) (zNext)) (zSeq (zRet true (zBin gMod (zCallB gInt (zCons (zVar 2) (zNil))) (zVar 1))) (zNext)))))))
def fs__law_taken : FS := ⟨2, true, zDef (N__law_taken).length true g__law_taken⟩
theorem rd__law_taken {d0 d1 : Dat} {o : Dat × Bool × Dat} (h : Zz.Run true g__law_taken [some (.ow d0), some (.sh d1), none, none] (Is o)) : fs__law_taken.run [d0, d1] = some o := run_def rfl h
theorem rq__law_taken {d0 d1 : Dat} {Q : Dat × Bool × Dat → Prop} (h : Zz.Run true g__law_taken [some (.ow d0), some (.sh d1), none, none] Q) : ∃ o, fs__law_taken.run [d0, d1] = some o ∧ Q o := run_defQ rfl h
theorem b__law_taken (m_int : G.mg "int" = none) (m_len : G.mg "len" = none) {cd : Value} {f : Addr} {A : Around} {outer : List Env} {s : Shared} {H : Hp} {E : XK} (hr : Room 0 (A.deeper (envOfC "_law_taken" (defScope (top 24)) s.heap.objs.size f cd))) :
    PSs (cxOf CX0 P w K G.mg base N__law_taken "_law_taken" (defScope (top 24)) f cd A outer s H E).nox (defBody (top 24)) (tSv K G true g__law_taken) := by
  unfold g__law_taken
  exact pzs_cons (pz_ifS (pz_tcmp (oz_gt) (pz_ix (pz_var (i := 0) rfl (by first | exact .inl rfl | exact .inr (.inl rfl) | exact .inr (.inr rfl)) rfl rfl) (pz_const_int) (fun _ _ => rfl)) (pz_const_int) (by rfl)) (pzs_cons (pz_set (i := 3) nd__law_taken rfl (by first | exact .inl rfl | exact .inr rfl) (pz_bin oz_mod (pz_callTy' (by rfl) m_int rfl cz_int (by decide) rfl (pz_cons (pz_ix (pz_var (i := 0) rfl (by first | exact .inl rfl | exact .inr (.inl rfl) | exact .inr (.inr rfl)) rfl rfl) (pz_const_int) (fun _ _ => rfl)) (pz_nil) (by rfl)) (by rfl) (by rfl)) (pz_var (i := 1) rfl (by first | exact .inl rfl | exact .inr (.inl rfl) | exact .inr (.inr rfl)) rfl rfl)) (by rfl) (by first | exact .inl rfl | exact .inr rfl)) (pzs_cons (pz_asg (pz_bin oz_div (pz_ix (pz_var (i := 0) rfl (by first | exact .inl rfl | exact .inr (.inl rfl) | exact .inr (.inr rfl)) rfl rfl) (pz_const_int) (fun _ _ => rfl)) (pz_var (i := 1) rfl (by first | exact .inl rfl | exact .inr (.inl rfl) | exact .inr (.inr rfl)) rfl rfl)) (pgz_sub (pz_var (i := 0) rfl (by first | exact .inl rfl | exact .inr (.inl rfl) | exact .inr (.inr rfl)) rfl rfl) (pz_const_int) (fun _ => rfl)) (by rfl) (by rfl) (by rfl)) (pzs_cons (pz_ret (pz_var (i := 3) rfl (by first | exact .inl rfl | exact .inr (.inl rfl) | exact .inr (.inr rfl)) rfl rfl)) (pzs_nil)))) (pzs_nil)) (pzs_cons (pz_asg (pz_bin oz_add (pz_ix (pz_var (i := 0) rfl (by first | exact .inl rfl | exact .inr (.inl rfl) | exact .inr (.inr rfl)) rfl rfl) (pz_const_int) (fun _ _ => rfl)) (pz_const_int)) (pgz_sub (pz_var (i := 0) rfl (by first | exact .inl rfl | exact .inr (.inl rfl) | exact .inr (.inr rfl)) rfl rfl) (pz_const_int) (fun _ => rfl)) (by rfl) (by rfl) (by rfl)) (pzs_cons (pz_ifS (pz_tcmp (oz_gt) (pz_ix (pz_var (i := 0) rfl (by first | exact .inl rfl | exact .inr (.inl rfl) | exact .inr (.inr rfl)) rfl rfl) (pz_const_int) (fun _ _ => rfl)) (pz_callB' (by rfl) m_len rfl cz_len (by decide) rfl (pz_cons (pz_ix (pz_var (i := 0) rfl (by first | exact .inl rfl | exact .inr (.inl rfl) | exact .inr (.inr rfl)) rfl rfl) (pz_const_int) (fun _ _ => rfl)) (pz_nil) (by rfl)) (by rfl) (by rfl)) (by rfl)) (pzs_cons (pz_asg (pz_bin oz_mod (pz_callTy' (by rfl) m_int rfl cz_int (by decide) rfl (pz_cons (pz_bin oz_add (pz_bin oz_mulX (pz_ix (pz_var (i := 0) rfl (by first | exact .inl rfl | exact .inr (.inl rfl) | exact .inr (.inr rfl)) rfl rfl) (pz_const_int) (fun _ _ => rfl)) (pz_const_int)) (pz_const_int)) (pz_nil) (by rfl)) (by rfl) (by rfl)) (pz_const_int)) (pgz_sub (pz_var (i := 0) rfl (by first | exact .inl rfl | exact .inr (.inl rfl) | exact .inr (.inr rfl)) rfl rfl) (pz_const_int) (fun _ => rfl)) (by rfl) (by rfl) (by rfl)) (pzs_cons (pz_ret (pz_bin oz_mod (pz_callTy' (by rfl) m_int rfl cz_int (by decide) rfl (pz_cons (pz_bin oz_div (pz_ix (pz_var (i := 0) rfl (by first | exact .inl rfl | exact .inr (.inl rfl) | exact .inr (.inr rfl)) rfl rfl) (pz_const_int) (fun _ _ => rfl)) (pz_const_int)) (pz_nil) (by rfl)) (by rfl) (by rfl)) (pz_var (i := 1) rfl (by first | exact .inl rfl | exact .inr (.inl rfl) | exact .inr (.inr rfl)) rfl rfl))) (pzs_nil))) (pzs_nil)) (pzs_cons (pz_set (i := 2) nd__law_taken rfl (by first | exact .inl rfl | exact .inr rfl) (pz_ix (pz_ix (pz_var (i := 0) rfl (by first | exact .inl rfl | exact .inr (.inl rfl) | exact .inr (.inr rfl)) rfl rfl) (pz_const_int) (fun _ _ => rfl)) (pz_bin oz_sub (pz_ix (pz_var (i := 0) rfl (by first | exact .inl rfl | exact .inr (.inl rfl) | exact .inr (.inr rfl)) rfl rfl) (pz_const_int) (fun _ _ => rfl)) (pz_const_int)) (fun _ _ => rfl)) (by rfl) (by first | exact .inl rfl | exact .inr rfl)) (pzs_cons (pz_asg (pz_bin oz_mod (pz_callTy' (by rfl) m_int rfl cz_int (by decide) rfl (pz_cons (pz_bin oz_add (pz_bin oz_add (pz_bin oz_mulX (pz_ix (pz_var (i := 0) rfl (by first | exact .inl rfl | exact .inr (.inl rfl) | exact .inr (.inr rfl)) rfl rfl) (pz_const_int) (fun _ _ => rfl)) (pz_const_int)) (pz_var (i := 2) rfl (by first | exact .inl rfl | exact .inr (.inl rfl) | exact .inr (.inr rfl)) rfl rfl)) (pz_const_int)) (pz_nil) (by rfl)) (by rfl) (by rfl)) (pz_const_int)) (pgz_sub (pz_var (i := 0) rfl (by first | exact .inl rfl | exact .inr (.inl rfl) | exact .inr (.inr rfl)) rfl rfl) (pz_const_int) (fun _ => rfl)) (by rfl) (by rfl) (by rfl)) (pzs_cons (pz_ifS (pz_tcmp (oz_ge) (pz_var (i := 2) rfl (by first | exact .inl rfl | exact .inr (.inl rfl) | exact .inr (.inr rfl)) rfl rfl) (pz_bin oz_pow (pz_const_int) (pz_const_int)) (by rfl)) (pzs_cons (pz_asg (pz_bin oz_div (pz_var (i := 2) rfl (by first | exact .inl rfl | exact .inr (.inl rfl) | exact .inr (.inr rfl)) rfl rfl) (pz_var (i := 1) rfl (by first | exact .inl rfl | exact .inr (.inl rfl) | exact .inr (.inr rfl)) rfl rfl)) (pgz_sub (pz_var (i := 0) rfl (by first | exact .inl rfl | exact .inr (.inl rfl) | exact .inr (.inr rfl)) rfl rfl) (pz_const_int) (fun _ => rfl)) (by rfl) (by rfl) (by rfl)) (pzs_nil)) (pzs_nil)) (pzs_cons (pz_ret (pz_bin oz_mod (pz_callTy' (by rfl) m_int rfl cz_int (by decide) rfl (pz_cons (pz_var (i := 2) rfl (by first | exact .inl rfl | exact .inr (.inl rfl) | exact .inr (.inr rfl)) rfl rfl) (pz_nil) (by rfl)) (by rfl) (by rfl)) (pz_var (i := 1) rfl (by first | exact .inl rfl | exact .inr (.inl rfl) | exact .inr (.inr rfl)) rfl rfl))) (pzs_nil)))))))
theorem k__law_taken (m_int : G.mg "int" = none) (m_len : G.mg "len" = none) {cd : Value} {fd : FuncData} {f : Addr} (F : Df K "_law_taken" (top 24) f fd cd) (gm : G.mg "_law_taken" = some (.ref f)) (b : L2.Binds K fd ["row", "many"] []) : Kn P w K G base "_law_taken" 1 fs__law_taken :=
  ⟨⟨f, fd, ["row", "many"], F.ok (k := 0) sc__law_taken rfl (by decide) (fun A outer s H E hr => b__law_taken m_int m_len hr) (fun ds out _ h => h), gm, F.kp, b⟩⟩
/-! ### _law_pick -/
abbrev N__law_pick : List Str := ["row", "things"]
theorem nd__law_pick : (N__law_pick : List Str).Nodup := by decide
theorem sc__law_pick : FnScope N__law_pick ["row", "things"] (defScope (top 25)) := ⟨rfl, rfl, rfl, by decide +kernel, rfl, by decide +kernel, by decide +kernel⟩
def g__law_pick : SS := zSeq (zRet true (zBin gIx (zVar 1) (zCall fs__law_taken (zCons (zVar 0) (zCons (zCallB gLen (zCons (zVar 1) (zNil))) (zNil)))))) (zNext)
def fs__law_pick : FS := ⟨2, true, zDef (N__law_pick).length true g__law_pick⟩
theorem rd__law_pick {d0 d1 : Dat} {o : Dat × Bool × Dat} (h : Zz.Run true g__law_pick [some (.ow d0), some (.sh d1)] (Is o)) : fs__law_pick.run [d0, d1] = some o := run_def rfl h
theorem rq__law_pick {d0 d1 : Dat} {Q : Dat × Bool × Dat → Prop} (h : Zz.Run true g__law_pick [some (.ow d0), some (.sh d1)] Q) : ∃ o, fs__law_pick.run [d0, d1] = some o ∧ Q o := run_defQ rfl h
theorem b__law_pick (m_len : G.mg "len" = none) (K__law_taken : Kn P w K G base "_law_taken" 1 fs__law_taken) {cd : Value} {f : Addr} {A : Around} {outer : List Env} {s : Shared} {H : Hp} {E : XK} (hr : Room 1 (A.deeper (envOfC "_law_pick" (defScope (top 25)) s.heap.objs.size f cd))) :
    PSs (cxOf CX0 P w K G.mg base N__law_pick "_law_pick" (defScope (top 25)) f cd A outer s H E).nox (defBody (top 25)) (tSv K G true g__law_pick) := by
  unfold g__law_pick
  exact pzs_cons (pz_ret (pz_ix (pz_var (i := 1) rfl (by first | exact .inl rfl | exact .inr (.inl rfl) | exact .inr (.inr rfl)) rfl rfl) (pz_callK K__law_taken rfl (hr.mono (by decide)) (by rfl) (pz_cons (pz_var (i := 0) rfl (by first | exact .inl rfl | exact .inr (.inl rfl) | exact .inr (.inr rfl)) rfl rfl) (pz_cons (pz_callB' (by rfl) m_len rfl cz_len (by decide) rfl (pz_cons (pz_var (i := 1) rfl (by first | exact .inl rfl | exact .inr (.inl rfl) | exact .inr (.inr rfl)) rfl rfl) (pz_nil) (by rfl)) (by rfl) (by rfl)) (pz_nil) (by rfl)) (by rfl)) (nrm_cons (nrm_cons (nrm_nil))) rfl (by rfl) (by rfl)) (fun _ _ => rfl))) (pzs_nil)
theorem k__law_pick (m_len : G.mg "len" = none) (K__law_taken : Kn P w K G base "_law_taken" 1 fs__law_taken) {cd : Value} {fd : FuncData} {f : Addr} (F : Df K "_law_pick" (top 25) f fd cd) (gm : G.mg "_law_pick" = some (.ref f)) (b : L2.Binds K fd ["row", "things"] []) : Kn P w K G base "_law_pick" 2 fs__law_pick :=
  ⟨⟨f, fd, ["row", "things"], F.ok (k := 1) sc__law_pick rfl (by decide) (fun A outer s H E hr => b__law_pick m_len K__law_taken hr) (fun ds out _ h => h), gm, F.kp, b⟩⟩
/-! ### _law_order -/
abbrev N__law_order : List Str := ["row", "many", "turn", "left", "found"]
theorem nd__law_order : (N__law_order : List Str).Nodup := by decide
theorem sc__law_order : FnScope N__law_order ["row", "many"] (defScope (top 26)) := ⟨rfl, rfl, rfl, by decide +kernel, rfl, by decide +kernel, by decide +kernel⟩
def g__law_order : SS := zSeq (zPar true 3 4 (zListRng (zVar 1)) (zLst (zNil))) (zSeq (zFor true (zRng (zCons (zVar 1) (zNil))) (gN true 2) (zSeq (zDrop true (zApp 4 (zPopI 3 (zCall fs__law_taken (zCons (zVar 0) (zCons (zCallB gLen (zCons (zVar 3) (zNil))) (zNil))))))) (zNext))) (zSeq (zRet true (zCallB gTuple (zCons (zVar 4) (zNil)))) (zNext)))
def fs__law_order : FS := ⟨2, true, zDef (N__law_order).length true g__law_order⟩
theorem rd__law_order {d0 d1 : Dat} {o : Dat × Bool × Dat} (h : Zz.Run true g__law_order [some (.ow d0), some (.sh d1), none, none, none] (Is o)) : fs__law_order.run [d0, d1] = some o := run_def rfl h
theorem rq__law_order {d0 d1 : Dat} {Q : Dat × Bool × Dat → Prop} (h : Zz.Run true g__law_order [some (.ow d0), some (.sh d1), none, none, none] Q) : ∃ o, fs__law_order.run [d0, d1] = some o ∧ Q o := run_defQ rfl h
theorem b__law_order (m_len : G.mg "len" = none) (m_list : G.mg "list" = none) (m_range : G.mg "range" = none) (m_tuple : G.mg "tuple" = none) (K__law_taken : Kn P w K G base "_law_taken" 1 fs__law_taken) {cd : Value} {f : Addr} {A : Around} {outer : List Env} {s : Shared} {H : Hp} {E : XK} (hr : Room 1 (A.deeper (envOfC "_law_order" (defScope (top 26)) s.heap.objs.size f cd))) :
    PSs (cxOf CX0 P w K G.mg base N__law_order "_law_order" (defScope (top 26)) f cd A outer s H E).nox (defBody (top 26)) (tSv K G true g__law_order) := by
  unfold g__law_order
  exact pzs_cons ((by first | exact pz_par (i := 3) (j := 4) rfl nd__law_order rfl rfl (by decide) rfl rfl (pz_listRng rfl (by rfl) m_list (by rfl) m_range (pz_var (i := 1) rfl (by first | exact .inl rfl | exact .inr (.inl rfl) | exact .inr (.inr rfl)) rfl rfl) (by rfl) (by rfl)) (pz_lst (pz_nil) (nrm_nil)) (by rfl) (by rfl) (by rfl) (by rfl) | exact pz_parC (i := 3) (j := 4) rfl nd__law_order rfl rfl (by decide) (by first | exact .inl rfl | exact .inr rfl) (by first | exact .inl rfl | exact .inr rfl) (by first | exact .inl rfl | exact .inr rfl) (by first | exact .inl rfl | exact .inr rfl) (pz_listRng rfl (by rfl) m_list (by rfl) m_range (pz_var (i := 1) rfl (by first | exact .inl rfl | exact .inr (.inl rfl) | exact .inr (.inr rfl)) rfl rfl) (by rfl) (by rfl)) (pz_lst (pz_nil) (nrm_nil)) (by rfl) (by rfl) (by rfl) (by rfl))) (pzs_cons (pz_for PassesOwn.never rfl (piz_rng1 (by rfl) m_range (pz_cons (pz_var (i := 1) rfl (by first | exact .inl rfl | exact .inr (.inl rfl) | exact .inr (.inr rfl)) rfl rfl) (pz_nil) (by rfl)) (by rfl) zl1) (pgz_name (i := 2) nd__law_order rfl (by first | exact .inl rfl | exact .inr rfl) (by first | exact .inl rfl | exact .inr rfl)) (pzs_cons (pz_expr (pz_app (pz_var (i := 4) rfl (by first | exact .inl rfl | exact .inr (.inl rfl) | exact .inr (.inr rfl)) rfl rfl) (pz_popI (pz_var (i := 3) rfl (by first | exact .inl rfl | exact .inr (.inl rfl) | exact .inr (.inr rfl)) rfl rfl) (pz_callK K__law_taken rfl (hr.mono (by decide)) (by rfl) (pz_cons (pz_var (i := 0) rfl (by first | exact .inl rfl | exact .inr (.inl rfl) | exact .inr (.inr rfl)) rfl rfl) (pz_cons (pz_callB' (by rfl) m_len rfl cz_len (by decide) rfl (pz_cons (pz_var (i := 3) rfl (by first | exact .inl rfl | exact .inr (.inl rfl) | exact .inr (.inr rfl)) rfl rfl) (pz_nil) (by rfl)) (by rfl) (by rfl)) (pz_nil) (by rfl)) (by rfl)) (nrm_cons (nrm_cons (nrm_nil))) rfl (by rfl) (by rfl)) (by rfl) (by rfl) (by rfl) (by rfl) (by rfl)) (by rfl) (by rfl) (by rfl) (by rfl) (by rfl)) (by rfl)) (pzs_nil)) (fun _ => rfl)) (pzs_cons (pz_ret (pz_callTy' (by rfl) m_tuple rfl cz_tuple (by decide) rfl (pz_cons (pz_var (i := 4) rfl (by first | exact .inl rfl | exact .inr (.inl rfl) | exact .inr (.inr rfl)) rfl rfl) (pz_nil) (by rfl)) (by rfl) (by rfl))) (pzs_nil)))
theorem k__law_order (m_len : G.mg "len" = none) (m_list : G.mg "list" = none) (m_range : G.mg "range" = none) (m_tuple : G.mg "tuple" = none) (K__law_taken : Kn P w K G base "_law_taken" 1 fs__law_taken) {cd : Value} {fd : FuncData} {f : Addr} (F : Df K "_law_order" (top 26) f fd cd) (gm : G.mg "_law_order" = some (.ref f)) (b : L2.Binds K fd ["row", "many"] []) : Kn P w K G base "_law_order" 2 fs__law_order :=
  ⟨⟨f, fd, ["row", "many"], F.ok (k := 1) sc__law_order rfl (by decide) (fun A outer s H E hr => b__law_order m_len m_list m_range m_tuple K__law_taken hr) (fun ds out _ h => h), gm, F.kp, b⟩⟩
/-! ### _law_carried -/
abbrev N__law_carried : List Str := ["column", "lays", "found", "one", "other"]
theorem nd__law_carried : (N__law_carried : List Str).Nodup := by decide
theorem sc__law_carried : FnScope N__law_carried ["column", "lays"] (defScope (top 27)) := ⟨rfl, rfl, rfl, by decide +kernel, rfl, by decide +kernel, by decide +kernel⟩
def g__law_carried : SS := zSeq (zSet false 2 (zCallB gList (zCons (zVar 0) (zNil)))) (zSeq (zFor false (zIt (zVar 1)) (gT [gN false 3, gN false 4]) (zSeq (zAsg false (zTup (zCons (zCallB gMax2 (zCons (zBin gIx (zVar 2) (zVar 3)) (zCons (zBin gIx (zVar 2) (zVar 4)) (zNil)))) (zCons (zCallB gMin2 (zCons (zBin gIx (zVar 2) (zVar 3)) (zCons (zBin gIx (zVar 2) (zVar 4)) (zNil)))) (zNil)))) (gT [gSubL false 2 (zVar 3), gSubL false 2 (zVar 4)])) (zNext))) (zSeq (zRet false (zCallB gTuple (zCons (zVar 2) (zNil)))) (zNext)))
def fs__law_carried : FS := ⟨2, false, zDef (N__law_carried).length false g__law_carried⟩
theorem rd__law_carried {d0 d1 : Dat} {o : Dat × Bool × Dat} (h : Zz.Run false g__law_carried [some (.sh d0), some (.sh d1), none, none, none] (Is o)) : fs__law_carried.run [d0, d1] = some o := run_def rfl h
theorem rq__law_carried {d0 d1 : Dat} {Q : Dat × Bool × Dat → Prop} (h : Zz.Run false g__law_carried [some (.sh d0), some (.sh d1), none, none, none] Q) : ∃ o, fs__law_carried.run [d0, d1] = some o ∧ Q o := run_defQ rfl h
theorem b__law_carried (m_list : G.mg "list" = none) (m_max : G.mg "max" = none) (m_min : G.mg "min" = none) (m_tuple : G.mg "tuple" = none) {cd : Value} {f : Addr} {A : Around} {outer : List Env} {s : Shared} {H : Hp} {E : XK} (hr : Room 0 (A.deeper (envOfC "_law_carried" (defScope (top 27)) s.heap.objs.size f cd))) :
    PSs (cxOf CX0 P w K G.mg base N__law_carried "_law_carried" (defScope (top 27)) f cd A outer s H E).nox (defBody (top 27)) (tSv K G false g__law_carried) := by
  unfold g__law_carried
  exact pzs_cons (pz_set (i := 2) nd__law_carried rfl (by first | exact .inl rfl | exact .inr rfl) (pz_callTy' (by rfl) m_list rfl cz_list (by decide) rfl (pz_cons (pz_var (i := 0) rfl (by first | exact .inl rfl | exact .inr (.inl rfl) | exact .inr (.inr rfl)) rfl rfl) (pz_nil) (by rfl)) (by rfl) (by rfl)) (by rfl) (by first | exact .inl rfl | exact .inr rfl)) (pzs_cons (pz_for PassesOwn.never rfl (piz_seq (pz_var (i := 1) rfl (by first | exact .inl rfl | exact .inr (.inl rfl) | exact .inr (.inr rfl)) rfl rfl)) (pgz_tup rfl (pgsz_cons (pgz_name (i := 3) nd__law_carried rfl (by first | exact .inl rfl | exact .inr rfl) (by first | exact .inl rfl | exact .inr rfl)) (pgsz_cons (pgz_name (i := 4) nd__law_carried rfl (by first | exact .inl rfl | exact .inr rfl) (by first | exact .inl rfl | exact .inr rfl)) (pgsz_nil) (by rfl)) (by rfl)) rfl (by rfl) (by rfl)) (pzs_cons (pz_asg (pz_tup (pz_cons (pz_callB' (by rfl) m_max rfl (cz_max2 rfl) (by decide) rfl (pz_cons (pz_ix (pz_var (i := 2) rfl (by first | exact .inl rfl | exact .inr (.inl rfl) | exact .inr (.inr rfl)) rfl rfl) (pz_var (i := 3) rfl (by first | exact .inl rfl | exact .inr (.inl rfl) | exact .inr (.inr rfl)) rfl rfl) (fun _ _ => rfl)) (pz_cons (pz_ix (pz_var (i := 2) rfl (by first | exact .inl rfl | exact .inr (.inl rfl) | exact .inr (.inr rfl)) rfl rfl) (pz_var (i := 4) rfl (by first | exact .inl rfl | exact .inr (.inl rfl) | exact .inr (.inr rfl)) rfl rfl) (fun _ _ => rfl)) (pz_nil) (by rfl)) (by rfl)) (by rfl) (by rfl)) (pz_cons (pz_callB' (by rfl) m_min rfl (cz_min2 rfl) (by decide) rfl (pz_cons (pz_ix (pz_var (i := 2) rfl (by first | exact .inl rfl | exact .inr (.inl rfl) | exact .inr (.inr rfl)) rfl rfl) (pz_var (i := 3) rfl (by first | exact .inl rfl | exact .inr (.inl rfl) | exact .inr (.inr rfl)) rfl rfl) (fun _ _ => rfl)) (pz_cons (pz_ix (pz_var (i := 2) rfl (by first | exact .inl rfl | exact .inr (.inl rfl) | exact .inr (.inr rfl)) rfl rfl) (pz_var (i := 4) rfl (by first | exact .inl rfl | exact .inr (.inl rfl) | exact .inr (.inr rfl)) rfl rfl) (fun _ _ => rfl)) (pz_nil) (by rfl)) (by rfl)) (by rfl) (by rfl)) (pz_nil) (by rfl)) (by rfl)) (nrm_cons (nrm_cons (nrm_nil)))) (pgh_tup rfl (pgsh_cons (pgz_sub (pz_var (i := 2) rfl (by first | exact .inl rfl | exact .inr (.inl rfl) | exact .inr (.inr rfl)) rfl rfl) (pz_var (i := 3) rfl (by first | exact .inl rfl | exact .inr (.inl rfl) | exact .inr (.inr rfl)) rfl rfl) (fun _ => rfl)) (pgsh_cons (pgz_sub (pz_var (i := 2) rfl (by first | exact .inl rfl | exact .inr (.inl rfl) | exact .inr (.inr rfl)) rfl rfl) (pz_var (i := 4) rfl (by first | exact .inl rfl | exact .inr (.inl rfl) | exact .inr (.inr rfl)) rfl rfl) (fun _ => rfl)) (pgsh_nil) (by rfl)) (by rfl)) rfl (by rfl) (by rfl)) (by rfl) (by rfl) (by rfl)) (pzs_nil)) (fun _ => rfl)) (pzs_cons (pz_ret (pz_callTy' (by rfl) m_tuple rfl cz_tuple (by decide) rfl (pz_cons (pz_var (i := 2) rfl (by first | exact .inl rfl | exact .inr (.inl rfl) | exact .inr (.inr rfl)) rfl rfl) (pz_nil) (by rfl)) (by rfl) (by rfl))) (pzs_nil)))
theorem k__law_carried (m_list : G.mg "list" = none) (m_max : G.mg "max" = none) (m_min : G.mg "min" = none) (m_tuple : G.mg "tuple" = none) {cd : Value} {fd : FuncData} {f : Addr} (F : Df K "_law_carried" (top 27) f fd cd) (gm : G.mg "_law_carried" = some (.ref f)) (b : L2.Binds K fd ["column", "lays"] []) : Kn P w K G base "_law_carried" 1 fs__law_carried :=
  ⟨⟨f, fd, ["column", "lays"], F.ok (k := 0) sc__law_carried rfl (by decide) (fun A outer s H E hr => b__law_carried m_list m_max m_min m_tuple hr) (fun ds out _ h => h), gm, F.kp, b⟩⟩
/-! ### _law_columns -/
abbrev N__law_columns : List Str := ["many", "rows", "turn", "longer", "told"]
theorem nd__law_columns : (N__law_columns : List Str).Nodup := by decide
theorem sc__law_columns : FnScope N__law_columns ["many"] (defScope (top 28)) := ⟨rfl, rfl, rfl, by decide +kernel, rfl, by decide +kernel, by decide +kernel⟩
def g__law_columns : SS := zSeq (zSet false 1 (zLst (zCons (zTup (zNil)) (zNil)))) (zSeq (zFor false (zRng (zCons (zVar 0) (zNil))) (gN false 2) (zSeq (zSet false 3 (zLst (zNil))) (zSeq (zFor false (zIt (zVar 1)) (gN false 4) (zSeq (zSet false 3 (zBin gAdd (zVar 3) (zLst (zCons (zBin gAdd (zVar 4) (zTup (zCons (zC (.int 0)) (zNil)))) (zCons (zBin gAdd (zVar 4) (zTup (zCons (zC (.int 1)) (zNil)))) (zNil)))))) (zNext))) (zSeq (zSet false 1 (zVar 3)) (zNext))))) (zSeq (zRet false (zVar 1)) (zNext)))
def fs__law_columns : FS := ⟨1, false, zDef (N__law_columns).length false g__law_columns⟩
theorem rd__law_columns {d0 : Dat} {o : Dat × Bool × Dat} (h : Zz.Run false g__law_columns [some (.sh d0), none, none, none, none] (Is o)) : fs__law_columns.run [d0] = some o := run_def rfl h
theorem rq__law_columns {d0 : Dat} {Q : Dat × Bool × Dat → Prop} (h : Zz.Run false g__law_columns [some (.sh d0), none, none, none, none] Q) : ∃ o, fs__law_columns.run [d0] = some o ∧ Q o := run_defQ rfl h
theorem b__law_columns (m_range : G.mg "range" = none) {cd : Value} {f : Addr} {A : Around} {outer : List Env} {s : Shared} {H : Hp} {E : XK} (hr : Room 0 (A.deeper (envOfC "_law_columns" (defScope (top 28)) s.heap.objs.size f cd))) :
    PSs (cxOf CX0 P w K G.mg base N__law_columns "_law_columns" (defScope (top 28)) f cd A outer s H E).nox (defBody (top 28)) (tSv K G false g__law_columns) := by
  unfold g__law_columns
  exact pzs_cons (pz_set (i := 1) nd__law_columns rfl (by first | exact .inl rfl | exact .inr rfl) (pz_lst (pz_cons (pz_tup (pz_nil) (nrm_nil)) (pz_nil) (by rfl)) (nrm_cons (nrm_nil))) (by rfl) (by first | exact .inl rfl | exact .inr rfl)) (pzs_cons (pz_for PassesOwn.never rfl (piz_rng1 (by rfl) m_range (pz_cons (pz_var (i := 0) rfl (by first | exact .inl rfl | exact .inr (.inl rfl) | exact .inr (.inr rfl)) rfl rfl) (pz_nil) (by rfl)) (by rfl) zl1) (pgz_name (i := 2) nd__law_columns rfl (by first | exact .inl rfl | exact .inr rfl) (by first | exact .inl rfl | exact .inr rfl)) (pzs_cons (pz_set (i := 3) nd__law_columns rfl (by first | exact .inl rfl | exact .inr rfl) (pz_lst (pz_nil) (nrm_nil)) (by rfl) (by first | exact .inl rfl | exact .inr rfl)) (pzs_cons (pz_for PassesOwn.never rfl (piz_seq (pz_var (i := 1) rfl (by first | exact .inl rfl | exact .inr (.inl rfl) | exact .inr (.inr rfl)) rfl rfl)) (pgz_name (i := 4) nd__law_columns rfl (by first | exact .inl rfl | exact .inr rfl) (by first | exact .inl rfl | exact .inr rfl)) (pzs_cons (pz_set (i := 3) nd__law_columns rfl (by first | exact .inl rfl | exact .inr rfl) (pz_bin oz_add (pz_var (i := 3) rfl (by first | exact .inl rfl | exact .inr (.inl rfl) | exact .inr (.inr rfl)) rfl rfl) (pz_lst (pz_cons (pz_bin oz_add (pz_var (i := 4) rfl (by first | exact .inl rfl | exact .inr (.inl rfl) | exact .inr (.inr rfl)) rfl rfl) (pz_tup (pz_cons (pz_const_int) (pz_nil) (by rfl)) (nrm_cons (nrm_nil)))) (pz_cons (pz_bin oz_add (pz_var (i := 4) rfl (by first | exact .inl rfl | exact .inr (.inl rfl) | exact .inr (.inr rfl)) rfl rfl) (pz_tup (pz_cons (pz_const_int) (pz_nil) (by rfl)) (nrm_cons (nrm_nil)))) (pz_nil) (by rfl)) (by rfl)) (nrm_cons (nrm_cons (nrm_nil))))) (by rfl) (by first | exact .inl rfl | exact .inr rfl)) (pzs_nil)) (fun _ => rfl)) (pzs_cons (pz_set (i := 1) nd__law_columns rfl (by first | exact .inl rfl | exact .inr rfl) (pz_var (i := 3) rfl (by first | exact .inl rfl | exact .inr (.inl rfl) | exact .inr (.inr rfl)) rfl rfl) (by rfl) (by first | exact .inl rfl | exact .inr rfl)) (pzs_nil)))) (fun _ => rfl)) (pzs_cons (pz_ret (pz_var (i := 1) rfl (by first | exact .inl rfl | exact .inr (.inl rfl) | exact .inr (.inr rfl)) rfl rfl)) (pzs_nil)))
theorem k__law_columns (m_range : G.mg "range" = none) {cd : Value} {fd : FuncData} {f : Addr} (F : Df K "_law_columns" (top 28) f fd cd) (gm : G.mg "_law_columns" = some (.ref f)) (b : L2.Binds K fd ["many"] []) : Kn P w K G base "_law_columns" 1 fs__law_columns :=
  ⟨⟨f, fd, ["many"], F.ok (k := 0) sc__law_columns rfl (by decide) (fun A outer s H E hr => b__law_columns m_range hr) (fun ds out _ h => h), gm, F.kp, b⟩⟩
/-! ### _law_alike -/
abbrev N__law_alike : List Str := ["found", "due", "k"]
theorem nd__law_alike : (N__law_alike : List Str).Nodup := by decide
theorem sc__law_alike : FnScope N__law_alike ["found", "due"] (defScope (top 29)) := ⟨rfl, rfl, rfl, by decide +kernel, rfl, by decide +kernel, by decide +kernel⟩
def g__law_alike (rc : FS) : SS := zSeq (zIfS false (zTru (zCallB gIsiX (zCons (zVar 1) (zCons (zTup (zCons (zC (.ty "tuple")) (zCons (zC (.ty "list")) (zNil)))) (zNil))))) (zSeq (zIfS false (zTOr (zTNot (zTru (zCallB gIsiX (zCons (zVar 0) (zCons (zTup (zCons (zC (.ty "tuple")) (zCons (zC (.ty "list")) (zNil)))) (zNil)))))) (zTB (zBin gNe (zCallB gIsiX (zCons (zVar 0) (zCons (zC (.ty "list")) (zNil)))) (zCallB gIsiX (zCons (zVar 1) (zCons (zC (.ty "list")) (zNil))))))) (zSeq (zRet false (zC (.bl false))) (zNext)) (zNext)) (zSeq (zIfS false (zTB (zBin gNe (zCallB gLen (zCons (zVar 0) (zNil))) (zCallB gLen (zCons (zVar 1) (zNil))))) (zSeq (zRet false (zC (.bl false))) (zNext)) (zNext)) (zSeq (zRet false (zBin gEq (zLc (zRng (zCons (zCallB gLen (zCons (zVar 1) (zNil))) (zNil))) (gN false 2) (zTNot (zTru (zCall rc (zCons (zBin gIx (zVar 0) (zVar 2)) (zCons (zBin gIx (zVar 1) (zVar 2)) (zNil)))))) (zVar 2) [2]) (zLst (zNil)))) (zNext)))) (zNext)) (zSeq (zIfS false (zTOr (zTB (zBin gIs (zVar 1) (zC .non))) (zTru (zCallB gIsiX (zCons (zVar 1) (zCons (zC (.ty "str")) (zNil)))))) (zSeq (zRet false (zAndV (zBin gEq (zVar 0) (zVar 1)) (zBin gEq (zCallB gIsiX (zCons (zVar 0) (zCons (zC (.ty "str")) (zNil)))) (zCallB gIsiX (zCons (zVar 1) (zCons (zC (.ty "str")) (zNil))))))) (zNext)) (zNext)) (zSeq (zRet false (zAndV (zCallB gIsiX (zCons (zVar 0) (zCons (zC (.ty "int")) (zNil)))) (zAndV (zBin gEq (zCallB gIsiX (zCons (zVar 0) (zCons (zC (.ty "bool")) (zNil)))) (zCallB gIsiX (zCons (zVar 1) (zCons (zC (.ty "bool")) (zNil))))) (zBin gEq (zVar 0) (zVar 1))))) (zNext)))
def fr__law_alike : Nat → FS
  | 0 => ⟨2, false, fun _ => none⟩
  | n + 1 => ⟨2, false, zDef (N__law_alike).length false (g__law_alike (fr__law_alike n))⟩
abbrev fs__law_alike : FS := fr__law_alike 4
theorem rd__law_alike {n : Nat} {d0 d1 : Dat} {o : Dat × Bool × Dat} (h : Zz.Run false (g__law_alike (fr__law_alike n)) [some (.sh d0), some (.sh d1), none] (Is o)) : (fr__law_alike (n + 1)).run [d0, d1] = some o := run_def rfl h
theorem rq__law_alike {n : Nat} {d0 d1 : Dat} {Q : Dat × Bool × Dat → Prop} (h : Zz.Run false (g__law_alike (fr__law_alike n)) [some (.sh d0), some (.sh d1), none] Q) : ∃ o, (fr__law_alike (n + 1)).run [d0, d1] = some o ∧ Q o := run_defQ rfl h
theorem b__law_alike (m_bool : G.mg "bool" = none) (m_int : G.mg "int" = none) (m_isinstance : G.mg "isinstance" = none) (m_len : G.mg "len" = none) (m_list : G.mg "list" = none) (m_range : G.mg "range" = none) (m_str : G.mg "str" = none) (m_tuple : G.mg "tuple" = none) {cd : Value} {rL : Nat} (hrl : 0 ≤ rL) {rk : Nat} {rc : FS} (K__law_alike : Kn P w K G base "_law_alike" rk rc) (hrk : rk ≤ rL) {f : Addr} {A : Around} {outer : List Env} {s : Shared} {H : Hp} {E : XK} (hr : Room rL (A.deeper (envOfC "_law_alike" (defScope (top 29)) s.heap.objs.size f cd))) :
    PSs (cxOf CX0 P w K G.mg base N__law_alike "_law_alike" (defScope (top 29)) f cd A outer s H E).nox (defBody (top 29)) (tSv K G false (g__law_alike rc)) := by
  unfold g__law_alike
  exact pzs_cons (pz_ifS (pz_tru (pz_callB' (by rfl) m_isinstance rfl cz_isiX (by decide) rfl (pz_cons (pz_var (i := 1) rfl (by first | exact .inl rfl | exact .inr (.inl rfl) | exact .inr (.inr rfl)) rfl rfl) (pz_cons (pz_tup (pz_cons (pz_bv (by rfl) m_tuple rfl (by decide) rfl) (pz_cons (pz_bv (by rfl) m_list rfl (by decide) rfl) (pz_nil) (by rfl)) (by rfl)) (nrm_cons (nrm_cons (nrm_nil)))) (pz_nil) (by rfl)) (by rfl)) (by rfl) (by rfl)) (fun _ => rfl)) (pzs_cons (pz_ifS (PW.pt (pz_orc (pz_tnot (pz_tru (pz_callB' (by rfl) m_isinstance rfl cz_isiX (by decide) rfl (pz_cons (pz_var (i := 0) rfl (by first | exact .inl rfl | exact .inr (.inl rfl) | exact .inr (.inr rfl)) rfl rfl) (pz_cons (pz_tup (pz_cons (pz_bv (by rfl) m_tuple rfl (by decide) rfl) (pz_cons (pz_bv (by rfl) m_list rfl (by decide) rfl) (pz_nil) (by rfl)) (by rfl)) (nrm_cons (nrm_cons (nrm_nil)))) (pz_nil) (by rfl)) (by rfl)) (by rfl) (by rfl)) (fun _ => rfl))) (pz_or1 (pz_tcmp (oz_ne hr.units) (pz_callB' (by rfl) m_isinstance rfl cz_isiX (by decide) rfl (pz_cons (pz_var (i := 0) rfl (by first | exact .inl rfl | exact .inr (.inl rfl) | exact .inr (.inr rfl)) rfl rfl) (pz_cons (pz_bv (by rfl) m_list rfl (by decide) rfl) (pz_nil) (by rfl)) (by rfl)) (by rfl) (by rfl)) (pz_callB' (by rfl) m_isinstance rfl cz_isiX (by decide) rfl (pz_cons (pz_var (i := 1) rfl (by first | exact .inl rfl | exact .inr (.inl rfl) | exact .inr (.inr rfl)) rfl rfl) (pz_cons (pz_bv (by rfl) m_list rfl (by decide) rfl) (pz_nil) (by rfl)) (by rfl)) (by rfl) (by rfl)) (by rfl))))) (pzs_cons (pz_ret (pz_const_bl)) (pzs_nil)) (pzs_nil)) (pzs_cons (pz_ifS (pz_tcmp (oz_ne hr.units) (pz_callB' (by rfl) m_len rfl cz_len (by decide) rfl (pz_cons (pz_var (i := 0) rfl (by first | exact .inl rfl | exact .inr (.inl rfl) | exact .inr (.inr rfl)) rfl rfl) (pz_nil) (by rfl)) (by rfl) (by rfl)) (pz_callB' (by rfl) m_len rfl cz_len (by decide) rfl (pz_cons (pz_var (i := 1) rfl (by first | exact .inl rfl | exact .inr (.inl rfl) | exact .inr (.inr rfl)) rfl rfl) (pz_nil) (by rfl)) (by rfl) (by rfl)) (by rfl)) (pzs_cons (pz_ret (pz_const_bl)) (pzs_nil)) (pzs_nil)) (pzs_cons (pz_ret (pz_cmp (oz_eq hr.units) (by rfl) (pz_lc (own := [("k", 2)]) rfl nd__law_alike (piz_rng1 (by rfl) m_range (pz_cons (pz_callB' (by rfl) m_len rfl cz_len (by decide) rfl (pz_cons (pz_var (i := 1) rfl (by first | exact .inl rfl | exact .inr (.inl rfl) | exact .inr (.inr rfl)) rfl rfl) (pz_nil) (by rfl)) (by rfl) (by rfl)) (pz_nil) (by rfl)) (by rfl) zl1) (blkB_ok (by rfl)) (fun _ _ _ _ _ => pgz_name (i := 2) nd__law_alike rfl (by first | exact .inl rfl | exact .inr rfl) (by first | exact .inl rfl | exact .inr rfl)) (fun _ _ _ _ _ => ptz_one (pz_tnot (pz_tru (pz_callK K__law_alike rfl (hr.mono hrk) (by rfl) (pz_cons (pz_ix (pz_var (i := 0) rfl (by first | exact .inl rfl | exact .inr (.inl rfl) | exact .inr (.inr rfl)) rfl rfl) (pz_var (i := 2) rfl (by first | exact .inl rfl | exact .inr (.inl rfl) | exact .inr (.inr rfl)) rfl rfl) (fun _ _ => rfl)) (pz_cons (pz_ix (pz_var (i := 1) rfl (by first | exact .inl rfl | exact .inr (.inl rfl) | exact .inr (.inr rfl)) rfl rfl) (pz_var (i := 2) rfl (by first | exact .inl rfl | exact .inr (.inl rfl) | exact .inr (.inr rfl)) rfl rfl) (fun _ _ => rfl)) (pz_nil) (by rfl)) (by rfl)) (nrm_cons (nrm_cons (nrm_nil))) rfl (by rfl) (by rfl)) (fun _ => rfl)))) (fun _ _ _ _ _ => pz_var (i := 2) rfl (by first | exact .inl rfl | exact .inr (.inl rfl) | exact .inr (.inr rfl)) rfl rfl) (fun _ => rfl) (tgOk_name) (by decide)) (pz_lst (pz_nil) (nrm_nil)))) (pzs_nil)))) (pzs_nil)) (pzs_cons (pz_ifS (PW.pt (pz_orc (pz_tcmp (oz_is) (pz_var (i := 1) rfl (by first | exact .inl rfl | exact .inr (.inl rfl) | exact .inr (.inr rfl)) rfl rfl) (pz_const_non) (by rfl)) (pz_or1 (pz_tru (pz_callB' (by rfl) m_isinstance rfl cz_isiX (by decide) rfl (pz_cons (pz_var (i := 1) rfl (by first | exact .inl rfl | exact .inr (.inl rfl) | exact .inr (.inr rfl)) rfl rfl) (pz_cons (pz_bv (by rfl) m_str rfl (by decide) rfl) (pz_nil) (by rfl)) (by rfl)) (by rfl) (by rfl)) (fun _ => rfl))))) (pzs_cons (pz_ret (pz_andV (pz_cmp (oz_eq hr.units) (by rfl) (pz_var (i := 0) rfl (by first | exact .inl rfl | exact .inr (.inl rfl) | exact .inr (.inr rfl)) rfl rfl) (pz_var (i := 1) rfl (by first | exact .inl rfl | exact .inr (.inl rfl) | exact .inr (.inr rfl)) rfl rfl)) (pz_one (pz_cmp (oz_eq hr.units) (by rfl) (pz_callB' (by rfl) m_isinstance rfl cz_isiX (by decide) rfl (pz_cons (pz_var (i := 0) rfl (by first | exact .inl rfl | exact .inr (.inl rfl) | exact .inr (.inr rfl)) rfl rfl) (pz_cons (pz_bv (by rfl) m_str rfl (by decide) rfl) (pz_nil) (by rfl)) (by rfl)) (by rfl) (by rfl)) (pz_callB' (by rfl) m_isinstance rfl cz_isiX (by decide) rfl (pz_cons (pz_var (i := 1) rfl (by first | exact .inl rfl | exact .inr (.inl rfl) | exact .inr (.inr rfl)) rfl rfl) (pz_cons (pz_bv (by rfl) m_str rfl (by decide) rfl) (pz_nil) (by rfl)) (by rfl)) (by rfl) (by rfl)))))) (pzs_nil)) (pzs_nil)) (pzs_cons (pz_ret (pz_andV (pz_callB' (by rfl) m_isinstance rfl cz_isiX (by decide) rfl (pz_cons (pz_var (i := 0) rfl (by first | exact .inl rfl | exact .inr (.inl rfl) | exact .inr (.inr rfl)) rfl rfl) (pz_cons (pz_bv (by rfl) m_int rfl (by decide) rfl) (pz_nil) (by rfl)) (by rfl)) (by rfl) (by rfl)) (pz_andV (pz_cmp (oz_eq hr.units) (by rfl) (pz_callB' (by rfl) m_isinstance rfl cz_isiX (by decide) rfl (pz_cons (pz_var (i := 0) rfl (by first | exact .inl rfl | exact .inr (.inl rfl) | exact .inr (.inr rfl)) rfl rfl) (pz_cons (pz_bv (by rfl) m_bool rfl (by decide) rfl) (pz_nil) (by rfl)) (by rfl)) (by rfl) (by rfl)) (pz_callB' (by rfl) m_isinstance rfl cz_isiX (by decide) rfl (pz_cons (pz_var (i := 1) rfl (by first | exact .inl rfl | exact .inr (.inl rfl) | exact .inr (.inr rfl)) rfl rfl) (pz_cons (pz_bv (by rfl) m_bool rfl (by decide) rfl) (pz_nil) (by rfl)) (by rfl)) (by rfl) (by rfl))) (pz_one (pz_cmp (oz_eq hr.units) (by rfl) (pz_var (i := 0) rfl (by first | exact .inl rfl | exact .inr (.inl rfl) | exact .inr (.inr rfl)) rfl rfl) (pz_var (i := 1) rfl (by first | exact .inl rfl | exact .inr (.inl rfl) | exact .inr (.inr rfl)) rfl rfl)))))) (pzs_nil)))
theorem k__law_alike (m_bool : G.mg "bool" = none) (m_int : G.mg "int" = none) (m_isinstance : G.mg "isinstance" = none) (m_len : G.mg "len" = none) (m_list : G.mg "list" = none) (m_range : G.mg "range" = none) (m_str : G.mg "str" = none) (m_tuple : G.mg "tuple" = none) {cd : Value} {fd : FuncData} {f : Addr} (F : Df K "_law_alike" (top 29) f fd cd) (gm : G.mg "_law_alike" = some (.ref f)) (b : L2.Binds K fd ["found", "due"] []) : ∀ n, Kn P w K G base "_law_alike" (1 + n) (fr__law_alike n)
  | 0 => ⟨⟨f, fd, ["found", "due"], ⟨fun vs H Q E h => (fn_len h).trans rfl, fun A outer s H args us vs Q E hr e0 hb r h => by obtain ⟨M, ds, d, fr, l, h1, re, h2, k⟩ := h; cases h2⟩, gm, F.kp, b⟩⟩
  | n + 1 => ⟨⟨f, fd, ["found", "due"], F.ok (k := 1 + n) sc__law_alike rfl (by simp [fr__law_alike]) (fun A outer s H E hr => b__law_alike m_bool m_int m_isinstance m_len m_list m_range m_str m_tuple (by omega) (k__law_alike m_bool m_int m_isinstance m_len m_list m_range m_str m_tuple F gm b n) (Nat.le_refl _) hr) (fun ds out _ h => h), gm, F.kp, b⟩⟩
/-! ### brings_all -/
abbrev N_brings_all : List Str := ["many", "lays"]
theorem nd_brings_all : (N_brings_all : List Str).Nodup := by decide
theorem sc_brings_all : FnScope N_brings_all ["many", "lays"] (defScope (top 16)) := ⟨rfl, rfl, rfl, by decide +kernel, rfl, by decide +kernel, by decide +kernel⟩
def g_brings_all : SS := zSeq (zDrop false (zCall fs_check_fixed (zCons (zVar 0) (zCons (zVar 1) (zNil))))) (zSeq (zRet false (zOfT (zTNot (zTru (zCall fs_not_brought (zCons (zVar 0) (zCons (zVar 1) (zNil)))))))) (zNext))
def fs_brings_all : FS := ⟨2, false, zDef (N_brings_all).length false g_brings_all⟩
theorem rd_brings_all {d0 d1 : Dat} {o : Dat × Bool × Dat} (h : Zz.Run false g_brings_all [some (.sh d0), some (.sh d1)] (Is o)) : fs_brings_all.run [d0, d1] = some o := run_def rfl h
theorem rq_brings_all {d0 d1 : Dat} {Q : Dat × Bool × Dat → Prop} (h : Zz.Run false g_brings_all [some (.sh d0), some (.sh d1)] Q) : ∃ o, fs_brings_all.run [d0, d1] = some o ∧ Q o := run_defQ rfl h
theorem b_brings_all (K_check_fixed : Kn P w K G base "check_fixed" 9 fs_check_fixed) (K_not_brought : Kn P w K G base "not_brought" 3 fs_not_brought) {cd : Value} {f : Addr} {A : Around} {outer : List Env} {s : Shared} {H : Hp} {E : XK} (hr : Room 9 (A.deeper (envOfC "brings_all" (defScope (top 16)) s.heap.objs.size f cd))) :
    PSs (cxOf CX0 P w K G.mg base N_brings_all "brings_all" (defScope (top 16)) f cd A outer s H E).nox (defBody (top 16)) (tSv K G false g_brings_all) := by
  unfold g_brings_all
  exact pzs_cons (pz_expr (pz_callK K_check_fixed rfl (hr.mono (by decide)) (by rfl) (pz_cons (pz_var (i := 0) rfl (by first | exact .inl rfl | exact .inr (.inl rfl) | exact .inr (.inr rfl)) rfl rfl) (pz_cons (pz_var (i := 1) rfl (by first | exact .inl rfl | exact .inr (.inl rfl) | exact .inr (.inr rfl)) rfl rfl) (pz_nil) (by rfl)) (by rfl)) (nrm_cons (nrm_cons (nrm_nil))) rfl (by rfl) (by rfl)) (by rfl)) (pzs_cons (pz_ret (pz_notT (pz_callK K_not_brought rfl (hr.mono (by decide)) (by rfl) (pz_cons (pz_var (i := 0) rfl (by first | exact .inl rfl | exact .inr (.inl rfl) | exact .inr (.inr rfl)) rfl rfl) (pz_cons (pz_var (i := 1) rfl (by first | exact .inl rfl | exact .inr (.inl rfl) | exact .inr (.inr rfl)) rfl rfl) (pz_nil) (by rfl)) (by rfl)) (nrm_cons (nrm_cons (nrm_nil))) rfl (by rfl) (by rfl)))) (pzs_nil))
theorem k_brings_all (K_check_fixed : Kn P w K G base "check_fixed" 9 fs_check_fixed) (K_not_brought : Kn P w K G base "not_brought" 3 fs_not_brought) {cd : Value} {fd : FuncData} {f : Addr} (F : Df K "brings_all" (top 16) f fd cd) (gm : G.mg "brings_all" = some (.ref f)) (b : L2.Binds K fd ["many", "lays"] []) : Kn P w K G base "brings_all" 10 fs_brings_all :=
  ⟨⟨f, fd, ["many", "lays"], F.ok (k := 9) sc_brings_all rfl (by decide) (fun A outer s H E hr => b_brings_all K_check_fixed K_not_brought hr) (fun ds out _ h => h), gm, F.kp, b⟩⟩
/-! ### shows_fixed -/
abbrev N_shows_fixed : List Str := ["many", "value"]
theorem nd_shows_fixed : (N_shows_fixed : List Str).Nodup := by decide
theorem sc_shows_fixed : FnScope N_shows_fixed ["many", "value"] (defScope (top 18)) := ⟨rfl, rfl, rfl, by decide +kernel, rfl, by decide +kernel, by decide +kernel⟩
def g_shows_fixed : SS := zSeq (zDrop false (zCall fs_check_number (zCons (zVar 0) (zCons (zC (.int 1)) (zCons (zCallB gLen (zCons (zC DC_FEWEST_LAYS) (zNil))) (zNil)))))) (zSeq (zIfS false (zTOr (zTNot (zTru (zCall fs_is_lays (zCons (zVar 1) (zCons (zVar 0) (zNil)))))) (zTB (zBin gNe (zCallB gLen (zCons (zVar 1) (zNil))) (zCallB gLen (zCons (zBin gIx (zC DC_FEWEST_LAYS) (zBin gSub (zVar 0) (zC (.int 1)))) (zNil)))))) (zSeq (zRet false (zC (.bl false))) (zNext)) (zNext)) (zSeq (zRet false (zOfT (zTNot (zTru (zCall fs_not_brought (zCons (zVar 0) (zCons (zVar 1) (zNil)))))))) (zNext)))
def fs_shows_fixed : FS := ⟨2, false, zDef (N_shows_fixed).length false g_shows_fixed⟩
theorem rd_shows_fixed {d0 d1 : Dat} {o : Dat × Bool × Dat} (h : Zz.Run false g_shows_fixed [some (.sh d0), some (.sh d1)] (Is o)) : fs_shows_fixed.run [d0, d1] = some o := run_def rfl h
theorem rq_shows_fixed {d0 d1 : Dat} {Q : Dat × Bool × Dat → Prop} (h : Zz.Run false g_shows_fixed [some (.sh d0), some (.sh d1)] Q) : ∃ o, fs_shows_fixed.run [d0, d1] = some o ∧ Q o := run_defQ rfl h
theorem b_shows_fixed (m_len : G.mg "len" = none) (D_FEWEST_LAYS : CnD K G "FEWEST_LAYS" DC_FEWEST_LAYS) (K_check_number : Kn P w K G base "check_number" 2 fs_check_number) (K_is_lays : Kn P w K G base "is_lays" 13 fs_is_lays) (K_not_brought : Kn P w K G base "not_brought" 3 fs_not_brought) {cd : Value} {f : Addr} {A : Around} {outer : List Env} {s : Shared} {H : Hp} {E : XK} (hr : Room 13 (A.deeper (envOfC "shows_fixed" (defScope (top 18)) s.heap.objs.size f cd))) :
    PSs (cxOf CX0 P w K G.mg base N_shows_fixed "shows_fixed" (defScope (top 18)) f cd A outer s H E).nox (defBody (top 18)) (tSv K G false g_shows_fixed) := by
  unfold g_shows_fixed
  exact pzs_cons (pz_expr (pz_callK K_check_number rfl (hr.mono (by decide)) (by rfl) (pz_cons (pz_var (i := 0) rfl (by first | exact .inl rfl | exact .inr (.inl rfl) | exact .inr (.inr rfl)) rfl rfl) (pz_cons (pz_const_int) (pz_cons (pz_callB' (by rfl) m_len rfl cz_len (by decide) rfl (pz_cons (pz_cn (by rfl) rfl D_FEWEST_LAYS rfl) (pz_nil) (by rfl)) (by rfl) (by rfl)) (pz_nil) (by rfl)) (by rfl)) (by rfl)) (nrm_cons (nrm_cons (nrm_cons (nrm_nil)))) rfl (by rfl) (by rfl)) (by rfl)) (pzs_cons (pz_ifS (PW.pt (pz_orc (pz_tnot (pz_tru (pz_callK K_is_lays rfl (hr.mono (by decide)) (by rfl) (pz_cons (pz_var (i := 1) rfl (by first | exact .inl rfl | exact .inr (.inl rfl) | exact .inr (.inr rfl)) rfl rfl) (pz_cons (pz_var (i := 0) rfl (by first | exact .inl rfl | exact .inr (.inl rfl) | exact .inr (.inr rfl)) rfl rfl) (pz_nil) (by rfl)) (by rfl)) (nrm_cons (nrm_cons (nrm_nil))) rfl (by rfl) (by rfl)) (fun _ => rfl))) (pz_or1 (pz_tcmp (oz_ne hr.units) (pz_callB' (by rfl) m_len rfl cz_len (by decide) rfl (pz_cons (pz_var (i := 1) rfl (by first | exact .inl rfl | exact .inr (.inl rfl) | exact .inr (.inr rfl)) rfl rfl) (pz_nil) (by rfl)) (by rfl) (by rfl)) (pz_callB' (by rfl) m_len rfl cz_len (by decide) rfl (pz_cons (pz_ix (pz_cn (by rfl) rfl D_FEWEST_LAYS rfl) (pz_bin oz_sub (pz_var (i := 0) rfl (by first | exact .inl rfl | exact .inr (.inl rfl) | exact .inr (.inr rfl)) rfl rfl) (pz_const_int)) (fun _ _ => rfl)) (pz_nil) (by rfl)) (by rfl) (by rfl)) (by rfl))))) (pzs_cons (pz_ret (pz_const_bl)) (pzs_nil)) (pzs_nil)) (pzs_cons (pz_ret (pz_notT (pz_callK K_not_brought rfl (hr.mono (by decide)) (by rfl) (pz_cons (pz_var (i := 0) rfl (by first | exact .inl rfl | exact .inr (.inl rfl) | exact .inr (.inr rfl)) rfl rfl) (pz_cons (pz_var (i := 1) rfl (by first | exact .inl rfl | exact .inr (.inl rfl) | exact .inr (.inr rfl)) rfl rfl) (pz_nil) (by rfl)) (by rfl)) (nrm_cons (nrm_cons (nrm_nil))) rfl (by rfl) (by rfl)))) (pzs_nil)))
theorem k_shows_fixed (m_len : G.mg "len" = none) (D_FEWEST_LAYS : CnD K G "FEWEST_LAYS" DC_FEWEST_LAYS) (K_check_number : Kn P w K G base "check_number" 2 fs_check_number) (K_is_lays : Kn P w K G base "is_lays" 13 fs_is_lays) (K_not_brought : Kn P w K G base "not_brought" 3 fs_not_brought) {cd : Value} {fd : FuncData} {f : Addr} (F : Df K "shows_fixed" (top 18) f fd cd) (gm : G.mg "shows_fixed" = some (.ref f)) (b : L2.Binds K fd ["many", "value"] []) : Kn P w K G base "shows_fixed" 14 fs_shows_fixed :=
  ⟨⟨f, fd, ["many", "value"], F.ok (k := 13) sc_shows_fixed rfl (by decide) (fun A outer s H E hr => b_shows_fixed m_len D_FEWEST_LAYS K_check_number K_is_lays K_not_brought hr) (fun ds out _ h => h), gm, F.kp, b⟩⟩
/-! ### law -/
abbrev N_law : List Str := ["script", "row", "many", "known", "base", "some", "odd", "value", "size", "at", "pair", "good", "told", "ends", "one"]
theorem nd_law : (N_law : List Str).Nodup := by decide
theorem sc_law : FnScope N_law ["script"] (defScope (top 30)) := ⟨rfl, rfl, rfl, by decide +kernel, rfl, by decide +kernel, by decide +kernel⟩
def g_law : SS := zSeq (zSet false 1 (zLst (zCons (zVar 0) (zCons (zC (.int 0)) (zCons (zC (.int 8017)) (zCons (zC (.int 0)) (zNil))))))) (zSeq (zSet false 2 (zBin gAdd (zC (.int 1)) (zCall fs__law_taken (zCons (zVar 1) (zCons (zCall fs__law_pick (zCons (zVar 1) (zCons (zLst (zCons (zC (.int 4)) (zCons (zC (.int 4)) (zCons (zC (.int 4)) (zCons (zC (.int 5)) (zNil)))))) (zNil)))) (zNil)))))) (zSeq (zPar false 4 8 (zCall fs_fewest_lays (zCons (zVar 2) (zNil))) (zBin gIx (zLst (zCons (zC (.int 0)) (zCons (zC (.int 1)) (zCons (zC (.int 3)) (zCons (zC (.int 5)) (zCons (zC (.int 9)) (zNil))))))) (zBin gSub (zVar 2) (zC (.int 1))))) (zSeq (zIfS false (zTOr (zTB (zBin gNe (zCallB gLen (zCons (zVar 4) (zNil))) (zVar 8))) (zTOr (zTB (zBin gIsNot (zCall fs_brings_all (zCons (zVar 2) (zCons (zVar 4) (zNil)))) (zC (.bl true)))) (zTB (zBin gIsNot (zCall fs_shows_fixed (zCons (zVar 2) (zCons (zVar 4) (zNil)))) (zC (.bl true)))))) (zSeq (zRet false (zC (.bl false))) (zNext)) (zNext)) (zSeq (zSet false 3 (zLst (zCons (zTup (zNil)) (zCons (zTup (zCons (zTup (zCons (zC (.int 0)) (zCons (zC (.int 1)) (zNil)))) (zNil))) (zCons (zTup (zCons (zTup (zCons (zC (.int 0)) (zCons (zC (.int 1)) (zNil)))) (zCons (zTup (zCons (zC (.int 0)) (zCons (zC (.int 2)) (zNil)))) (zCons (zTup (zCons (zC (.int 1)) (zCons (zC (.int 2)) (zNil)))) (zNil))))) (zCons (zTup (zCons (zTup (zCons (zC (.int 0)) (zCons (zC (.int 1)) (zNil)))) (zCons (zTup (zCons (zC (.int 2)) (zCons (zC (.int 3)) (zNil)))) (zCons (zTup (zCons (zC (.int 0)) (zCons (zC (.int 2)) (zNil)))) (zCons (zTup (zCons (zC (.int 1)) (zCons (zC (.int 3)) (zNil)))) (zCons (zTup (zCons (zC (.int 1)) (zCons (zC (.int 2)) (zNil)))) (zNil))))))) (zNil))))))) (zSeq (zSet false 3 (zBin gAdd (zVar 3) (zLst (zCons (zTup (zCons (zTup (zCons (zC (.int 0)) (zCons (zC (.int 3)) (zNil)))) (zCons (zTup (zCons (zC (.int 1)) (zCons (zC (.int 4)) (zNil)))) (zCons (zTup (zCons (zC (.int 0)) (zCons (zC (.int 2)) (zNil)))) (zCons (zTup (zCons (zC (.int 1)) (zCons (zC (.int 3)) (zNil)))) (zCons (zTup (zCons (zC (.int 0)) (zCons (zC (.int 1)) (zNil)))) (zCons (zTup (zCons (zC (.int 2)) (zCons (zC (.int 4)) (zNil)))) (zCons (zTup (zCons (zC (.int 1)) (zCons (zC (.int 2)) (zNil)))) (zCons (zTup (zCons (zC (.int 3)) (zCons (zC (.int 4)) (zNil)))) (zCons (zTup (zCons (zC (.int 2)) (zCons (zC (.int 3)) (zNil)))) (zNil))))))))))) (zNil))))) (zSeq (zIfS false (zTB (zBin gIsNot (zCall fs_shows_fixed (zCons (zVar 2) (zCons (zBin gIx (zVar 3) (zBin gSub (zVar 2) (zC (.int 1)))) (zNil)))) (zC (.bl true)))) (zSeq (zRet false (zC (.bl false))) (zNext)) (zNext)) (zSeq (zSet false 4 (zCall fs__law_pick (zCons (zVar 1) (zCons (zLst (zCons (zVar 4) (zCons (zBin gIx (zVar 3) (zBin gSub (zVar 2) (zC (.int 1)))) (zNil)))) (zNil))))) (zSeq (zPar false 9 10 (zCall fs__law_taken (zCons (zVar 1) (zCons (zCallB gMax2 (zCons (zC (.int 1)) (zCons (zVar 8) (zNil)))) (zNil)))) (zSl (zCall fs__law_order (zCons (zVar 1) (zCons (zCallB gMax2 (zCons (zC (.int 2)) (zCons (zVar 2) (zNil)))) (zNil)))) (zNoP) (zP (zC (.int 2))))) (zSeq (zSet false 5 (zLst (zCons (zVar 4) (zCons (zRevV (zVar 4)) (zCons (zSl (zVar 4) (zP (zC (.int 1))) (zNoP)) (zCons (zBin gAdd (zVar 4) (zTup (zCons (zVar 10) (zNil)))) (zCons (zBin gAdd (zBin gAdd (zSl (zVar 4) (zNoP) (zP (zVar 9))) (zTup (zCons (zVar 10) (zNil)))) (zSl (zVar 4) (zP (zBin gAdd (zVar 9) (zC (.int 1)))) (zNoP))) (zCons (zBin gAdd (zSl (zVar 4) (zP (zC (.int 1))) (zNoP)) (zSl (zVar 4) (zNoP) (zP (zC (.int 1))))) (zNil))))))))) (zSeq (zSet false 6 (zLst (zCons (zC .non) (zCons (zCallB gList (zCons (zVar 4) (zNil))) (zCons (zDict0) (zCons (zC (.int 0)) (zCons (zBin gAdd (zSl (zVar 4) (zNoP) (zP (zUn gNeg (zC (.int 1))))) (zTup (zCons (zC .non) (zNil)))) (zCons (zBin gAdd (zSl (zVar 4) (zNoP) (zP (zUn gNeg (zC (.int 1))))) (zTup (zCons (zTup (zCons (zC (.int 0)) (zCons (zC (.int 0)) (zNil)))) (zNil)))) (zCons (zBin gAdd (zSl (zVar 4) (zNoP) (zP (zUn gNeg (zC (.int 1))))) (zTup (zCons (zTup (zCons (zC (.int 0)) (zCons (zVar 2) (zNil)))) (zNil)))) (zCons (zBin gAdd (zSl (zVar 4) (zNoP) (zP (zUn gNeg (zC (.int 1))))) (zTup (zCons (zLst (zCons (zC (.int 0)) (zCons (zC (.int 1)) (zNil)))) (zNil)))) (zCons (zBin gAdd (zSl (zVar 4) (zNoP) (zP (zUn gNeg (zC (.int 1))))) (zTup (zCons (zTup (zCons (zC (.bl true)) (zCons (zC (.int 0)) (zNil)))) (zNil)))) (zNil)))))))))))) (zSeq (zFor false (zIt (zLst (zCons (zCall fs__law_pick (zCons (zVar 1) (zCons (zVar 5) (zNil)))) (zCons (zCall fs__law_pick (zCons (zVar 1) (zCons (zVar 5) (zNil)))) (zCons (zCall fs__law_pick (zCons (zVar 1) (zCons (zVar 6) (zNil)))) (zNil)))))) (gN false 7) (zSeq (zSet false 11 (zAndV (zCallB gIsiX (zCons (zVar 7) (zCons (zC (.ty "tuple")) (zNil)))) (zBin gEq (zCallB gLen (zCons (zVar 7) (zNil))) (zVar 8)))) (zSeq (zFor false (zIt (zIf (zTru (zVar 11)) (zVar 7) (zLst (zNil)))) (gN false 12) (zSeq (zSet false 11 (zAndV (zVar 11) (zAndV (zCallB gIsiX (zCons (zVar 12) (zCons (zC (.ty "tuple")) (zNil)))) (zBin gEq (zCallB gLen (zCons (zVar 12) (zNil))) (zC (.int 2)))))) (zSeq (zSet false 11 (zAndV (zVar 11) (zAndV (zBin gEq (zLc (zIt (zVar 12)) (gN false 14) (zTOr (zTru (zCallB gIsiX (zCons (zVar 14) (zCons (zC (.ty "bool")) (zNil))))) (zTB (zBin gNotIn (zVar 14) (zListRng (zVar 2))))) (zVar 14) [14]) (zLst (zNil))) (zBin gNe (zBin gIx (zVar 12) (zC (.int 0))) (zBin gIx (zVar 12) (zC (.int 1))))))) (zNext)))) (zSeq (zIfS false (zTru (zVar 11)) (zSeq (zSet false 13 (zLc (zIt (zCall fs__law_columns (zCons (zVar 2) (zNil)))) (gN false 12) (zYes) (zCall fs__law_carried (zCons (zVar 12) (zCons (zVar 7) (zNil)))) [12])) (zSeq (zSet false 11 (zBin gEq (zLc (zIt (zVar 13)) (gN false 12) (zTB (zBin gNe (zCallB gList (zCons (zVar 12) (zNil))) (zRevV (zCallB (gSorted false) (zCons (zVar 12) (zNil)))))) (zVar 12) [12]) (zLst (zNil)))) (zNext))) (zNext)) (zSeq (zIfS false (zTNot (zTru (zCall fs__law_alike (zCons (zCall fs_shows_fixed (zCons (zVar 2) (zCons (zVar 7) (zNil)))) (zCons (zVar 11) (zNil)))))) (zSeq (zRet false (zC (.bl false))) (zNext)) (zNext)) (zNext)))))) (zSeq (zRet false (zC (.bl true))) (zNext)))))))))))))
def fs_law : FS := ⟨1, false, zDef (N_law).length false g_law⟩
theorem rd_law {d0 : Dat} {o : Dat × Bool × Dat} (h : Zz.Run false g_law [some (.sh d0), none, none, none, none, none, none, none, none, none, none, none, none, none, none] (Is o)) : fs_law.run [d0] = some o := run_def rfl h
theorem rq_law {d0 : Dat} {Q : Dat × Bool × Dat → Prop} (h : Zz.Run false g_law [some (.sh d0), none, none, none, none, none, none, none, none, none, none, none, none, none, none] Q) : ∃ o, fs_law.run [d0] = some o ∧ Q o := run_defQ rfl h
theorem b_law (m_bool : G.mg "bool" = none) (m_isinstance : G.mg "isinstance" = none) (m_len : G.mg "len" = none) (m_list : G.mg "list" = none) (m_max : G.mg "max" = none) (m_range : G.mg "range" = none) (m_sorted : G.mg "sorted" = none) (m_tuple : G.mg "tuple" = none) (K__law_alike : Kn P w K G base "_law_alike" 5 fs__law_alike) (K__law_carried : Kn P w K G base "_law_carried" 1 fs__law_carried) (K__law_columns : Kn P w K G base "_law_columns" 1 fs__law_columns) (K__law_order : Kn P w K G base "_law_order" 2 fs__law_order) (K__law_pick : Kn P w K G base "_law_pick" 2 fs__law_pick) (K__law_taken : Kn P w K G base "_law_taken" 1 fs__law_taken) (K_brings_all : Kn P w K G base "brings_all" 10 fs_brings_all) (K_fewest_lays : Kn P w K G base "fewest_lays" 3 fs_fewest_lays) (K_shows_fixed : Kn P w K G base "shows_fixed" 14 fs_shows_fixed) {cd : Value} {f : Addr} {A : Around} {outer : List Env} {s : Shared} {H : Hp} {E : XK} (hr : Room 14 (A.deeper (envOfC "law" (defScope (top 30)) s.heap.objs.size f cd))) :
    PSs (cxOf CX0 P w K G.mg base N_law "law" (defScope (top 30)) f cd A outer s H E).nox (defBody (top 30)) (tSv K G false g_law) := by
  unfold g_law
  exact pzs_cons (pz_set (i := 1) nd_law rfl (by first | exact .inl rfl | exact .inr rfl) (pz_lst (pz_cons (pz_var (i := 0) rfl (by first | exact .inl rfl | exact .inr (.inl rfl) | exact .inr (.inr rfl)) rfl rfl) (pz_cons (pz_const_int) (pz_cons (pz_const_int) (pz_cons (pz_const_int) (pz_nil) (by rfl)) (by rfl)) (by rfl)) (by rfl)) (nrm_cons (nrm_cons (nrm_cons (nrm_cons (nrm_nil)))))) (by rfl) (by first | exact .inl rfl | exact .inr rfl)) (pzs_cons (pz_set (i := 2) nd_law rfl (by first | exact .inl rfl | exact .inr rfl) (pz_bin oz_add (pz_const_int) (pz_callK K__law_taken rfl (hr.mono (by decide)) (by rfl) (pz_cons (pz_var (i := 1) rfl (by first | exact .inl rfl | exact .inr (.inl rfl) | exact .inr (.inr rfl)) rfl rfl) (pz_cons (pz_callK K__law_pick rfl (hr.mono (by decide)) (by rfl) (pz_cons (pz_var (i := 1) rfl (by first | exact .inl rfl | exact .inr (.inl rfl) | exact .inr (.inr rfl)) rfl rfl) (pz_cons (pz_lst (pz_cons (pz_const_int) (pz_cons (pz_const_int) (pz_cons (pz_const_int) (pz_cons (pz_const_int) (pz_nil) (by rfl)) (by rfl)) (by rfl)) (by rfl)) (nrm_cons (nrm_cons (nrm_cons (nrm_cons (nrm_nil)))))) (pz_nil) (by rfl)) (by rfl)) (nrm_cons (nrm_cons (nrm_nil))) rfl (by rfl) (by rfl)) (pz_nil) (by rfl)) (by rfl)) (nrm_cons (nrm_cons (nrm_nil))) rfl (by rfl) (by rfl))) (by rfl) (by first | exact .inl rfl | exact .inr rfl)) (pzs_cons ((by first | exact pz_par (i := 4) (j := 8) rfl nd_law rfl rfl (by decide) rfl rfl (pz_callK K_fewest_lays rfl (hr.mono (by decide)) (by rfl) (pz_cons (pz_var (i := 2) rfl (by first | exact .inl rfl | exact .inr (.inl rfl) | exact .inr (.inr rfl)) rfl rfl) (pz_nil) (by rfl)) (nrm_cons (nrm_nil)) rfl (by rfl) (by rfl)) (pz_ix (pz_lst (pz_cons (pz_const_int) (pz_cons (pz_const_int) (pz_cons (pz_const_int) (pz_cons (pz_const_int) (pz_cons (pz_const_int) (pz_nil) (by rfl)) (by rfl)) (by rfl)) (by rfl)) (by rfl)) (nrm_cons (nrm_cons (nrm_cons (nrm_cons (nrm_cons (nrm_nil))))))) (pz_bin oz_sub (pz_var (i := 2) rfl (by first | exact .inl rfl | exact .inr (.inl rfl) | exact .inr (.inr rfl)) rfl rfl) (pz_const_int)) (fun _ _ => rfl)) (by rfl) (by rfl) (by rfl) (by rfl) | exact pz_parC (i := 4) (j := 8) rfl nd_law rfl rfl (by decide) (by first | exact .inl rfl | exact .inr rfl) (by first | exact .inl rfl | exact .inr rfl) (by first | exact .inl rfl | exact .inr rfl) (by first | exact .inl rfl | exact .inr rfl) (pz_callK K_fewest_lays rfl (hr.mono (by decide)) (by rfl) (pz_cons (pz_var (i := 2) rfl (by first | exact .inl rfl | exact .inr (.inl rfl) | exact .inr (.inr rfl)) rfl rfl) (pz_nil) (by rfl)) (nrm_cons (nrm_nil)) rfl (by rfl) (by rfl)) (pz_ix (pz_lst (pz_cons (pz_const_int) (pz_cons (pz_const_int) (pz_cons (pz_const_int) (pz_cons (pz_const_int) (pz_cons (pz_const_int) (pz_nil) (by rfl)) (by rfl)) (by rfl)) (by rfl)) (by rfl)) (nrm_cons (nrm_cons (nrm_cons (nrm_cons (nrm_cons (nrm_nil))))))) (pz_bin oz_sub (pz_var (i := 2) rfl (by first | exact .inl rfl | exact .inr (.inl rfl) | exact .inr (.inr rfl)) rfl rfl) (pz_const_int)) (fun _ _ => rfl)) (by rfl) (by rfl) (by rfl) (by rfl))) (pzs_cons (pz_ifS (PW.pt (pz_orc (pz_tcmp (oz_ne hr.units) (pz_callB' (by rfl) m_len rfl cz_len (by decide) rfl (pz_cons (pz_var (i := 4) rfl (by first | exact .inl rfl | exact .inr (.inl rfl) | exact .inr (.inr rfl)) rfl rfl) (pz_nil) (by rfl)) (by rfl) (by rfl)) (pz_var (i := 8) rfl (by first | exact .inl rfl | exact .inr (.inl rfl) | exact .inr (.inr rfl)) rfl rfl) (by rfl)) (pz_orc (pz_tcmp (oz_isNot) (pz_callK K_brings_all rfl (hr.mono (by decide)) (by rfl) (pz_cons (pz_var (i := 2) rfl (by first | exact .inl rfl | exact .inr (.inl rfl) | exact .inr (.inr rfl)) rfl rfl) (pz_cons (pz_var (i := 4) rfl (by first | exact .inl rfl | exact .inr (.inl rfl) | exact .inr (.inr rfl)) rfl rfl) (pz_nil) (by rfl)) (by rfl)) (nrm_cons (nrm_cons (nrm_nil))) rfl (by rfl) (by rfl)) (pz_const_bl) (by rfl)) (pz_or1 (pz_tcmp (oz_isNot) (pz_callK K_shows_fixed rfl (hr.mono (by decide)) (by rfl) (pz_cons (pz_var (i := 2) rfl (by first | exact .inl rfl | exact .inr (.inl rfl) | exact .inr (.inr rfl)) rfl rfl) (pz_cons (pz_var (i := 4) rfl (by first | exact .inl rfl | exact .inr (.inl rfl) | exact .inr (.inr rfl)) rfl rfl) (pz_nil) (by rfl)) (by rfl)) (nrm_cons (nrm_cons (nrm_nil))) rfl (by rfl) (by rfl)) (pz_const_bl) (by rfl)))))) (pzs_cons (pz_ret (pz_const_bl)) (pzs_nil)) (pzs_nil)) (pzs_cons (pz_set (i := 3) nd_law rfl (by first | exact .inl rfl | exact .inr rfl) (pz_lst (pz_cons (pz_tup (pz_nil) (nrm_nil)) (pz_cons (pz_tup (pz_cons (pz_tup (pz_cons (pz_const_int) (pz_cons (pz_const_int) (pz_nil) (by rfl)) (by rfl)) (nrm_cons (nrm_cons (nrm_nil)))) (pz_nil) (by rfl)) (nrm_cons (nrm_nil))) (pz_cons (pz_tup (pz_cons (pz_tup (pz_cons (pz_const_int) (pz_cons (pz_const_int) (pz_nil) (by rfl)) (by rfl)) (nrm_cons (nrm_cons (nrm_nil)))) (pz_cons (pz_tup (pz_cons (pz_const_int) (pz_cons (pz_const_int) (pz_nil) (by rfl)) (by rfl)) (nrm_cons (nrm_cons (nrm_nil)))) (pz_cons (pz_tup (pz_cons (pz_const_int) (pz_cons (pz_const_int) (pz_nil) (by rfl)) (by rfl)) (nrm_cons (nrm_cons (nrm_nil)))) (pz_nil) (by rfl)) (by rfl)) (by rfl)) (nrm_cons (nrm_cons (nrm_cons (nrm_nil))))) (pz_cons (pz_tup (pz_cons (pz_tup (pz_cons (pz_const_int) (pz_cons (pz_const_int) (pz_nil) (by rfl)) (by rfl)) (nrm_cons (nrm_cons (nrm_nil)))) (pz_cons (pz_tup (pz_cons (pz_const_int) (pz_cons (pz_const_int) (pz_nil) (by rfl)) (by rfl)) (nrm_cons (nrm_cons (nrm_nil)))) (pz_cons (pz_tup (pz_cons (pz_const_int) (pz_cons (pz_const_int) (pz_nil) (by rfl)) (by rfl)) (nrm_cons (nrm_cons (nrm_nil)))) (pz_cons (pz_tup (pz_cons (pz_const_int) (pz_cons (pz_const_int) (pz_nil) (by rfl)) (by rfl)) (nrm_cons (nrm_cons (nrm_nil)))) (pz_cons (pz_tup (pz_cons (pz_const_int) (pz_cons (pz_const_int) (pz_nil) (by rfl)) (by rfl)) (nrm_cons (nrm_cons (nrm_nil)))) (pz_nil) (by rfl)) (by rfl)) (by rfl)) (by rfl)) (by rfl)) (nrm_cons (nrm_cons (nrm_cons (nrm_cons (nrm_cons (nrm_nil))))))) (pz_nil) (by rfl)) (by rfl)) (by rfl)) (by rfl)) (nrm_cons (nrm_cons (nrm_cons (nrm_cons (nrm_nil)))))) (by rfl) (by first | exact .inl rfl | exact .inr rfl)) (pzs_cons (pz_set (i := 3) nd_law rfl (by first | exact .inl rfl | exact .inr rfl) (pz_bin oz_add (pz_var (i := 3) rfl (by first | exact .inl rfl | exact .inr (.inl rfl) | exact .inr (.inr rfl)) rfl rfl) (pz_lst (pz_cons (pz_tup (pz_cons (pz_tup (pz_cons (pz_const_int) (pz_cons (pz_const_int) (pz_nil) (by rfl)) (by rfl)) (nrm_cons (nrm_cons (nrm_nil)))) (pz_cons (pz_tup (pz_cons (pz_const_int) (pz_cons (pz_const_int) (pz_nil) (by rfl)) (by rfl)) (nrm_cons (nrm_cons (nrm_nil)))) (pz_cons (pz_tup (pz_cons (pz_const_int) (pz_cons (pz_const_int) (pz_nil) (by rfl)) (by rfl)) (nrm_cons (nrm_cons (nrm_nil)))) (pz_cons (pz_tup (pz_cons (pz_const_int) (pz_cons (pz_const_int) (pz_nil) (by rfl)) (by rfl)) (nrm_cons (nrm_cons (nrm_nil)))) (pz_cons (pz_tup (pz_cons (pz_const_int) (pz_cons (pz_const_int) (pz_nil) (by rfl)) (by rfl)) (nrm_cons (nrm_cons (nrm_nil)))) (pz_cons (pz_tup (pz_cons (pz_const_int) (pz_cons (pz_const_int) (pz_nil) (by rfl)) (by rfl)) (nrm_cons (nrm_cons (nrm_nil)))) (pz_cons (pz_tup (pz_cons (pz_const_int) (pz_cons (pz_const_int) (pz_nil) (by rfl)) (by rfl)) (nrm_cons (nrm_cons (nrm_nil)))) (pz_cons (pz_tup (pz_cons (pz_const_int) (pz_cons (pz_const_int) (pz_nil) (by rfl)) (by rfl)) (nrm_cons (nrm_cons (nrm_nil)))) (pz_cons (pz_tup (pz_cons (pz_const_int) (pz_cons (pz_const_int) (pz_nil) (by rfl)) (by rfl)) (nrm_cons (nrm_cons (nrm_nil)))) (pz_nil) (by rfl)) (by rfl)) (by rfl)) (by rfl)) (by rfl)) (by rfl)) (by rfl)) (by rfl)) (by rfl)) (nrm_cons (nrm_cons (nrm_cons (nrm_cons (nrm_cons (nrm_cons (nrm_cons (nrm_cons (nrm_cons (nrm_nil))))))))))) (pz_nil) (by rfl)) (nrm_cons (nrm_nil)))) (by rfl) (by first | exact .inl rfl | exact .inr rfl)) (pzs_cons (pz_ifS (pz_tcmp (oz_isNot) (pz_callK K_shows_fixed rfl (hr.mono (by decide)) (by rfl) (pz_cons (pz_var (i := 2) rfl (by first | exact .inl rfl | exact .inr (.inl rfl) | exact .inr (.inr rfl)) rfl rfl) (pz_cons (pz_ix (pz_var (i := 3) rfl (by first | exact .inl rfl | exact .inr (.inl rfl) | exact .inr (.inr rfl)) rfl rfl) (pz_bin oz_sub (pz_var (i := 2) rfl (by first | exact .inl rfl | exact .inr (.inl rfl) | exact .inr (.inr rfl)) rfl rfl) (pz_const_int)) (fun _ _ => rfl)) (pz_nil) (by rfl)) (by rfl)) (nrm_cons (nrm_cons (nrm_nil))) rfl (by rfl) (by rfl)) (pz_const_bl) (by rfl)) (pzs_cons (pz_ret (pz_const_bl)) (pzs_nil)) (pzs_nil)) (pzs_cons (pz_set (i := 4) nd_law rfl (by first | exact .inl rfl | exact .inr rfl) (pz_callK K__law_pick rfl (hr.mono (by decide)) (by rfl) (pz_cons (pz_var (i := 1) rfl (by first | exact .inl rfl | exact .inr (.inl rfl) | exact .inr (.inr rfl)) rfl rfl) (pz_cons (pz_lst (pz_cons (pz_var (i := 4) rfl (by first | exact .inl rfl | exact .inr (.inl rfl) | exact .inr (.inr rfl)) rfl rfl) (pz_cons (pz_ix (pz_var (i := 3) rfl (by first | exact .inl rfl | exact .inr (.inl rfl) | exact .inr (.inr rfl)) rfl rfl) (pz_bin oz_sub (pz_var (i := 2) rfl (by first | exact .inl rfl | exact .inr (.inl rfl) | exact .inr (.inr rfl)) rfl rfl) (pz_const_int)) (fun _ _ => rfl)) (pz_nil) (by rfl)) (by rfl)) (nrm_cons (nrm_cons (nrm_nil)))) (pz_nil) (by rfl)) (by rfl)) (nrm_cons (nrm_cons (nrm_nil))) rfl (by rfl) (by rfl)) (by rfl) (by first | exact .inl rfl | exact .inr rfl)) (pzs_cons ((by first | exact pz_par (i := 9) (j := 10) rfl nd_law rfl rfl (by decide) rfl rfl (pz_callK K__law_taken rfl (hr.mono (by decide)) (by rfl) (pz_cons (pz_var (i := 1) rfl (by first | exact .inl rfl | exact .inr (.inl rfl) | exact .inr (.inr rfl)) rfl rfl) (pz_cons (pz_callB' (by rfl) m_max rfl (cz_max2 rfl) (by decide) rfl (pz_cons (pz_const_int) (pz_cons (pz_var (i := 8) rfl (by first | exact .inl rfl | exact .inr (.inl rfl) | exact .inr (.inr rfl)) rfl rfl) (pz_nil) (by rfl)) (by rfl)) (by rfl) (by rfl)) (pz_nil) (by rfl)) (by rfl)) (nrm_cons (nrm_cons (nrm_nil))) rfl (by rfl) (by rfl)) (pz_slice (pz_callK K__law_order rfl (hr.mono (by decide)) (by rfl) (pz_cons (pz_var (i := 1) rfl (by first | exact .inl rfl | exact .inr (.inl rfl) | exact .inr (.inr rfl)) rfl rfl) (pz_cons (pz_callB' (by rfl) m_max rfl (cz_max2 rfl) (by decide) rfl (pz_cons (pz_const_int) (pz_cons (pz_var (i := 2) rfl (by first | exact .inl rfl | exact .inr (.inl rfl) | exact .inr (.inr rfl)) rfl rfl) (pz_nil) (by rfl)) (by rfl)) (by rfl) (by rfl)) (pz_nil) (by rfl)) (by rfl)) (nrm_cons (nrm_cons (nrm_nil))) rfl (by rfl) (by rfl)) (poz_none) (poz_some (pz_const_int))) (by rfl) (by rfl) (by rfl) (by rfl) | exact pz_parC (i := 9) (j := 10) rfl nd_law rfl rfl (by decide) (by first | exact .inl rfl | exact .inr rfl) (by first | exact .inl rfl | exact .inr rfl) (by first | exact .inl rfl | exact .inr rfl) (by first | exact .inl rfl | exact .inr rfl) (pz_callK K__law_taken rfl (hr.mono (by decide)) (by rfl) (pz_cons (pz_var (i := 1) rfl (by first | exact .inl rfl | exact .inr (.inl rfl) | exact .inr (.inr rfl)) rfl rfl) (pz_cons (pz_callB' (by rfl) m_max rfl (cz_max2 rfl) (by decide) rfl (pz_cons (pz_const_int) (pz_cons (pz_var (i := 8) rfl (by first | exact .inl rfl | exact .inr (.inl rfl) | exact .inr (.inr rfl)) rfl rfl) (pz_nil) (by rfl)) (by rfl)) (by rfl) (by rfl)) (pz_nil) (by rfl)) (by rfl)) (nrm_cons (nrm_cons (nrm_nil))) rfl (by rfl) (by rfl)) (pz_slice (pz_callK K__law_order rfl (hr.mono (by decide)) (by rfl) (pz_cons (pz_var (i := 1) rfl (by first | exact .inl rfl | exact .inr (.inl rfl) | exact .inr (.inr rfl)) rfl rfl) (pz_cons (pz_callB' (by rfl) m_max rfl (cz_max2 rfl) (by decide) rfl (pz_cons (pz_const_int) (pz_cons (pz_var (i := 2) rfl (by first | exact .inl rfl | exact .inr (.inl rfl) | exact .inr (.inr rfl)) rfl rfl) (pz_nil) (by rfl)) (by rfl)) (by rfl) (by rfl)) (pz_nil) (by rfl)) (by rfl)) (nrm_cons (nrm_cons (nrm_nil))) rfl (by rfl) (by rfl)) (poz_none) (poz_some (pz_const_int))) (by rfl) (by rfl) (by rfl) (by rfl))) (pzs_cons (pz_set (i := 5) nd_law rfl (by first | exact .inl rfl | exact .inr rfl) (pz_lst (pz_cons (pz_var (i := 4) rfl (by first | exact .inl rfl | exact .inr (.inl rfl) | exact .inr (.inr rfl)) rfl rfl) (pz_cons (pz_revV (pz_var (i := 4) rfl (by first | exact .inl rfl | exact .inr (.inl rfl) | exact .inr (.inr rfl)) rfl rfl)) (pz_cons (pz_slice (pz_var (i := 4) rfl (by first | exact .inl rfl | exact .inr (.inl rfl) | exact .inr (.inr rfl)) rfl rfl) (poz_some (pz_const_int)) (poz_none)) (pz_cons (pz_bin oz_add (pz_var (i := 4) rfl (by first | exact .inl rfl | exact .inr (.inl rfl) | exact .inr (.inr rfl)) rfl rfl) (pz_tup (pz_cons (pz_var (i := 10) rfl (by first | exact .inl rfl | exact .inr (.inl rfl) | exact .inr (.inr rfl)) rfl rfl) (pz_nil) (by rfl)) (nrm_cons (nrm_nil)))) (pz_cons (pz_bin oz_add (pz_bin oz_add (pz_slice (pz_var (i := 4) rfl (by first | exact .inl rfl | exact .inr (.inl rfl) | exact .inr (.inr rfl)) rfl rfl) (poz_none) (poz_some (pz_var (i := 9) rfl (by first | exact .inl rfl | exact .inr (.inl rfl) | exact .inr (.inr rfl)) rfl rfl))) (pz_tup (pz_cons (pz_var (i := 10) rfl (by first | exact .inl rfl | exact .inr (.inl rfl) | exact .inr (.inr rfl)) rfl rfl) (pz_nil) (by rfl)) (nrm_cons (nrm_nil)))) (pz_slice (pz_var (i := 4) rfl (by first | exact .inl rfl | exact .inr (.inl rfl) | exact .inr (.inr rfl)) rfl rfl) (poz_some (pz_bin oz_add (pz_var (i := 9) rfl (by first | exact .inl rfl | exact .inr (.inl rfl) | exact .inr (.inr rfl)) rfl rfl) (pz_const_int))) (poz_none))) (pz_cons (pz_bin oz_add (pz_slice (pz_var (i := 4) rfl (by first | exact .inl rfl | exact .inr (.inl rfl) | exact .inr (.inr rfl)) rfl rfl) (poz_some (pz_const_int)) (poz_none)) (pz_slice (pz_var (i := 4) rfl (by first | exact .inl rfl | exact .inr (.inl rfl) | exact .inr (.inr rfl)) rfl rfl) (poz_none) (poz_some (pz_const_int)))) (pz_nil) (by rfl)) (by rfl)) (by rfl)) (by rfl)) (by rfl)) (by rfl)) (nrm_cons (nrm_cons (nrm_cons (nrm_cons (nrm_cons (nrm_cons (nrm_nil)))))))) (by rfl) (by first | exact .inl rfl | exact .inr rfl)) (pzs_cons (pz_set (i := 6) nd_law rfl (by first | exact .inl rfl | exact .inr rfl) (pz_lst (pz_cons (pz_const_non) (pz_cons (pz_callTy' (by rfl) m_list rfl cz_list (by decide) rfl (pz_cons (pz_var (i := 4) rfl (by first | exact .inl rfl | exact .inr (.inl rfl) | exact .inr (.inr rfl)) rfl rfl) (pz_nil) (by rfl)) (by rfl) (by rfl)) (pz_cons (pz_dict0) (pz_cons (pz_const_int) (pz_cons (pz_bin oz_add (pz_slice (pz_var (i := 4) rfl (by first | exact .inl rfl | exact .inr (.inl rfl) | exact .inr (.inr rfl)) rfl rfl) (poz_none) (poz_some (pz_neg (pz_const_int)))) (pz_tup (pz_cons (pz_const_non) (pz_nil) (by rfl)) (nrm_cons (nrm_nil)))) (pz_cons (pz_bin oz_add (pz_slice (pz_var (i := 4) rfl (by first | exact .inl rfl | exact .inr (.inl rfl) | exact .inr (.inr rfl)) rfl rfl) (poz_none) (poz_some (pz_neg (pz_const_int)))) (pz_tup (pz_cons (pz_tup (pz_cons (pz_const_int) (pz_cons (pz_const_int) (pz_nil) (by rfl)) (by rfl)) (nrm_cons (nrm_cons (nrm_nil)))) (pz_nil) (by rfl)) (nrm_cons (nrm_nil)))) (pz_cons (pz_bin oz_add (pz_slice (pz_var (i := 4) rfl (by first | exact .inl rfl | exact .inr (.inl rfl) | exact .inr (.inr rfl)) rfl rfl) (poz_none) (poz_some (pz_neg (pz_const_int)))) (pz_tup (pz_cons (pz_tup (pz_cons (pz_const_int) (pz_cons (pz_var (i := 2) rfl (by first | exact .inl rfl | exact .inr (.inl rfl) | exact .inr (.inr rfl)) rfl rfl) (pz_nil) (by rfl)) (by rfl)) (nrm_cons (nrm_cons (nrm_nil)))) (pz_nil) (by rfl)) (nrm_cons (nrm_nil)))) (pz_cons (pz_bin oz_add (pz_slice (pz_var (i := 4) rfl (by first | exact .inl rfl | exact .inr (.inl rfl) | exact .inr (.inr rfl)) rfl rfl) (poz_none) (poz_some (pz_neg (pz_const_int)))) (pz_tup (pz_cons (pz_lst (pz_cons (pz_const_int) (pz_cons (pz_const_int) (pz_nil) (by rfl)) (by rfl)) (nrm_cons (nrm_cons (nrm_nil)))) (pz_nil) (by rfl)) (nrm_cons (nrm_nil)))) (pz_cons (pz_bin oz_add (pz_slice (pz_var (i := 4) rfl (by first | exact .inl rfl | exact .inr (.inl rfl) | exact .inr (.inr rfl)) rfl rfl) (poz_none) (poz_some (pz_neg (pz_const_int)))) (pz_tup (pz_cons (pz_tup (pz_cons (pz_const_bl) (pz_cons (pz_const_int) (pz_nil) (by rfl)) (by rfl)) (nrm_cons (nrm_cons (nrm_nil)))) (pz_nil) (by rfl)) (nrm_cons (nrm_nil)))) (pz_nil) (by rfl)) (by rfl)) (by rfl)) (by rfl)) (by rfl)) (by rfl)) (by rfl)) (by rfl)) (by rfl)) (nrm_cons (nrm_cons (nrm_cons (nrm_cons (nrm_cons (nrm_cons (nrm_cons (nrm_cons (nrm_cons (nrm_nil))))))))))) (by rfl) (by first | exact .inl rfl | exact .inr rfl)) (pzs_cons (pz_for PassesOwn.never rfl (piz_seq (pz_lst (pz_cons (pz_callK K__law_pick rfl (hr.mono (by decide)) (by rfl) (pz_cons (pz_var (i := 1) rfl (by first | exact .inl rfl | exact .inr (.inl rfl) | exact .inr (.inr rfl)) rfl rfl) (pz_cons (pz_var (i := 5) rfl (by first | exact .inl rfl | exact .inr (.inl rfl) | exact .inr (.inr rfl)) rfl rfl) (pz_nil) (by rfl)) (by rfl)) (nrm_cons (nrm_cons (nrm_nil))) rfl (by rfl) (by rfl)) (pz_cons (pz_callK K__law_pick rfl (hr.mono (by decide)) (by rfl) (pz_cons (pz_var (i := 1) rfl (by first | exact .inl rfl | exact .inr (.inl rfl) | exact .inr (.inr rfl)) rfl rfl) (pz_cons (pz_var (i := 5) rfl (by first | exact .inl rfl | exact .inr (.inl rfl) | exact .inr (.inr rfl)) rfl rfl) (pz_nil) (by rfl)) (by rfl)) (nrm_cons (nrm_cons (nrm_nil))) rfl (by rfl) (by rfl)) (pz_cons (pz_callK K__law_pick rfl (hr.mono (by decide)) (by rfl) (pz_cons (pz_var (i := 1) rfl (by first | exact .inl rfl | exact .inr (.inl rfl) | exact .inr (.inr rfl)) rfl rfl) (pz_cons (pz_var (i := 6) rfl (by first | exact .inl rfl | exact .inr (.inl rfl) | exact .inr (.inr rfl)) rfl rfl) (pz_nil) (by rfl)) (by rfl)) (nrm_cons (nrm_cons (nrm_nil))) rfl (by rfl) (by rfl)) (pz_nil) (by rfl)) (by rfl)) (by rfl)) (nrm_cons (nrm_cons (nrm_cons (nrm_nil)))))) (pgz_name (i := 7) nd_law rfl (by first | exact .inl rfl | exact .inr rfl) (by first | exact .inl rfl | exact .inr rfl)) (pzs_cons (pz_set (i := 11) nd_law rfl (by first | exact .inl rfl | exact .inr rfl) (pz_andV (pz_callB' (by rfl) m_isinstance rfl cz_isiX (by decide) rfl (pz_cons (pz_var (i := 7) rfl (by first | exact .inl rfl | exact .inr (.inl rfl) | exact .inr (.inr rfl)) rfl rfl) (pz_cons (pz_bv (by rfl) m_tuple rfl (by decide) rfl) (pz_nil) (by rfl)) (by rfl)) (by rfl) (by rfl)) (pz_one (pz_cmp (oz_eq hr.units) (by rfl) (pz_callB' (by rfl) m_len rfl cz_len (by decide) rfl (pz_cons (pz_var (i := 7) rfl (by first | exact .inl rfl | exact .inr (.inl rfl) | exact .inr (.inr rfl)) rfl rfl) (pz_nil) (by rfl)) (by rfl) (by rfl)) (pz_var (i := 8) rfl (by first | exact .inl rfl | exact .inr (.inl rfl) | exact .inr (.inr rfl)) rfl rfl)))) (by rfl) (by first | exact .inl rfl | exact .inr rfl)) (pzs_cons (pz_for PassesOwn.never rfl (piz_seq (pz_if (pz_tru (pz_var (i := 11) rfl (by first | exact .inl rfl | exact .inr (.inl rfl) | exact .inr (.inr rfl)) rfl rfl) (fun _ => rfl)) (pz_var (i := 7) rfl (by first | exact .inl rfl | exact .inr (.inl rfl) | exact .inr (.inr rfl)) rfl rfl) (pz_lst (pz_nil) (nrm_nil)))) (pgz_name (i := 12) nd_law rfl (by first | exact .inl rfl | exact .inr rfl) (by first | exact .inl rfl | exact .inr rfl)) (pzs_cons (pz_set (i := 11) nd_law rfl (by first | exact .inl rfl | exact .inr rfl) (pz_andV (pz_var (i := 11) rfl (by first | exact .inl rfl | exact .inr (.inl rfl) | exact .inr (.inr rfl)) rfl rfl) (pz_andV (pz_callB' (by rfl) m_isinstance rfl cz_isiX (by decide) rfl (pz_cons (pz_var (i := 12) rfl (by first | exact .inl rfl | exact .inr (.inl rfl) | exact .inr (.inr rfl)) rfl rfl) (pz_cons (pz_bv (by rfl) m_tuple rfl (by decide) rfl) (pz_nil) (by rfl)) (by rfl)) (by rfl) (by rfl)) (pz_one (pz_cmp (oz_eq hr.units) (by rfl) (pz_callB' (by rfl) m_len rfl cz_len (by decide) rfl (pz_cons (pz_var (i := 12) rfl (by first | exact .inl rfl | exact .inr (.inl rfl) | exact .inr (.inr rfl)) rfl rfl) (pz_nil) (by rfl)) (by rfl) (by rfl)) (pz_const_int))))) (by rfl) (by first | exact .inl rfl | exact .inr rfl)) (pzs_cons (pz_set (i := 11) nd_law rfl (by first | exact .inl rfl | exact .inr rfl) (pz_andV (pz_var (i := 11) rfl (by first | exact .inl rfl | exact .inr (.inl rfl) | exact .inr (.inr rfl)) rfl rfl) (pz_andV (pz_cmp (oz_eq hr.units) (by rfl) (pz_lc (own := [("one", 14)]) rfl nd_law (piz_seq (pz_var (i := 12) rfl (by first | exact .inl rfl | exact .inr (.inl rfl) | exact .inr (.inr rfl)) rfl rfl)) (blkB_ok (by rfl)) (fun _ _ _ _ _ => pgz_name (i := 14) nd_law rfl (by first | exact .inl rfl | exact .inr rfl) (by first | exact .inl rfl | exact .inr rfl)) (fun _ _ _ _ _ => ptz_one (PW.pt (pz_orc (pz_tru (pz_callB' (by rfl) m_isinstance rfl cz_isiX (by decide) rfl (pz_cons (pz_var (i := 14) rfl (by first | exact .inl rfl | exact .inr (.inl rfl) | exact .inr (.inr rfl)) rfl rfl) (pz_cons (pz_bv (by rfl) m_bool rfl (by decide) rfl) (pz_nil) (by rfl)) (by rfl)) (by rfl) (by rfl)) (fun _ => rfl)) (pz_or1 (pz_tcmp (oz_notIn (room65 hr)) (pz_var (i := 14) rfl (by first | exact .inl rfl | exact .inr (.inl rfl) | exact .inr (.inr rfl)) rfl rfl) (pz_listRng rfl (by rfl) m_list (by rfl) m_range (pz_var (i := 2) rfl (by first | exact .inl rfl | exact .inr (.inl rfl) | exact .inr (.inr rfl)) rfl rfl) (by rfl) (by rfl)) (by rfl)))))) (fun _ _ _ _ _ => pz_var (i := 14) rfl (by first | exact .inl rfl | exact .inr (.inl rfl) | exact .inr (.inr rfl)) rfl rfl) (fun _ => rfl) (tgOk_name) (by decide)) (pz_lst (pz_nil) (nrm_nil))) (pz_one (pz_cmp (oz_ne hr.units) (by rfl) (pz_ix (pz_var (i := 12) rfl (by first | exact .inl rfl | exact .inr (.inl rfl) | exact .inr (.inr rfl)) rfl rfl) (pz_const_int) (fun _ _ => rfl)) (pz_ix (pz_var (i := 12) rfl (by first | exact .inl rfl | exact .inr (.inl rfl) | exact .inr (.inr rfl)) rfl rfl) (pz_const_int) (fun _ _ => rfl)))))) (by rfl) (by first | exact .inl rfl | exact .inr rfl)) (pzs_nil))) (fun _ => rfl)) (pzs_cons (pz_ifS (pz_tru (pz_var (i := 11) rfl (by first | exact .inl rfl | exact .inr (.inl rfl) | exact .inr (.inr rfl)) rfl rfl) (fun _ => rfl)) (pzs_cons ((by first | exact pz_setLc (i := 13) (own := [("told", 12)]) rfl nd_law rfl rfl (by rfl) (piz_seq (pz_callK K__law_columns rfl (hr.mono (by decide)) (by rfl) (pz_cons (pz_var (i := 2) rfl (by first | exact .inl rfl | exact .inr (.inl rfl) | exact .inr (.inr rfl)) rfl rfl) (pz_nil) (by rfl)) (nrm_cons (nrm_nil)) rfl (by rfl) (by rfl))) (blkB_ok (by rfl)) (fun _ _ _ _ _ => pgz_name (i := 12) nd_law rfl (by first | exact .inl rfl | exact .inr rfl) (by first | exact .inl rfl | exact .inr rfl)) (fun _ _ _ _ _ => ptz_nil) (fun _ _ _ _ _ => pz_callK K__law_carried rfl (hr.mono (by decide)) (by rfl) (pz_cons (pz_var (i := 12) rfl (by first | exact .inl rfl | exact .inr (.inl rfl) | exact .inr (.inr rfl)) rfl rfl) (pz_cons (pz_var (i := 7) rfl (by first | exact .inl rfl | exact .inr (.inl rfl) | exact .inr (.inr rfl)) rfl rfl) (pz_nil) (by rfl)) (by rfl)) (nrm_cons (nrm_cons (nrm_nil))) rfl (by rfl) (by rfl)) (fun _ => rfl) (tgOk_name) (by decide) | exact pz_set (i := 13) nd_law rfl (by first | exact .inl rfl | exact .inr rfl) (pz_lc (own := [("told", 12)]) rfl nd_law (piz_seq (pz_callK K__law_columns rfl (hr.mono (by decide)) (by rfl) (pz_cons (pz_var (i := 2) rfl (by first | exact .inl rfl | exact .inr (.inl rfl) | exact .inr (.inr rfl)) rfl rfl) (pz_nil) (by rfl)) (nrm_cons (nrm_nil)) rfl (by rfl) (by rfl))) (blkB_ok (by rfl)) (fun _ _ _ _ _ => pgz_name (i := 12) nd_law rfl (by first | exact .inl rfl | exact .inr rfl) (by first | exact .inl rfl | exact .inr rfl)) (fun _ _ _ _ _ => ptz_nil) (fun _ _ _ _ _ => pz_callK K__law_carried rfl (hr.mono (by decide)) (by rfl) (pz_cons (pz_var (i := 12) rfl (by first | exact .inl rfl | exact .inr (.inl rfl) | exact .inr (.inr rfl)) rfl rfl) (pz_cons (pz_var (i := 7) rfl (by first | exact .inl rfl | exact .inr (.inl rfl) | exact .inr (.inr rfl)) rfl rfl) (pz_nil) (by rfl)) (by rfl)) (nrm_cons (nrm_cons (nrm_nil))) rfl (by rfl) (by rfl)) (fun _ => rfl) (tgOk_name) (by decide)) (by rfl) (by first | exact .inl rfl | exact .inr rfl))) (pzs_cons (pz_set (i := 11) nd_law rfl (by first | exact .inl rfl | exact .inr rfl) (pz_cmp (oz_eq hr.units) (by rfl) (pz_lc (own := [("told", 12)]) rfl nd_law (piz_seq (pz_var (i := 13) rfl (by first | exact .inl rfl | exact .inr (.inl rfl) | exact .inr (.inr rfl)) rfl rfl)) (blkB_ok (by rfl)) (fun _ _ _ _ _ => pgz_name (i := 12) nd_law rfl (by first | exact .inl rfl | exact .inr rfl) (by first | exact .inl rfl | exact .inr rfl)) (fun _ _ _ _ _ => ptz_one (pz_tcmp (oz_ne hr.units) (pz_callTy' (by rfl) m_list rfl cz_list (by decide) rfl (pz_cons (pz_var (i := 12) rfl (by first | exact .inl rfl | exact .inr (.inl rfl) | exact .inr (.inr rfl)) rfl rfl) (pz_nil) (by rfl)) (by rfl) (by rfl)) (pz_revV (pz_callB' (by rfl) m_sorted rfl (cz_sorted hr.units) (by decide) rfl (pz_cons (pz_var (i := 12) rfl (by first | exact .inl rfl | exact .inr (.inl rfl) | exact .inr (.inr rfl)) rfl rfl) (pz_nil) (by rfl)) (by rfl) (by rfl))) (by rfl))) (fun _ _ _ _ _ => pz_var (i := 12) rfl (by first | exact .inl rfl | exact .inr (.inl rfl) | exact .inr (.inr rfl)) rfl rfl) (fun _ => rfl) (tgOk_name) (by decide)) (pz_lst (pz_nil) (nrm_nil))) (by rfl) (by first | exact .inl rfl | exact .inr rfl)) (pzs_nil))) (pzs_nil)) (pzs_cons (pz_ifS (pz_tnot (pz_tru (pz_callK K__law_alike rfl (hr.mono (by decide)) (by rfl) (pz_cons (pz_callK K_shows_fixed rfl (hr.mono (by decide)) (by rfl) (pz_cons (pz_var (i := 2) rfl (by first | exact .inl rfl | exact .inr (.inl rfl) | exact .inr (.inr rfl)) rfl rfl) (pz_cons (pz_var (i := 7) rfl (by first | exact .inl rfl | exact .inr (.inl rfl) | exact .inr (.inr rfl)) rfl rfl) (pz_nil) (by rfl)) (by rfl)) (nrm_cons (nrm_cons (nrm_nil))) rfl (by rfl) (by rfl)) (pz_cons (pz_var (i := 11) rfl (by first | exact .inl rfl | exact .inr (.inl rfl) | exact .inr (.inr rfl)) rfl rfl) (pz_nil) (by rfl)) (by rfl)) (nrm_cons (nrm_cons (nrm_nil))) rfl (by rfl) (by rfl)) (fun _ => rfl))) (pzs_cons (pz_ret (pz_const_bl)) (pzs_nil)) (pzs_nil)) (pzs_nil))))) (fun _ => rfl)) (pzs_cons (pz_ret (pz_const_bl)) (pzs_nil)))))))))))))
theorem k_law (m_bool : G.mg "bool" = none) (m_isinstance : G.mg "isinstance" = none) (m_len : G.mg "len" = none) (m_list : G.mg "list" = none) (m_max : G.mg "max" = none) (m_range : G.mg "range" = none) (m_sorted : G.mg "sorted" = none) (m_tuple : G.mg "tuple" = none) (K__law_alike : Kn P w K G base "_law_alike" 5 fs__law_alike) (K__law_carried : Kn P w K G base "_law_carried" 1 fs__law_carried) (K__law_columns : Kn P w K G base "_law_columns" 1 fs__law_columns) (K__law_order : Kn P w K G base "_law_order" 2 fs__law_order) (K__law_pick : Kn P w K G base "_law_pick" 2 fs__law_pick) (K__law_taken : Kn P w K G base "_law_taken" 1 fs__law_taken) (K_brings_all : Kn P w K G base "brings_all" 10 fs_brings_all) (K_fewest_lays : Kn P w K G base "fewest_lays" 3 fs_fewest_lays) (K_shows_fixed : Kn P w K G base "shows_fixed" 14 fs_shows_fixed) {cd : Value} {fd : FuncData} {f : Addr} (F : Df K "law" (top 30) f fd cd) (gm : G.mg "law" = some (.ref f)) (b : L2.Binds K fd ["script"] []) : Kn P w K G base "law" 15 fs_law :=
  ⟨⟨f, fd, ["script"], F.ok (k := 14) sc_law rfl (by decide) (fun A outer s H E hr => b_law m_bool m_isinstance m_len m_list m_max m_range m_sorted m_tuple K__law_alike K__law_carried K__law_columns K__law_order K__law_pick K__law_taken K_brings_all K_fewest_lays K_shows_fixed hr) (fun ds out _ h => h), gm, F.kp, b⟩⟩
end
end Pr
end

section
set_option linter.all false
namespace Pr
open PySem PySem.Spec PyProof.Rows L2 Zz
theorem broughtSame : g_brought = g__law_carried := rfl
def stepC (now : List Int) (i j : Nat) : List Int := (now.set i (if now.getD j 0 > now.getD i 0 then now.getD j 0 else now.getD i 0)).set j (if now.getD j 0 < now.getD i 0 then now.getD j 0 else now.getD i 0)
theorem fs_same : fs_brought = fs__law_carried := rfl
end Pr
end

section
set_option linter.all false
set_option maxRecDepth 100000
namespace Pr
open PySem PySem.Spec PyProof.Rows L2 Zz
abbrev rowD (ns : List Int) (a b c : Int) : Dat := .lst [.lst (ns.map Dat.int), .int a, .int b, .int c]
theorem ix4 (x0 x1 x2 x3 : Dat) : atI [x0, x1, x2, x3] 0 = some x0 ∧ atI [x0, x1, x2, x3] 1 = some x1 ∧ atI [x0, x1, x2, x3] 2 = some x2 ∧ atI [x0, x1, x2, x3] 3 = some x3 := ⟨rfl, rfl, rfl, rfl⟩
theorem ixn4 : ixN 4 0 = some 0 ∧ ixN 4 1 = some 1 ∧ ixN 4 2 = some 2 ∧ ixN 4 3 = some 3 := ⟨rfl, rfl, rfl, rfl⟩
theorem taken1 (ns : List Int) (a b c many : Int) (hc : 0 < c) (hm : 0 < many) (hM : many < 1073741824) :
    zDef (N__law_taken).length true g__law_taken [rowD ns a b c, .int many] = some (.int (c % many), false, rowD ns a b (c / many)) := by
  have i4 := ix4
  have n4 := ixn4
  simp [zDef, g__law_taken, zSeq, zIfS, zTB, zBin, zVar, zC, gIx, gGt, gII, argEnv, rdv, nrm, Zz.nrm, i4, n4, hc, pinB, zSet, zCallB, zCons, zNil, rdvs, gInt, gMod, hm, put, zAsg, gDiv, hM, esc, gSubL, zRet, fin]

theorem taken2 (ns : List Int) (a b c many : Int) (hc : ¬ 0 < c) (hl : (ns.length : Int) < a + 1) (hm : 0 < many) :
    zDef (N__law_taken).length true g__law_taken [rowD ns a b c, .int many] = some (.int ((b * 48271 + 11) % 2147483647 / 7 % many), false, rowD ns (a + 1) ((b * 48271 + 11) % 2147483647) c) := by
  have i4 := ix4
  have n4 := ixn4
  have s1 : smallB 48271 = true := by decide
  simp [zDef, g__law_taken, zSeq, zIfS, zTB, zBin, zVar, zC, gIx, gGt, gII, argEnv, rdv, nrm, Zz.nrm, i4, n4, hc, pinB, zSet, zCallB, zCons, zNil, rdvs, gInt, gMod, hm, put, zAsg, gDiv, esc, gSubL, zRet, fin, gAdd, gOr, zNext, gLen, hl, gMulX, gMul, s1]
theorem taken3 (ns : List Int) (k : Nat) (x b c many : Int) (hc : ¬ 0 < c) (hk : ns[k]? = some x) (hx : ¬ (10 : Int) ^ 18 ≤ x) (hm : 0 < many) :
    zDef (N__law_taken).length true g__law_taken [rowD ns k b c, .int many] = some (.int (x % many), false, rowD ns (k + 1) ((b * 48271 + x + 11) % 2147483647) c) := by
  have i4 := ix4
  have n4 := ixn4
  have s1 : smallB 48271 = true := by decide
  have hk' := (List.getElem?_eq_some_iff.mp hk).1
  have hl : ¬ ((ns.length : Int) < (k : Int) + 1) := by omega
  have e1 : (k : Int) + 1 - 1 = k := by omega
  have e2 : atI (ns.map Dat.int) (k : Int) = some (.int x) := by
    unfold atI ixN
    have h1 : (0 : Int) ≤ k := by omega
    have h2 : (k : Int) < (ns.map Dat.int).length := by rw [List.length_map]; omega
    rw [if_pos h1, if_pos h2]
    simp [hk]
  have e3 : ¬ (1000000000000000000 : Int) ≤ x := hx
  simp [zDef, g__law_taken, zSeq, zIfS, zTB, zBin, zVar, zC, gIx, gGt, gII, argEnv, rdv, nrm, Zz.nrm, i4, n4, hc, pinB, zSet, zCallB, zCons, zNil, rdvs, gInt, gMod, hm, put, zAsg, gDiv, esc, gSubL, zRet, fin, gAdd, gOr, zNext, gLen, hl, gMulX, gMul, s1, Zz.gSub, e1, e2, gPow, gGe, e3]
theorem taken4 (ns : List Int) (k : Nat) (x b c many : Int) (hc : ¬ 0 < c) (hk : ns[k]? = some x) (hx : (10 : Int) ^ 18 ≤ x) (hm : 0 < many) (hM : many < 1073741824) :
    zDef (N__law_taken).length true g__law_taken [rowD ns k b c, .int many] = some (.int (x % many), false, rowD ns (k + 1) ((b * 48271 + x + 11) % 2147483647) (x / many)) := by
  have i4 := ix4
  have n4 := ixn4
  have s1 : smallB 48271 = true := by decide
  have hk' := (List.getElem?_eq_some_iff.mp hk).1
  have hl : ¬ ((ns.length : Int) < (k : Int) + 1) := by omega
  have e1 : (k : Int) + 1 - 1 = k := by omega
  have e2 : atI (ns.map Dat.int) (k : Int) = some (.int x) := by
    unfold atI ixN
    have h1 : (0 : Int) ≤ k := by omega
    have h2 : (k : Int) < (ns.map Dat.int).length := by rw [List.length_map]; omega
    rw [if_pos h1, if_pos h2]
    simp [hk]
  have e3 : (1000000000000000000 : Int) ≤ x := hx
  simp [zDef, g__law_taken, zSeq, zIfS, zTB, zBin, zVar, zC, gIx, gGt, gII, argEnv, rdv, nrm, Zz.nrm, i4, n4, hc, pinB, zSet, zCallB, zCons, zNil, rdvs, gInt, gMod, hm, hM, put, zAsg, gDiv, esc, gSubL, zRet, fin, gAdd, gOr, zNext, gLen, hl, gMulX, gMul, s1, Zz.gSub, e1, e2, gPow, gGe, e3]
/-- what is taken: a number below many; the row keeps its shape -/
theorem taken (ns : List Int) (k : Nat) (b c many : Int) (hm : 0 < many) (hM : many < 1073741824) : ∃ (n : Int) (k' : Nat) (b' c' : Int), 0 ≤ n ∧ n < many ∧
    zDef (N__law_taken).length true g__law_taken [rowD ns k b c, .int many] = some (.int n, false, rowD ns k' b' c') := by
  by_cases hc : 0 < c
  · exact ⟨_, k, b, _, Int.emod_nonneg _ (by omega), Int.emod_lt_of_pos _ hm, taken1 ns k b c many hc hm hM⟩
  · by_cases hl : (ns.length : Int) < (k : Int) + 1
    · exact ⟨_, k + 1, _, c, Int.emod_nonneg _ (by omega), Int.emod_lt_of_pos _ hm, taken2 ns k b c many hc hl hm⟩
    · have hk : ns[k]? = some (ns[k]'(by omega)) := List.getElem?_eq_getElem _
      by_cases hx : (10 : Int) ^ 18 ≤ ns[k]'(by omega)
      · exact ⟨_, k + 1, _, _, Int.emod_nonneg _ (by omega), Int.emod_lt_of_pos _ hm, taken4 ns k _ b c many hc hk hx hm hM⟩
      · exact ⟨_, k + 1, _, c, Int.emod_nonneg _ (by omega), Int.emod_lt_of_pos _ hm, taken3 ns k _ b c many hc hk hx hm⟩
end Pr
end

section
set_option linter.all false
set_option maxRecDepth 100000
namespace Pr
open PySem PySem.Spec PyProof.Rows L2 Zz
abbrev intsL (l : List Int) : List Dat := l.map Dat.int
abbrev pairD (p : Nat × Nat) : Dat := .tup [.int p.1, .int p.2]
theorem atI_nat {l : List Int} {i : Nat} (h : i < l.length) : atI (l.map Dat.int) (i : Int) = some (.int (l.getD i 0)) := by
  unfold atI ixN
  have h1 : (0 : Int) ≤ i := by omega
  have h2 : (i : Int) < (l.map Dat.int).length := by rw [List.length_map]; omega
  rw [if_pos h1, if_pos h2]
  simp [h, List.getD]
theorem ixN_nat {n i : Nat} (h : i < n) : ixN n (i : Int) = some i := by
  unfold ixN
  rw [if_pos (by omega), if_pos (by omega)]
  simp
def stepL (now : List Int) (p : Nat × Nat) : List Int :=
  (now.set p.1 (if now.getD p.1 0 < now.getD p.2 0 then now.getD p.2 0 else now.getD p.1 0)).set p.2 (if now.getD p.2 0 < now.getD p.1 0 then now.getD p.2 0 else now.getD p.1 0)
theorem stepL_len (now : List Int) (p : Nat × Nat) : (stepL now p).length = now.length := by unfold stepL; simp
def carBody : SS := (zSeq (zAsg false (zTup (zCons (zCallB gMax2 (zCons (zBin gIx (zVar 2) (zVar 3)) (zCons (zBin gIx (zVar 2) (zVar 4)) (zNil)))) (zCons (zCallB gMin2 (zCons (zBin gIx (zVar 2) (zVar 3)) (zCons (zBin gIx (zVar 2) (zVar 4)) (zNil)))) (zNil)))) (gT [gSubL false 2 (zVar 3), gSubL false 2 (zVar 4)])) (zNext))
theorem car_turn (h l : Dat) (now : List Int) (i j : Nat) (hi : i < now.length) (hj : j < now.length) :
    carBody [some (.sh h), some (.sh l), some (.ow (.lst (now.map Dat.int))), some (.sh (.int i)), some (.sh (.int j))] =
      some (.next [some (.sh h), some (.sh l), some (.ow (.lst ((stepL now (i, j)).map Dat.int))), some (.sh (.int i)), some (.sh (.int j))]) := by
  have a1 := atI_nat hi
  have a2 := atI_nat hj
  have b1 := ixN_nat hi
  have b2 : ixN now.length (j : Int) = some j := ixN_nat hj
  have s : sizeOk 2 = true := rfl
  simp [carBody, zSeq, zAsg, zTup, zCons, zNil, zCallB, zBin, zVar, gIx, rdv, Zz.nrm, rdvs, gMax2, gMin2, escs, esc, gT, gTs, Zz.gSubL, a1, a2, b1, b2, pinB, zNext, s, stepL, List.map_set]
theorem zLoop_step {io : Bool} {g : SG} {f : SS} {d : Dat} {ds : List Dat} {env e1 e2 : En} (h1 : g d env = some e1) (h2 : f e1 = some (.next e2)) : zLoop io g f (d :: ds) env = zLoop io g f ds e2 := by
  show (match g d env with
    | some e1 => match f e1 with
      | some (.next e2) => zLoop io g f ds e2
      | some (.cnt e2) => zLoop io g f ds e2
      | some (.brk e2) => some (.next e2)
      | some (.ret r e2) => some (.ret r e2)
      | none => none
    | none => none) = _
  rw [h1]
  dsimp only
  rw [h2]
theorem car_loop (h l : Dat) : ∀ (ps : List (Nat × Nat)) (now : List Int) (x y : Option Sl), (∀ p ∈ ps, p.1 < now.length ∧ p.2 < now.length) →
    ∃ x' y', zLoop false (gT [gN false 3, gN false 4]) carBody (ps.map pairD) [some (.sh h), some (.sh l), some (.ow (.lst (now.map Dat.int))), x, y] =
      some (.next [some (.sh h), some (.sh l), some (.ow (.lst ((ps.foldl stepL now).map Dat.int))), x', y'])
  | [], now, x, y, _ => ⟨x, y, rfl⟩
  | p :: ps, now, x, y, hp => by
    obtain ⟨h1, h2⟩ := hp p List.mem_cons_self
    obtain ⟨x', y', e⟩ := car_loop h l ps (stepL now p) (some (.sh (.int p.1))) (some (.sh (.int p.2))) fun q hq => by
      rw [stepL_len]
      exact hp q (List.mem_cons_of_mem _ hq)
    refine ⟨x', y', ?_⟩
    rw [List.map_cons, List.foldl_cons, ← e]
    have t := car_turn h l now p.1 p.2 h1 h2
    exact zLoop_step (by simp [gT, gTs, gN, put]) t
theorem carried (now : List Int) (ps : List (Nat × Nat)) (hp : ∀ p ∈ ps, p.1 < now.length ∧ p.2 < now.length) :
    fs__law_carried.run [.tup (now.map Dat.int), .tup (ps.map pairD)] = some (.tup ((ps.foldl stepL now).map Dat.int), false, .non) := by
  show zDef (N__law_carried).length false g__law_carried [.tup (now.map Dat.int), .tup (ps.map pairD)] = _
  obtain ⟨x', y', e⟩ := car_loop (.tup (now.map Dat.int)) (.tup (ps.map pairD)) ps now none none hp
  have g : g__law_carried = zSeq (zSet false 2 (zCallB gList (zCons (zVar 0) (zNil)))) (zSeq (zFor false (zIt (zVar 1)) (gT [gN false 3, gN false 4]) carBody) (zSeq (zRet false (zCallB gTuple (zCons (zVar 2) (zNil)))) (zNext))) := rfl
  rw [g]
  simp [zDef, zSeq, zSet, zCallB, zCons, zNil, zVar, rdvs, rdv, Zz.nrm, gList, argEnv, pinB, put, zFor, zIt, esc, e, zRet, gTuple, fin]
end Pr
end

section
set_option linter.all false
set_option maxRecDepth 100000
namespace Pr
open PySem PySem.Spec PyProof.Rows L2 Zz
def colsOf : Nat → List (List Int)
  | 0 => [[]]
  | n + 1 => (colsOf n).flatMap fun c => [c ++ [0], c ++ [1]]
abbrev tupI (l : List Int) : Dat := .tup (l.map Dat.int)
theorem heaps1 : fs_all_heaps.run [.int 1] = some (.lst ((colsOf 1).map tupI), true, .non) := by rfl
theorem heaps2 : fs_all_heaps.run [.int 2] = some (.lst ((colsOf 2).map tupI), true, .non) := by rfl
theorem heaps3 : fs_all_heaps.run [.int 3] = some (.lst ((colsOf 3).map tupI), true, .non) := by rfl
theorem heaps4 : fs_all_heaps.run [.int 4] = some (.lst ((colsOf 4).map tupI), true, .non) := by rfl
theorem heaps5 : fs_all_heaps.run [.int 5] = some (.lst ((colsOf 5).map tupI), true, .non) := by rfl
theorem heaps (m : Nat) (h1 : 1 ≤ m) (h5 : m ≤ 5) : fs_all_heaps.run [.int m] = some (.lst ((colsOf m).map tupI), true, .non) := by
  obtain rfl | rfl | rfl | rfl | rfl : m = 1 ∨ m = 2 ∨ m = 3 ∨ m = 4 ∨ m = 5 := by omega
  · exact heaps1
  · exact heaps2
  · exact heaps3
  · exact heaps4
  · exact heaps5
theorem columns (m : Nat) (h1 : 1 ≤ m) (h5 : m ≤ 5) : fs__law_columns.run [.int m] = some (.lst ((colsOf m).map tupI), false, .non) := by
  obtain rfl | rfl | rfl | rfl | rfl : m = 1 ∨ m = 2 ∨ m = 3 ∨ m = 4 ∨ m = 5 := by omega
  all_goals rfl
end Pr
end

section
set_option linter.all false
set_option maxRecDepth 100000
namespace Pr
open PySem PySem.Spec PyProof.Rows L2 Zz
theorem dle_f (x y : Int) : PySem.W.dataLe false encP (.int x) (.int y) = decide (x ≤ y) := by
  show (!PySem.W.dataLt (.int y) (.int x)) = _
  rw [PySem.W.dataLt_int]
  by_cases h : y < x
  · simp [h]
  · simp [h]; omega
theorem dle_t (x y : Int) : PySem.W.dataLe true encP (.int x) (.int y) = decide (y ≤ x) := by
  show (!PySem.W.dataLt (.int x) (.int y)) = _
  rw [PySem.W.dataLt_int]
  by_cases h : x < y
  · simp [h]
  · simp [h]; omega
def upI (l : List Int) : List Int := l.mergeSort fun x y => decide (x ≤ y)
def dnI (l : List Int) : List Int := l.mergeSort fun x y => decide (y ≤ x)
theorem srt_up (l : List Int) : srtD false (l.map Dat.int) = (upI l).map Dat.int := (List.map_mergeSort fun a _ b _ => (dle_f a b).symm).symm
theorem srt_dn (l : List Int) : srtD true (l.map Dat.int) = (dnI l).map Dat.int := (List.map_mergeSort fun a _ b _ => (dle_t a b).symm).symm
theorem up_perm (l : List Int) : (upI l).Perm l := List.mergeSort_perm _ _
theorem dn_perm (l : List Int) : (dnI l).Perm l := List.mergeSort_perm _ _
theorem up_pw (l : List Int) : (upI l).Pairwise (· ≤ ·) := by
  have := List.pairwise_mergeSort (le := fun x y : Int => decide (x ≤ y)) (fun a b c h1 h2 => by simp at *; omega) (fun a b => by simp; omega) l
  exact this.imp fun h => by simpa using h
theorem dn_pw (l : List Int) : (dnI l).Pairwise (fun x y => y ≤ x) := by
  have := List.pairwise_mergeSort (le := fun x y : Int => decide (y ≤ x)) (fun a b c h1 h2 => by simp at *; omega) (fun a b => by simp; omega) l
  exact this.imp fun h => by simpa using h
/-- sorted(..)[::-1] of one order of the items is sorted(reverse=True) of another -/
theorem up_rev {l l' : List Int} (h : l.Perm l') : (upI l).reverse = dnI l' := by
  refine List.Perm.eq_of_pairwise (le := fun x y : Int => y ≤ x) (fun a b _ _ h1 h2 => by omega) ?_ (dn_pw l') ?_
  · rw [List.pairwise_reverse]
    exact up_pw l
  · exact ((List.reverse_perm _).trans (up_perm l)).trans (h.trans (dn_perm l').symm)
/-- a lay keeps the items -/
theorem stepL_perm (now : List Int) (p : Nat × Nat) (h1 : p.1 < now.length) (h2 : p.2 < now.length) (hne : p.1 ≠ p.2) : (stepL now p).Perm now := by
  unfold stepL
  have g1 : now.getD p.1 0 = now[p.1] := by simp [List.getD, h1]
  have g2 : now.getD p.2 0 = now[p.2] := by simp [List.getD, h2]
  rw [g1, g2]
  by_cases h : now[p.1] < now[p.2]
  · rw [if_pos h, if_neg (by omega)]
    exact List.set_set_perm h1 h2
  · rw [if_neg h]
    have e1 : now.set p.1 now[p.1] = now := List.set_getElem_self h1
    rw [e1]
    split
    · have e2 : now.set p.2 now[p.2] = now := List.set_getElem_self h2
      rw [e2]
    · have e3 : now[p.1] = now[p.2] := by omega
      rw [e3]
      have e2 : now.set p.2 now[p.2] = now := List.set_getElem_self h2
      rw [e2]
theorem carried_perm : ∀ (ps : List (Nat × Nat)) (now : List Int), (∀ p ∈ ps, p.1 < now.length ∧ p.2 < now.length ∧ p.1 ≠ p.2) → (ps.foldl stepL now).Perm now
  | [], now, _ => .refl _
  | p :: ps, now, h => by
    obtain ⟨h1, h2, h3⟩ := h p List.mem_cons_self
    have q := stepL_perm now p h1 h2 h3
    exact (carried_perm ps (stepL now p) fun r hr => by
      rw [stepL_len]
      exact h r (List.mem_cons_of_mem _ hr)).trans q
end Pr
end

section
set_option linter.all false
set_option maxRecDepth 100000
namespace Pr
open PySem PySem.Spec PyProof.Rows L2 Zz
theorem toPs_ints : ∀ l : List Int, toPs (l.map Dat.int) = some (l.map PyData.int)
  | [] => rfl
  | i :: l => by
    rw [List.map_cons, List.map_cons]
    unfold toPs
    rw [toPs_ints l]
    rfl
theorem lay_ints : ∀ l : List Int, PyData.canLayAll0 (l.map PyData.int) = true
  | [] => rfl
  | i :: l => by simp [PyData.canLayAll0, PyData.canLay0, lay_ints l]
theorem dep_ints : ∀ l : List Int, PyData.depthAll (l.map PyData.int) ≤ 1
  | [] => by simp [PyData.depthAll]
  | i :: l => by
    have := dep_ints l
    simp only [List.map_cons, PyData.depthAll, PyData.depth]
    omega
theorem eqv_ints : ∀ l l' : List Int, PyData.eqvAll (l.map PyData.int) (l'.map PyData.int) = decide (l = l')
  | [], [] => by simp [PyData.eqvAll]
  | [], _ :: _ => by simp [PyData.eqvAll]
  | _ :: _, [] => by simp [PyData.eqvAll]
  | i :: l, j :: l' => by
    simp [PyData.eqvAll, PyData.eqv, eqv_ints l l']
    rfl
theorem eqD_tupI (l l' : List Int) : eqD (tupI l) (tupI l') = some (decide (l = l')) := by
  unfold eqD
  have e1 : toP (tupI l) = some (.tuple (l.map PyData.int)) := by unfold toP; rw [toPs_ints]; rfl
  have e2 : toP (tupI l') = some (.tuple (l'.map PyData.int)) := by unfold toP; rw [toPs_ints]; rfl
  have d1 := dep_ints l
  have d2 := dep_ints l'
  rw [e1, e2]
  simp [SeqAt.shaped, PyData.canLay0, lay_ints, PyData.depth, PyData.eqv, eqv_ints]
  omega
theorem eqD_lstI (l l' : List Int) : eqD (.lst (l.map Dat.int)) (.lst (l'.map Dat.int)) = some (decide (l = l')) := by
  unfold eqD
  have e1 : toP (.lst (l.map Dat.int)) = some (.list (l.map PyData.int)) := by unfold toP; rw [toPs_ints]; rfl
  have e2 : toP (.lst (l'.map Dat.int)) = some (.list (l'.map PyData.int)) := by unfold toP; rw [toPs_ints]; rfl
  have d1 := dep_ints l
  have d2 := dep_ints l'
  rw [e1, e2]
  simp [SeqAt.shaped, PyData.canLay0, lay_ints, PyData.depth, PyData.eqv, eqv_ints]
  omega
end Pr
end

section
set_option linter.all false
set_option maxRecDepth 100000
namespace Pr
open PySem PySem.Spec PyProof.Rows L2 Zz
theorem srtOk_ints (l : List Int) (h : l.length ≤ 16777216) : srtOk (l.map Dat.int) = true := by
  unfold srtOk
  simp only [Bool.and_eq_true, Bool.or_eq_true, List.all_eq_true]
  refine ⟨⟨⟨fun d hd => ?_, fun a ha b hb => ?_⟩, .inr fun d hd => ?_⟩, by simpa [Zz.sizeOk] using h⟩
  · obtain ⟨i, _, rfl⟩ := List.mem_map.mp hd
    simp [toP, encP, PyData.depth]
  · obtain ⟨i, _, rfl⟩ := List.mem_map.mp ha
    obtain ⟨j, _, rfl⟩ := List.mem_map.mp hb
    rfl
  · obtain ⟨i, _, rfl⟩ := List.mem_map.mp hd
    rfl
/-- a filter by a list comprehension over the slot v -/
theorem lc_filter {α : Type} {g : SG} {t : ST} {fe : SE} {vs : List Nat} {D : α → Dat} {p : α → Bool} {E : En} {env1 : α → En} (hw : wipeE E vs = E) (hg : ∀ x, g (D x) E = some (env1 x)) (hf : ∀ x, fe (env1 x) = some (.val (D x), env1 x)) (hb : ∀ x, wipeE (env1 x) vs = E) :
    ∀ (l : List α) (acc : List Dat), acc.length + l.length ≤ 16777216 → (∀ x ∈ l, t (env1 x) = some (p x, env1 x)) → lcLoop g t fe vs (l.map D) E acc = some (acc ++ (l.filter p).map D, E)
  | [], acc, _, _ => by simp [lcLoop]
  | x :: l, acc, hz, ht => by
    simp only [List.length_cons] at hz
    rw [List.map_cons]
    unfold lcLoop
    rw [hg x]
    dsimp only
    rw [ht x List.mem_cons_self]
    cases hp : p x with
    | true =>
      dsimp only
      rw [hf x]
      dsimp only
      have e1 : esc (env1 x) (.val (D x)) = some (D x, env1 x) := rfl
      rw [e1]
      dsimp only
      have s : Zz.sizeOk (acc.length + 1) = true := by simp [Zz.sizeOk]; omega
      rw [if_pos s, hb x, lc_filter hw hg hf hb l (acc ++ [D x]) (by simp; omega) fun y hy => ht y (List.mem_cons_of_mem _ hy)]
      simp [List.filter_cons, hp]
    | false =>
      dsimp only
      rw [hb x, lc_filter hw hg hf hb l acc (by omega) fun y hy => ht y (List.mem_cons_of_mem _ hy)]
      simp [List.filter_cons, hp]

theorem cols_len : ∀ (m : Nat) (c : List Int), c ∈ colsOf m → c.length = m
  | 0, c, h => by
    simp [colsOf] at h
    rw [h]
    rfl
  | m + 1, c, h => by
    unfold colsOf at h
    obtain ⟨d, hd, q⟩ := List.mem_flatMap.mp h
    have := cols_len m d hd
    simp at q
    rcases q with q | q <;> (rw [q]; simp [this])
theorem flat_len : ∀ l : List (List Int), (l.flatMap fun c => [c ++ [0], c ++ [1]]).length = 2 * l.length
  | [] => rfl
  | c :: l => by
    rw [List.flatMap_cons, List.length_append, flat_len l]
    simp
    omega
theorem cols_count : ∀ m : Nat, (colsOf m).length = 2 ^ m
  | 0 => rfl
  | m + 1 => by
    unfold colsOf
    rw [flat_len, cols_count m, Nat.pow_succ]
    omega
theorem cols_few (m : Nat) (h5 : m ≤ 5) : (colsOf m).length ≤ 32 := by
  rw [cols_count]
  exact Nat.le_trans (Nat.pow_le_pow_right (by decide) h5) (by decide)
/-- lays that name two places of m -/
def LaysOk (m : Nat) (ps : List (Nat × Nat)) : Prop := ∀ p ∈ ps, p.1 < m ∧ p.2 < m ∧ p.1 ≠ p.2
def leftOf (m : Nat) (ps : List (Nat × Nat)) : List (List Int) := (colsOf m).filter fun c => !decide (ps.foldl stepL c = dnI c)
end Pr
end

section
set_option linter.all false
set_option maxRecDepth 100000
namespace Pr
open PySem PySem.Spec PyProof.Rows L2 Zz
theorem nb_test (m : Nat) (ps : List (Nat × Nat)) (hp : LaysOk m ps) (h5 : m ≤ 5) (c : List Int) (hc : c ∈ colsOf m) (L : Dat) (hL : L = .tup (ps.map pairD)) : zTB (zBin gNe (zCall fs_brought (zCons (zVar 2) (zCons (zVar 1) (zNil)))) (zCallB gTuple (zCons (zCallB (gSorted true) (zCons (zVar 2) (zNil))) (zNil))))
    [some (.sh (.int m)), some (.sh L), some (.sh (tupI c))] = some (!decide (ps.foldl stepL c = dnI c), [some (.sh (.int m)), some (.sh L), some (.sh (tupI c))]) := by
  have hl := cols_len m c hc
  have hb : fs_brought.run [tupI c, L] = some (tupI (ps.foldl stepL c), false, .non) := by
    rw [fs_same, hL]
    exact carried c ps fun p hq => by rw [hl]; exact ⟨(hp p hq).1, (hp p hq).2.1⟩
  have so := srtOk_ints c (by omega)
  have sd := srt_dn c
  have q := eqD_tupI (ps.foldl stepL c) (dnI c)
  have ar : fs_brought.ar = 2 := rfl
  have io : fs_brought.io = false := rfl
  generalize fs_brought = F at hb ar io ⊢
  simp only [zTB, zBin, zCall, zCons, zVar, zNil, List.getElem?_cons_zero, List.getElem?_cons_succ, Zz.nrm, escs, esc, io, ar, List.length_cons, List.length_nil, hb, resOf]
  simp [zCallB, zCons, zVar, zNil, rdvs, rdv, Zz.nrm, gSorted, so, sd, gTuple, gNe, q]
end Pr
end

section
set_option linter.all false
set_option maxRecDepth 100000
namespace Pr
open PySem PySem.Spec PyProof.Rows L2 Zz
theorem nb_any (t : ST) (F : FS) (m : Nat) (L : Dat) (p : List Int → Bool) (io : F.io = false) (ar : F.ar = 1) (h5 : m ≤ 5) (hH : F.run [.int m] = some (.lst ((colsOf m).map tupI), true, .non))
    (ht : ∀ c ∈ colsOf m, t [some (.sh (.int m)), some (.sh L), some (.sh (tupI c))] = some (p c, [some (.sh (.int m)), some (.sh L), some (.sh (tupI c))])) :
    zDef 3 false (zSeq (zRet false (zLc (zIt (zCall F (zCons (zVar 0) (zNil)))) (gN false 2) t (zVar 2) [2])) (zNext)) [.int m, L] = some (.lst (((colsOf m).filter p).map tupI), true, .non) := by
  have few : (([] : List Dat).length + (colsOf m).length) ≤ 16777216 := by
    have := cols_few m h5
    rw [List.length_nil]
    omega
  have e := lc_filter (g := gN false 2) (t := t) (fe := zVar 2) (vs := [2]) (D := tupI) (p := p) (E := [some (.sh (.int m)), some (.sh L), none]) (env1 := fun c => [some (.sh (.int m)), some (.sh L), some (.sh (tupI c))]) rfl (fun c => rfl) (fun c => rfl) (fun c => rfl) (colsOf m) [] few ht
  generalize colsOf m = cs at hH e ⊢
  simp [zDef, zSeq, zRet, zLc, zIt, zCall, zCons, zVar, zNil, argEnv, Zz.nrm, escs, esc, ar, io, hH, resOf, plainB, wipeE, e, unwipe, pinB, fin]
theorem not_brought (m : Nat) (ps : List (Nat × Nat)) (h1 : 1 ≤ m) (h5 : m ≤ 5) (hp : LaysOk m ps) :
    zDef (N_not_brought).length false g_not_brought [.int m, .tup (ps.map pairD)] = some (.lst ((leftOf m ps).map tupI), true, .non) :=
  nb_any _ fs_all_heaps m _ _ rfl rfl h5 (heaps m h1 h5) fun c hc => nb_test m ps hp h5 c hc _ rfl
end Pr
end

section
set_option linter.all false
set_option maxRecDepth 100000
set_option maxHeartbeats 1000000
namespace Pr
open PySem PySem.Spec PyProof.Rows L2 Zz
local macro_rules | `(tactic| array_get_dec) => `(tactic| first
  | with_reducible exact set_z
  | with_reducible apply set_s
  | ((with_reducible apply y_sh); exact rfl)
  | ((with_reducible apply y_ow); exact rfl)
  | ((with_reducible show rdv _ _ = some _); exact rfl)
  | with_reducible exact y_c
  | with_reducible exact nrm_v
  | with_reducible exact nrm_f
  | with_reducible exact nrm_b
  | with_reducible apply y_cons
  | ((with_reducible show zNil _ = _); exact y_nil)
  | ((with_reducible show rdvs _ _ = some _); exact rfl)
  | ((with_reducible show _ < List.length _); exact Nat.le_of_ble_eq_true rfl)
  | ((with_reducible show _ < List.length _); exact List.mem_range.mp ‹_›)
  | ((with_reducible show esc _ (R.val _) = _); exact esc_v)
  | with_reducible exact esc_f
  | ((with_reducible show escs _ [] = _); exact escs_nil)
  | with_reducible apply escs_cons
  | with_reducible apply y_bin
  | with_reducible apply y_callB
  | with_reducible exact wipe_nil
  | with_reducible apply wipe_cons
  | ((with_reducible apply esc_bo); (exact rfl))
  | ((with_reducible apply esc_bs); (exact rfl))
  | ((with_reducible show ∀ _, esc _ _ = some _); exact fun _ => rfl)
  | ((with_reducible show ∀ _ _, esc _ _ = some _); exact fun _ _ => rfl)
  | with_reducible apply y_tb
  | with_reducible apply y_tru
  | with_reducible apply y_tnot
  | with_reducible apply y_tand
  | with_reducible apply y_tor
  | with_reducible apply y_andV
  | with_reducible apply y_orV
  | with_reducible apply y_oft
  | with_reducible apply y_chain
  | with_reducible apply y_un
  | with_reducible apply y_rev
  | with_reducible apply y_revV
  | with_reducible apply y_tup
  | with_reducible apply y_lst
  | with_reducible apply y_sl
  | with_reducible exact y_nop
  | with_reducible apply y_p
  | with_reducible exact g_addI
  | with_reducible exact g_subI
  | with_reducible exact g_eqI
  | with_reducible exact g_eqNilT
  | with_reducible exact alk_int
  | with_reducible exact alk_bl
  | with_reducible exact alk_non
  | with_reducible apply alk_tup
  | with_reducible apply alk_lst
  | with_reducible apply alk_lstR
  | with_reducible apply alk_tupR
  | with_reducible exact alk_nil
  | with_reducible apply alk_cons
  | with_reducible exact g_eqNil eqe_nat (by decide) _
  | with_reducible exact g_eqNil eqe_int (by decide) _
  | with_reducible exact g_neNil eqe_nat (by decide) _
  | with_reducible exact g_neNil eqe_int (by decide) _
  | with_reducible exact g_neI
  | with_reducible exact g_eqB
  | with_reducible exact g_neB
  | with_reducible exact g_eqR
  | with_reducible exact g_neR
  | with_reducible exact g_eqLI
  | with_reducible exact g_neLI
  | with_reducible exact g_eqLR
  | with_reducible exact g_ltI
  | with_reducible exact g_leI
  | with_reducible exact g_gtI
  | with_reducible exact g_geI
  | ((with_reducible show gIx (.tup (_ :: _)) _ = some _); exact rfl)
  | ((with_reducible show gIx (.lst (_ :: _)) _ = some _); exact rfl)
  | with_reducible apply g_ixT
  | with_reducible apply g_ixL
  | with_reducible apply g_ixT0
  | with_reducible apply g_ixR
  | with_reducible apply g_ixRL
  | with_reducible apply g_ixL0
  | with_reducible apply g_addT
  | with_reducible apply g_addL
  | with_reducible apply g_modI
  | with_reducible apply g_divI
  | with_reducible exact isiX_dct_int
  | with_reducible exact isiX_dct_bool
  | with_reducible exact isiX_dct_tuple
  | with_reducible exact isiX_dct_list
  | with_reducible exact isiX_dct_str
  | with_reducible exact y_dict0
  | with_reducible apply isiX_of
  | with_reducible exact isi_non_int
  | with_reducible exact isi_non_bool
  | with_reducible exact isi_non_tuple
  | with_reducible exact isi_non_list
  | with_reducible exact isi_non_str
  | with_reducible exact isi_non_tl
  | with_reducible exact isi_bl_int
  | with_reducible exact isi_bl_bool
  | with_reducible exact isi_bl_tuple
  | with_reducible exact isi_bl_list
  | with_reducible exact isi_bl_str
  | with_reducible exact isi_bl_tl
  | with_reducible exact isi_int_int
  | with_reducible exact isi_int_bool
  | with_reducible exact isi_int_tuple
  | with_reducible exact isi_int_list
  | with_reducible exact isi_int_str
  | with_reducible exact isi_int_tl
  | with_reducible exact isi_str_int
  | with_reducible exact isi_str_bool
  | with_reducible exact isi_str_tuple
  | with_reducible exact isi_str_list
  | with_reducible exact isi_str_str
  | with_reducible exact isi_str_tl
  | with_reducible exact isi_tup_int
  | with_reducible exact isi_tup_bool
  | with_reducible exact isi_tup_tuple
  | with_reducible exact isi_tup_list
  | with_reducible exact isi_tup_str
  | with_reducible exact isi_tup_tl
  | with_reducible exact isi_lst_int
  | with_reducible exact isi_lst_bool
  | with_reducible exact isi_lst_tuple
  | with_reducible exact isi_lst_list
  | with_reducible exact isi_lst_str
  | with_reducible exact isi_lst_tl
  | ((with_reducible show truD _ = some _); exact rfl)
  | with_reducible exact g_lenL
  | with_reducible exact g_lenT
  | ((with_reducible show gLen _ = some _); exact rfl)
  | ((with_reducible show gMax2 _ = some _); exact rfl)
  | ((with_reducible show gMin2 _ = some _); exact rfl)
  | ((with_reducible show gInt _ = some _); exact rfl)
  | ((with_reducible show gList _ = some _); exact rfl)
  | ((with_reducible show gTuple _ = some _); exact rfl)
  | with_reducible exact g_revM
  | with_reducible exact g_revVL
  | with_reducible exact g_revVT
  | ((with_reducible show gRevV _ = some _); exact rfl)
  | with_reducible exact g_negI
  | ((with_reducible show gRev _ = some _); exact rfl)
  | with_reducible exact g_slTo
  | with_reducible exact g_slBT
  | with_reducible exact g_slBL
  | ((with_reducible apply g_slFT); first | exact rfl | omega)
  | ((with_reducible apply g_slFL); first | exact rfl | omega)
  | ((with_reducible apply g_slUT); first | exact rfl | omega)
  | ((with_reducible apply g_slUL); first | exact rfl | omega)
  | with_reducible apply g_slOne
  | ((with_reducible show gSl _ _ _ = some _); exact rfl)
  | ((with_reducible show gIs _ _ = some _); exact rfl)
  | ((with_reducible show gIsNot _ _ = some _); exact rfl)
  | ((with_reducible show List.length _ = FS.ar _); exact rfl)
  | ((with_reducible show FS.io _ = _); exact rfl)
  | ((with_reducible show _ = (R.bor _ :: _)); exact rfl)
  | ((with_reducible show List.length _ + 1 = FS.ar _); exact rfl)
  | ((with_reducible show Zz.sizeOk _ = true); first | exact rfl | (simp [Zz.sizeOk]; done) | (simp [Zz.sizeOk]; omega))
  | with_reducible apply y_lcy
  | with_reducible apply y_lc
  | with_reducible apply y_tgy
  | with_reducible apply y_tg
  | with_reducible apply y_all
  | ((with_reducible show plainB _ _ = true); exact rfl)
  | ((with_reducible show ∀ _, wipeE _ _ = _); exact fun _ => rfl)
  | ((with_reducible show ∀ _ _, wipeE _ _ = _); exact fun _ _ => rfl)
  | with_reducible apply y_gN
  | with_reducible apply y_gNio
  | with_reducible apply y_gT
  | with_reducible exact y_gTn
  | with_reducible apply y_gTc
  | with_reducible apply y_it
  | with_reducible exact itD_vL
  | with_reducible exact itD_vT
  | with_reducible exact itD_fL
  | ((with_reducible apply itD_bo); (exact rfl))
  | with_reducible exact natOf_cast
  | with_reducible exact natOf_sub
  | with_reducible exact natOf_sub1
  | with_reducible exact natOf_add1
  | with_reducible exact natOf_lit
  | ((with_reducible show NatOf _ _); exact rfl)
  | with_reducible apply y_rng1
  | with_reducible apply y_rng2
  | with_reducible apply y_zipT
  | with_reducible apply y_listRng
  | with_reducible apply y_enumT
  | with_reducible apply body_next
  | with_reducible apply run_set
  | with_reducible apply run_drop
  | with_reducible apply run_ret
  | with_reducible apply run_if
  | with_reducible apply run_assoc
  | with_reducible apply run_nop
  | with_reducible apply run_retN
  | with_reducible apply run_end
  | ((with_reducible show pinB _ _ = true); exact rfl)
  | ((with_reducible show fin _ _ = some _); exact rfl)
  | with_reducible apply is_of
  | ((with_reducible show _[_]? = some (some (Sl.ow _))); exact rfl)
  | with_reducible apply y_app
  | with_reducible apply y_popI
  | with_reducible exact s_next
  | with_reducible apply s_nextE
  | with_reducible apply s_seq
  | with_reducible apply s_if
  | with_reducible apply s_set
  | with_reducible apply s_drop
  | with_reducible apply s_par
  | with_reducible apply run_par
  | with_reducible apply run_asg
  | with_reducible apply s_asg
  | with_reducible apply y_subL
  | ((with_reducible show nrmB _ = true); exact rfl)
  | with_reducible apply put_v
  | with_reducible apply put_b
  | ((with_reducible show (_ && _) = false); exact rfl)
  | with_reducible apply put_f
  | with_reducible apply put_vio
  | with_reducible apply put_fio
  | ((with_reducible show (_ = true) → _); intro h__; first | (exfalso; revert h__; simp; done) | skip)
  | ((with_reducible show (_ = false) → _); intro h__; first | (exfalso; revert h__; simp; done) | skip)
  | ((with_reducible show (_ : Int) ≤ _); first | omega | (simp; done) | (simp; omega))
  | ((with_reducible show (_ : Int) < _); first | omega | (simp; done) | (simp; omega))
  | ((with_reducible show (_ : Nat) ≤ _); first | omega | (simp; done) | (simp; omega))
  | ((with_reducible show (_ : Nat) < _); first | omega | (simp; done) | (simp; omega))
  | intro _)
/-- values of any kind that are handed in -/
def AnyV : Dat → Prop
  | .set _ => False
  | .fn _ => False
  | .ty _ => False
  | _ => True
def numB (d : Dat) (lo hi : Int) : Bool := match d with
  | .int i => decide (lo ≤ i) && decide (i ≤ hi)
  | _ => false
theorem e_is_number (d : Dat) (hd : AnyV d) (lo hi : Int) : fs_is_number.run [d, .int lo, .int hi] = some (.bl (numB d lo hi), false, .non) := by
  refine rd_is_number ?_
  unfold g_is_number
  cases d
  case set => exact hd.elim
  case fn => exact hd.elim
  case ty => exact hd.elim
  case non => (repeat' array_get_dec); all_goals first | exact true | simp [numB]
  case bl => (repeat' (first | ((with_reducible show zAndV (zOfT _) _ _ = _); apply y_andVf) | ((with_reducible show (!_) = false); rfl) | array_get_dec)); all_goals first | exact true | simp [numB]
  case int => (repeat' array_get_dec); all_goals first | exact true | simp [numB]
  case str => (repeat' array_get_dec); all_goals first | exact true | simp [numB]
  case tup => (repeat' array_get_dec); all_goals first | exact true | simp [numB]
  case lst => (repeat' array_get_dec); all_goals first | exact true | simp [numB]
  case dct => (repeat' array_get_dec); all_goals first | exact true | simp [numB]
def tupB (d : Dat) (lo hi : Int) : Bool := match d with
  | .tup l => decide (lo ≤ l.length) && decide ((l.length : Int) ≤ hi)
  | _ => false
theorem e_is_tuple (d : Dat) (hd : AnyV d) (lo hi : Int) : fs_is_tuple.run [d, .int lo, .int hi] = some (.bl (tupB d lo hi), false, .non) := by
  refine rd_is_tuple ?_
  unfold g_is_tuple
  cases d
  case set => exact hd.elim
  case fn => exact hd.elim
  case ty => exact hd.elim
  case non => (repeat' array_get_dec); all_goals first | exact true | simp [tupB]
  case bl => (repeat' array_get_dec); all_goals first | exact true | simp [tupB]
  case int => (repeat' array_get_dec); all_goals first | exact true | simp [tupB]
  case str => (repeat' array_get_dec); all_goals first | exact true | simp [tupB]
  case tup => (repeat' array_get_dec); all_goals first | exact true | simp [tupB]
  case lst => (repeat' array_get_dec); all_goals first | exact true | simp [tupB]
  case dct => (repeat' array_get_dec); all_goals first | exact true | simp [tupB]
def layB (m : Nat) (d : Dat) : Bool := match d with
  | .tup [a, b] => numB a 0 ((m : Int) - 1) && numB b 0 ((m : Int) - 1) && (match a, b with
    | .int i, .int j => !decide (i = j)
    | _, _ => false)
  | _ => false
/-- and their items, too *-/
def AnyT : Dat → Prop
  | .tup l => ∀ x ∈ l, AnyV x
  | d => AnyV d
theorem AnyT.any {d : Dat} (h : AnyT d) : AnyV d := by cases d <;> first | exact h | trivial
theorem numB_int {d : Dat} {lo hi : Int} (h : numB d lo hi = true) : ∃ i, d = .int i ∧ lo ≤ i ∧ i ≤ hi := by
  cases d <;> simp [numB] at h
  exact ⟨_, rfl, h⟩
theorem e_is_lay (d : Dat) (hd : AnyT d) (m : Nat) : fs_is_lay.run [d, .int (m : Int)] = some (.bl (layB m d), false, .non) := by
  refine rd_is_lay ?_
  unfold g_is_lay
  have ht := e_is_tuple d hd.any 2 2
  by_cases h2 : ∃ a b, d = .tup [a, b]
  · obtain ⟨a, b, rfl⟩ := h2
    have hn : ∀ x ∈ [a, b], fs_is_number.run [x, .int 0, .int ((m : Int) - 1)] = some (.bl (numB x 0 ((m : Int) - 1)), false, .non) := fun x hx => e_is_number x (hd x hx) _ _
    have ht : fs_is_tuple.run [.tup [a, b], .int 2, .int 2] = some (.bl true, false, .non) := ht
    by_cases hp : (numB a 0 ((m : Int) - 1) && numB b 0 ((m : Int) - 1)) = true
    · rw [Bool.and_eq_true] at hp
      obtain ⟨i, rfl, i1, i2⟩ := numB_int hp.1
      obtain ⟨j, rfl, j1, j2⟩ := numB_int hp.2
      repeat' (first | with_reducible apply y_allR | array_get_dec | with_reducible apply y_callV (hr := ht) | with_reducible apply y_callV (hr := hn _ ‹_›))
      all_goals simp [layB, List.all]
    · have hf : ([a, b].all fun x => numB x 0 ((m : Int) - 1)) = false := by simpa [List.all] using hp
      repeat' (first | with_reducible apply y_allR | ((with_reducible show (_ = true) → _); intro h__; exfalso; rw [hf] at h__; exact Bool.noConfusion h__) | array_get_dec | with_reducible apply y_callV (hr := ht) | with_reducible apply y_callV (hr := hn _ ‹_›))
      all_goals first | exact true | skip
      have hq : (numB a 0 ((m : Int) - 1) && numB b 0 ((m : Int) - 1)) = false := by simpa using hp
      rw [hf]
      show _ = Dat.bl (numB a 0 ((m : Int) - 1) && numB b 0 ((m : Int) - 1) && _)
      rw [hq]; simp
  · have h0 : tupB d 2 2 = false := by
      cases d <;> try rfl
      rename_i l
      match l, h2 with
      | [], _ => rfl
      | [a], _ => rfl
      | [a, b], h => exact absurd ⟨a, b, rfl⟩ h
      | a :: b :: c :: t, _ => simp [tupB]; omega
    have h1 : layB m d = false := by
      unfold layB
      split
      · rename_i a b; exact absurd ⟨a, b, rfl⟩ h2
      · rfl
    rw [h0] at ht
    rw [h1]
    repeat' (first | array_get_dec | with_reducible apply y_callV (hr := ht))
    all_goals first | exact true | simp
def laysB (m : Nat) (d : Dat) : Bool := match d with
  | .tup l => decide (l.length ≤ 60) && l.all (layB m)
  | _ => false
def AnyL : Dat → Prop
  | .tup l => ∀ x ∈ l, AnyT x
  | d => AnyV d
theorem AnyL.any {d : Dat} (h : AnyL d) : AnyV d := by cases d <;> first | exact h | trivial
theorem e_is_lays (d : Dat) (hd : AnyL d) (m : Nat) : fs_is_lays.run [d, .int (m : Int)] = some (.bl (laysB m d), false, .non) := by
  refine rd_is_lays ?_
  unfold g_is_lays
  by_cases h2 : ∃ l, d = .tup l
  · obtain ⟨l, rfl⟩ := h2
    have ht : fs_is_tuple.run [.tup l, .int 0, .int 60] = some (.bl (decide (l.length ≤ 60)), false, .non) := by
      have := e_is_tuple (.tup l) trivial 0 60
      rw [this]
      have e : tupB (.tup l) 0 60 = decide (l.length ≤ 60) := by
        show (decide ((0 : Int) ≤ l.length) && decide ((l.length : Int) ≤ 60)) = _
        rw [decide_eq_true (by omega), Bool.true_and]
        exact decide_eq_decide.mpr (by omega)
      rw [e]
    have hn : ∀ x ∈ l, fs_is_lay.run [x, .int (m : Int)] = some (.bl (layB m x), false, .non) := fun x hx => e_is_lay x (hd x hx) m
    repeat' (first | with_reducible apply y_allR | array_get_dec | with_reducible apply y_callV (hr := ht) | with_reducible apply y_callV (hr := hn _ ‹_›))
    all_goals first | (have := of_decide_eq_true ‹decide (l.length ≤ 60) = true›; omega) | rfl
  · have h0 : tupB d 0 60 = false := by
      cases d <;> first | rfl | exact absurd ⟨_, rfl⟩ h2
    have h1 : laysB m d = false := by
      cases d <;> first | rfl | exact absurd ⟨_, rfl⟩ h2
    have ht := e_is_tuple d hd.any 0 60
    rw [h0] at ht
    rw [h1]
    repeat' (first | array_get_dec | with_reducible apply y_callV (hr := ht))
    all_goals first | exact true | simp
/-- such a value is lays -/
theorem lays_of {m : Nat} {l : List Dat} (h : l.all (layB m) = true) : ∃ ps : List (Nat × Nat), l = ps.map (fun p => Dat.tup [.int (p.1 : Int), .int (p.2 : Int)]) ∧ ∀ p ∈ ps, p.1 < m ∧ p.2 < m ∧ p.1 ≠ p.2 := by
  induction l with
  | nil => exact ⟨[], rfl, fun p hp => absurd hp List.not_mem_nil⟩
  | cons d l ih =>
    rw [List.all_cons, Bool.and_eq_true] at h
    obtain ⟨ps, e, q⟩ := ih h.2
    have h1 := h.1
    unfold layB at h1
    split at h1
    · rename_i a b
      rw [Bool.and_eq_true, Bool.and_eq_true] at h1
      obtain ⟨i, rfl, i1, i2⟩ := numB_int h1.1.1
      obtain ⟨j, rfl, j1, j2⟩ := numB_int h1.1.2
      have hne : i ≠ j := by simpa using h1.2
      refine ⟨(i.toNat, j.toNat) :: ps, ?_, fun p hp => ?_⟩
      · rw [List.map_cons, e]; dsimp only
        have e1 : ((i.toNat : Nat) : Int) = i := by omega
        have e2 : ((j.toNat : Nat) : Int) = j := by omega
        rw [e1, e2]
      · rcases List.mem_cons.mp hp with rfl | hp
        · dsimp only; omega
        · exact q p hp
    · cases h1
end Pr
end

section
set_option linter.all false
set_option maxRecDepth 100000
set_option maxHeartbeats 1000000
namespace Pr
open PySem PySem.Spec PyProof.Rows L2 Zz
local macro_rules | `(tactic| array_get_dec) => `(tactic| first
  | with_reducible exact set_z
  | with_reducible apply set_s
  | ((with_reducible apply y_sh); exact rfl)
  | ((with_reducible apply y_ow); exact rfl)
  | ((with_reducible show rdv _ _ = some _); exact rfl)
  | with_reducible exact y_c
  | with_reducible exact nrm_v
  | with_reducible exact nrm_f
  | with_reducible exact nrm_b
  | with_reducible apply y_cons
  | ((with_reducible show zNil _ = _); exact y_nil)
  | ((with_reducible show rdvs _ _ = some _); exact rfl)
  | ((with_reducible show _ < List.length _); exact Nat.le_of_ble_eq_true rfl)
  | ((with_reducible show _ < List.length _); exact List.mem_range.mp ‹_›)
  | ((with_reducible show esc _ (R.val _) = _); exact esc_v)
  | with_reducible exact esc_f
  | ((with_reducible show escs _ [] = _); exact escs_nil)
  | with_reducible apply escs_cons
  | with_reducible apply y_bin
  | with_reducible apply y_callB
  | with_reducible exact wipe_nil
  | with_reducible apply wipe_cons
  | ((with_reducible apply esc_bo); (exact rfl))
  | ((with_reducible apply esc_bs); (exact rfl))
  | ((with_reducible show ∀ _, esc _ _ = some _); exact fun _ => rfl)
  | ((with_reducible show ∀ _ _, esc _ _ = some _); exact fun _ _ => rfl)
  | with_reducible apply y_tb
  | with_reducible apply y_tru
  | with_reducible apply y_tnot
  | with_reducible apply y_tand
  | with_reducible apply y_tor
  | with_reducible apply y_andV
  | with_reducible apply y_orV
  | with_reducible apply y_oft
  | with_reducible apply y_chain
  | with_reducible apply y_un
  | with_reducible apply y_rev
  | with_reducible apply y_revV
  | with_reducible apply y_tup
  | with_reducible apply y_lst
  | with_reducible apply y_sl
  | with_reducible exact y_nop
  | with_reducible apply y_p
  | with_reducible exact g_addI
  | with_reducible exact g_subI
  | with_reducible exact g_eqI
  | with_reducible exact g_eqNilT
  | with_reducible exact alk_int
  | with_reducible exact alk_bl
  | with_reducible exact alk_non
  | with_reducible apply alk_tup
  | with_reducible apply alk_lst
  | with_reducible apply alk_lstR
  | with_reducible apply alk_tupR
  | with_reducible exact alk_nil
  | with_reducible apply alk_cons
  | with_reducible exact g_eqNil eqe_nat (by decide) _
  | with_reducible exact g_eqNil eqe_int (by decide) _
  | with_reducible exact g_neNil eqe_nat (by decide) _
  | with_reducible exact g_neNil eqe_int (by decide) _
  | with_reducible exact g_neI
  | with_reducible exact g_eqB
  | with_reducible exact g_neB
  | with_reducible exact g_eqR
  | with_reducible exact g_neR
  | with_reducible exact g_eqLI
  | with_reducible exact g_neLI
  | with_reducible exact g_eqLR
  | with_reducible exact g_ltI
  | with_reducible exact g_leI
  | with_reducible exact g_gtI
  | with_reducible exact g_geI
  | ((with_reducible show gIx (.tup (_ :: _)) _ = some _); exact rfl)
  | ((with_reducible show gIx (.lst (_ :: _)) _ = some _); exact rfl)
  | with_reducible apply g_ixT
  | with_reducible apply g_ixL
  | with_reducible apply g_ixT0
  | with_reducible apply g_ixR
  | with_reducible apply g_ixRL
  | with_reducible apply g_ixL0
  | with_reducible apply g_addT
  | with_reducible apply g_addL
  | with_reducible apply g_modI
  | with_reducible apply g_divI
  | with_reducible exact isiX_dct_int
  | with_reducible exact isiX_dct_bool
  | with_reducible exact isiX_dct_tuple
  | with_reducible exact isiX_dct_list
  | with_reducible exact isiX_dct_str
  | with_reducible exact y_dict0
  | with_reducible apply isiX_of
  | with_reducible exact isi_non_int
  | with_reducible exact isi_non_bool
  | with_reducible exact isi_non_tuple
  | with_reducible exact isi_non_list
  | with_reducible exact isi_non_str
  | with_reducible exact isi_non_tl
  | with_reducible exact isi_bl_int
  | with_reducible exact isi_bl_bool
  | with_reducible exact isi_bl_tuple
  | with_reducible exact isi_bl_list
  | with_reducible exact isi_bl_str
  | with_reducible exact isi_bl_tl
  | with_reducible exact isi_int_int
  | with_reducible exact isi_int_bool
  | with_reducible exact isi_int_tuple
  | with_reducible exact isi_int_list
  | with_reducible exact isi_int_str
  | with_reducible exact isi_int_tl
  | with_reducible exact isi_str_int
  | with_reducible exact isi_str_bool
  | with_reducible exact isi_str_tuple
  | with_reducible exact isi_str_list
  | with_reducible exact isi_str_str
  | with_reducible exact isi_str_tl
  | with_reducible exact isi_tup_int
  | with_reducible exact isi_tup_bool
  | with_reducible exact isi_tup_tuple
  | with_reducible exact isi_tup_list
  | with_reducible exact isi_tup_str
  | with_reducible exact isi_tup_tl
  | with_reducible exact isi_lst_int
  | with_reducible exact isi_lst_bool
  | with_reducible exact isi_lst_tuple
  | with_reducible exact isi_lst_list
  | with_reducible exact isi_lst_str
  | with_reducible exact isi_lst_tl
  | ((with_reducible show truD _ = some _); exact rfl)
  | with_reducible exact g_lenL
  | with_reducible exact g_lenT
  | ((with_reducible show gLen _ = some _); exact rfl)
  | ((with_reducible show gMax2 _ = some _); exact rfl)
  | ((with_reducible show gMin2 _ = some _); exact rfl)
  | ((with_reducible show gInt _ = some _); exact rfl)
  | ((with_reducible show gList _ = some _); exact rfl)
  | ((with_reducible show gTuple _ = some _); exact rfl)
  | with_reducible exact g_revM
  | with_reducible exact g_revVL
  | with_reducible exact g_revVT
  | ((with_reducible show gRevV _ = some _); exact rfl)
  | with_reducible exact g_negI
  | ((with_reducible show gRev _ = some _); exact rfl)
  | with_reducible exact g_slTo
  | with_reducible exact g_slBT
  | with_reducible exact g_slBL
  | ((with_reducible apply g_slFT); first | exact rfl | omega)
  | ((with_reducible apply g_slFL); first | exact rfl | omega)
  | ((with_reducible apply g_slUT); first | exact rfl | omega)
  | ((with_reducible apply g_slUL); first | exact rfl | omega)
  | with_reducible apply g_slOne
  | ((with_reducible show gSl _ _ _ = some _); exact rfl)
  | ((with_reducible show gIs _ _ = some _); exact rfl)
  | ((with_reducible show gIsNot _ _ = some _); exact rfl)
  | ((with_reducible show List.length _ = FS.ar _); exact rfl)
  | ((with_reducible show FS.io _ = _); exact rfl)
  | ((with_reducible show _ = (R.bor _ :: _)); exact rfl)
  | ((with_reducible show List.length _ + 1 = FS.ar _); exact rfl)
  | ((with_reducible show Zz.sizeOk _ = true); first | exact rfl | (simp [Zz.sizeOk]; done) | (simp [Zz.sizeOk]; omega))
  | with_reducible apply y_lcy
  | with_reducible apply y_lc
  | with_reducible apply y_tgy
  | with_reducible apply y_tg
  | with_reducible apply y_all
  | ((with_reducible show plainB _ _ = true); exact rfl)
  | ((with_reducible show ∀ _, wipeE _ _ = _); exact fun _ => rfl)
  | ((with_reducible show ∀ _ _, wipeE _ _ = _); exact fun _ _ => rfl)
  | with_reducible apply y_gN
  | with_reducible apply y_gNio
  | with_reducible apply y_gT
  | with_reducible exact y_gTn
  | with_reducible apply y_gTc
  | with_reducible apply y_it
  | with_reducible exact itD_vL
  | with_reducible exact itD_vT
  | with_reducible exact itD_fL
  | ((with_reducible apply itD_bo); (exact rfl))
  | with_reducible exact natOf_cast
  | with_reducible exact natOf_sub
  | with_reducible exact natOf_sub1
  | with_reducible exact natOf_add1
  | with_reducible exact natOf_lit
  | ((with_reducible show NatOf _ _); exact rfl)
  | with_reducible apply y_rng1
  | with_reducible apply y_rng2
  | with_reducible apply y_zipT
  | with_reducible apply y_listRng
  | with_reducible apply y_enumT
  | with_reducible apply body_next
  | with_reducible apply run_set
  | with_reducible apply run_drop
  | with_reducible apply run_ret
  | with_reducible apply run_if
  | with_reducible apply run_assoc
  | with_reducible apply run_nop
  | with_reducible apply run_retN
  | with_reducible apply run_end
  | ((with_reducible show pinB _ _ = true); exact rfl)
  | ((with_reducible show fin _ _ = some _); exact rfl)
  | with_reducible apply is_of
  | ((with_reducible show _[_]? = some (some (Sl.ow _))); exact rfl)
  | with_reducible apply y_app
  | with_reducible apply y_popI
  | with_reducible exact s_next
  | with_reducible apply s_nextE
  | with_reducible apply s_seq
  | with_reducible apply s_if
  | with_reducible apply s_set
  | with_reducible apply s_drop
  | with_reducible apply s_par
  | with_reducible apply run_par
  | with_reducible apply run_asg
  | with_reducible apply s_asg
  | with_reducible apply y_subL
  | ((with_reducible show nrmB _ = true); exact rfl)
  | with_reducible apply put_v
  | with_reducible apply put_b
  | ((with_reducible show (_ && _) = false); exact rfl)
  | with_reducible apply put_f
  | with_reducible apply put_vio
  | with_reducible apply put_fio
  | ((with_reducible show (_ = true) → _); intro h__; first | (exfalso; revert h__; simp; done) | skip)
  | ((with_reducible show (_ = false) → _); intro h__; first | (exfalso; revert h__; simp; done) | skip)
  | ((with_reducible show (_ : Int) ≤ _); first | omega | (simp; done) | (simp; omega))
  | ((with_reducible show (_ : Int) < _); first | omega | (simp; done) | (simp; omega))
  | ((with_reducible show (_ : Nat) ≤ _); first | omega | (simp; done) | (simp; omega))
  | ((with_reducible show (_ : Nat) < _); first | omega | (simp; done) | (simp; omega))
  | intro _)
theorem e_check_number (d : Dat) (hd : AnyV d) (lo hi : Int) (h : numB d lo hi = true) : fs_check_number.run [d, .int lo, .int hi] = some (.non, false, .non) := by
  refine rd_check_number ?_
  unfold g_check_number
  have e := e_is_number d hd lo hi
  rw [h] at e
  repeat' (first | array_get_dec | with_reducible apply y_callV (hr := e))
  all_goals rfl
theorem numB_nat {m : Nat} {lo hi : Int} (h1 : lo ≤ m) (h2 : (m : Int) ≤ hi) : numB (.int (m : Int)) lo hi = true := by
  show (decide _ && decide _) = true
  rw [decide_eq_true h1, decide_eq_true h2]; rfl
theorem e_check_lays (m : Nat) (ps : List (Nat × Nat)) (hl : ps.length ≤ 60) (hp : LaysOk m ps) : fs_check_lays.run [.tup (ps.map pairD), .int (m : Int)] = some (.non, false, .non) := by
  refine rd_check_lays ?_
  unfold g_check_lays
  have ht : fs_is_tuple.run [.tup (ps.map pairD), .int 0, .int 60] = some (.bl true, false, .non) := by
    rw [e_is_tuple (.tup (ps.map pairD)) trivial]
    have : tupB (.tup (ps.map pairD)) 0 60 = true := by
      show (decide ((0 : Int) ≤ ((ps.map pairD).length : Nat)) && decide (((ps.map pairD).length : Int) ≤ 60)) = true
      rw [List.length_map, decide_eq_true (by omega), decide_eq_true (by omega)]; rfl
    rw [this]
  have hn : ∀ p ∈ ps, fs_is_lay.run [pairD p, .int (m : Int)] = some (.bl true, false, .non) := fun p hpp => by
    have ha : AnyT (pairD p) := fun x hx => by
      rcases List.mem_cons.mp hx with e | hx
      · rw [e]; trivial
      · rw [List.mem_singleton.mp hx]; trivial
    rw [e_is_lay (pairD p) ha]
    obtain ⟨q1, q2, q3⟩ := hp p hpp
    have : layB m (pairD p) = true := by
      show (numB _ _ _ && numB _ _ _ && !decide ((p.1 : Int) = (p.2 : Int))) = true
      rw [numB_nat (by omega) (by omega), numB_nat (by omega) (by omega), decide_eq_false (by omega)]; rfl
    rw [this]
  repeat' (first | array_get_dec | with_reducible apply y_callV (hr := ht))
  apply run_inv (S := Option Sl × Option Sl) (fun s => [some (.sh (.tup (ps.map pairD))), some (.sh (.int (m : Int))), s.1, s.2]) (fun _ _ => True) (none, none)
  case hi => repeat' array_get_dec
  case hp => rfl
  case h0 => trivial
  case hb =>
    intro i x s hx _
    have hm : x.1 ∈ ps := by
      rw [List.getElem?_zipIdx] at hx
      obtain ⟨y, hy, e⟩ := Option.map_eq_some_iff.mp hx
      rw [← e]; exact List.mem_of_getElem? hy
    refine ⟨(some (.sh (.int (x.2 : Nat))), some (.sh (pairD x.1))), ?_, trivial⟩
    repeat' (first | array_get_dec | with_reducible apply y_callV (hr := hn _ hm))
  case q =>
    intro s _
    repeat' array_get_dec
    all_goals rfl
def fewestOf : Nat → List (Nat × Nat)
  | 2 => [(0, 1)]
  | 3 => [(0, 1), (1, 2), (0, 1)]
  | 4 => [(0, 1), (2, 3), (0, 2), (1, 3), (1, 2)]
  | 5 => [(0, 1), (3, 4), (2, 4), (2, 3), (1, 4), (0, 3), (0, 2), (1, 3), (1, 2)]
  | _ => []
theorem dc_len : gLen [DC_FEWEST_LAYS] = some (.val (.int 5)) := rfl
theorem dc_ix (m : Nat) (h1 : 1 ≤ m) (h5 : m ≤ 5) : gIx DC_FEWEST_LAYS (.int ((m : Int) - 1)) = some (.val (.tup ((fewestOf m).map pairD))) := by
  obtain rfl | rfl | rfl | rfl | rfl : m = 1 ∨ m = 2 ∨ m = 3 ∨ m = 4 ∨ m = 5 := by omega
  all_goals rfl
theorem e_fewest_lays (m : Nat) (h1 : 1 ≤ m) (h5 : m ≤ 5) : fs_fewest_lays.run [.int (m : Int)] = some (.tup ((fewestOf m).map pairD), false, .non) := by
  refine rd_fewest_lays ?_
  unfold g_fewest_lays
  have hc := e_check_number (.int (m : Int)) trivial 1 5 (numB_nat (by omega) (by omega))
  repeat' (first | with_reducible exact dc_len | with_reducible exact dc_ix m h1 h5 | array_get_dec | with_reducible apply y_callV (hr := hc))
  all_goals rfl
end Pr
end

section
set_option linter.all false
set_option maxRecDepth 100000
set_option maxHeartbeats 0
namespace Pr
open PySem PySem.Spec PyProof.Rows L2 Zz
local macro_rules | `(tactic| array_get_dec) => `(tactic| first
  | with_reducible exact set_z
  | with_reducible apply set_s
  | ((with_reducible apply y_sh); exact rfl)
  | ((with_reducible apply y_ow); exact rfl)
  | ((with_reducible show rdv _ _ = some _); exact rfl)
  | with_reducible exact y_c
  | with_reducible exact nrm_v
  | with_reducible exact nrm_f
  | with_reducible exact nrm_b
  | with_reducible apply y_cons
  | ((with_reducible show zNil _ = _); exact y_nil)
  | ((with_reducible show rdvs _ _ = some _); exact rfl)
  | ((with_reducible show _ < List.length _); exact Nat.le_of_ble_eq_true rfl)
  | ((with_reducible show _ < List.length _); exact List.mem_range.mp ‹_›)
  | ((with_reducible show esc _ (R.val _) = _); exact esc_v)
  | with_reducible exact esc_f
  | ((with_reducible show escs _ [] = _); exact escs_nil)
  | with_reducible apply escs_cons
  | with_reducible apply y_bin
  | with_reducible apply y_callB
  | with_reducible exact wipe_nil
  | with_reducible apply wipe_cons
  | ((with_reducible apply esc_bo); (exact rfl))
  | ((with_reducible apply esc_bs); (exact rfl))
  | ((with_reducible show ∀ _, esc _ _ = some _); exact fun _ => rfl)
  | ((with_reducible show ∀ _ _, esc _ _ = some _); exact fun _ _ => rfl)
  | with_reducible apply y_tb
  | with_reducible apply y_tru
  | with_reducible apply y_tnot
  | with_reducible apply y_tand
  | with_reducible apply y_tor
  | with_reducible apply y_andV
  | with_reducible apply y_orV
  | with_reducible apply y_oft
  | with_reducible apply y_chain
  | with_reducible apply y_un
  | with_reducible apply y_rev
  | with_reducible apply y_revV
  | with_reducible apply y_tup
  | with_reducible apply y_lst
  | with_reducible apply y_sl
  | with_reducible exact y_nop
  | with_reducible apply y_p
  | with_reducible exact g_addI
  | with_reducible exact g_subI
  | with_reducible exact g_eqI
  | with_reducible exact g_eqNilT
  | with_reducible exact alk_int
  | with_reducible exact alk_bl
  | with_reducible exact alk_non
  | with_reducible apply alk_tup
  | with_reducible apply alk_lst
  | with_reducible apply alk_lstR
  | with_reducible apply alk_tupR
  | with_reducible exact alk_nil
  | with_reducible apply alk_cons
  | with_reducible exact g_eqNil eqe_nat (by decide) _
  | with_reducible exact g_eqNil eqe_int (by decide) _
  | with_reducible exact g_neNil eqe_nat (by decide) _
  | with_reducible exact g_neNil eqe_int (by decide) _
  | with_reducible exact g_neI
  | with_reducible exact g_eqB
  | with_reducible exact g_neB
  | with_reducible exact g_eqR
  | with_reducible exact g_neR
  | with_reducible exact g_eqLI
  | with_reducible exact g_neLI
  | with_reducible exact g_eqLR
  | with_reducible exact g_ltI
  | with_reducible exact g_leI
  | with_reducible exact g_gtI
  | with_reducible exact g_geI
  | ((with_reducible show gIx (.tup (_ :: _)) _ = some _); exact rfl)
  | ((with_reducible show gIx (.lst (_ :: _)) _ = some _); exact rfl)
  | with_reducible apply g_ixT
  | with_reducible apply g_ixL
  | with_reducible apply g_ixT0
  | with_reducible apply g_ixR
  | with_reducible apply g_ixRL
  | with_reducible apply g_ixL0
  | with_reducible apply g_addT
  | with_reducible apply g_addL
  | with_reducible apply g_modI
  | with_reducible apply g_divI
  | with_reducible exact isiX_dct_int
  | with_reducible exact isiX_dct_bool
  | with_reducible exact isiX_dct_tuple
  | with_reducible exact isiX_dct_list
  | with_reducible exact isiX_dct_str
  | with_reducible exact y_dict0
  | with_reducible apply isiX_of
  | with_reducible exact isi_non_int
  | with_reducible exact isi_non_bool
  | with_reducible exact isi_non_tuple
  | with_reducible exact isi_non_list
  | with_reducible exact isi_non_str
  | with_reducible exact isi_non_tl
  | with_reducible exact isi_bl_int
  | with_reducible exact isi_bl_bool
  | with_reducible exact isi_bl_tuple
  | with_reducible exact isi_bl_list
  | with_reducible exact isi_bl_str
  | with_reducible exact isi_bl_tl
  | with_reducible exact isi_int_int
  | with_reducible exact isi_int_bool
  | with_reducible exact isi_int_tuple
  | with_reducible exact isi_int_list
  | with_reducible exact isi_int_str
  | with_reducible exact isi_int_tl
  | with_reducible exact isi_str_int
  | with_reducible exact isi_str_bool
  | with_reducible exact isi_str_tuple
  | with_reducible exact isi_str_list
  | with_reducible exact isi_str_str
  | with_reducible exact isi_str_tl
  | with_reducible exact isi_tup_int
  | with_reducible exact isi_tup_bool
  | with_reducible exact isi_tup_tuple
  | with_reducible exact isi_tup_list
  | with_reducible exact isi_tup_str
  | with_reducible exact isi_tup_tl
  | with_reducible exact isi_lst_int
  | with_reducible exact isi_lst_bool
  | with_reducible exact isi_lst_tuple
  | with_reducible exact isi_lst_list
  | with_reducible exact isi_lst_str
  | with_reducible exact isi_lst_tl
  | ((with_reducible show truD _ = some _); exact rfl)
  | with_reducible exact g_lenL
  | with_reducible exact g_lenT
  | ((with_reducible show gLen _ = some _); exact rfl)
  | ((with_reducible show gMax2 _ = some _); exact rfl)
  | ((with_reducible show gMin2 _ = some _); exact rfl)
  | ((with_reducible show gInt _ = some _); exact rfl)
  | ((with_reducible show gList _ = some _); exact rfl)
  | ((with_reducible show gTuple _ = some _); exact rfl)
  | with_reducible exact g_revM
  | with_reducible exact g_revVL
  | with_reducible exact g_revVT
  | ((with_reducible show gRevV _ = some _); exact rfl)
  | with_reducible exact g_negI
  | ((with_reducible show gRev _ = some _); exact rfl)
  | with_reducible exact g_slTo
  | with_reducible exact g_slBT
  | with_reducible exact g_slBL
  | ((with_reducible apply g_slFT); first | exact rfl | omega)
  | ((with_reducible apply g_slFL); first | exact rfl | omega)
  | ((with_reducible apply g_slUT); first | exact rfl | omega)
  | ((with_reducible apply g_slUL); first | exact rfl | omega)
  | with_reducible apply g_slOne
  | ((with_reducible show gSl _ _ _ = some _); exact rfl)
  | ((with_reducible show gIs _ _ = some _); exact rfl)
  | ((with_reducible show gIsNot _ _ = some _); exact rfl)
  | ((with_reducible show List.length _ = FS.ar _); exact rfl)
  | ((with_reducible show FS.io _ = _); exact rfl)
  | ((with_reducible show _ = (R.bor _ :: _)); exact rfl)
  | ((with_reducible show List.length _ + 1 = FS.ar _); exact rfl)
  | ((with_reducible show Zz.sizeOk _ = true); first | exact rfl | (simp [Zz.sizeOk]; done) | (simp [Zz.sizeOk]; omega))
  | with_reducible apply y_lcy
  | with_reducible apply y_lc
  | with_reducible apply y_tgy
  | with_reducible apply y_tg
  | with_reducible apply y_all
  | ((with_reducible show plainB _ _ = true); exact rfl)
  | ((with_reducible show ∀ _, wipeE _ _ = _); exact fun _ => rfl)
  | ((with_reducible show ∀ _ _, wipeE _ _ = _); exact fun _ _ => rfl)
  | with_reducible apply y_gN
  | with_reducible apply y_gNio
  | with_reducible apply y_gT
  | with_reducible exact y_gTn
  | with_reducible apply y_gTc
  | with_reducible apply y_it
  | with_reducible exact itD_vL
  | with_reducible exact itD_vT
  | with_reducible exact itD_fL
  | ((with_reducible apply itD_bo); (exact rfl))
  | with_reducible exact natOf_cast
  | with_reducible exact natOf_sub
  | with_reducible exact natOf_sub1
  | with_reducible exact natOf_add1
  | with_reducible exact natOf_lit
  | ((with_reducible show NatOf _ _); exact rfl)
  | with_reducible apply y_rng1
  | with_reducible apply y_rng2
  | with_reducible apply y_zipT
  | with_reducible apply y_listRng
  | with_reducible apply y_enumT
  | with_reducible apply body_next
  | with_reducible apply run_set
  | with_reducible apply run_drop
  | with_reducible apply run_ret
  | with_reducible apply run_if
  | with_reducible apply run_assoc
  | with_reducible apply run_nop
  | with_reducible apply run_retN
  | with_reducible apply run_end
  | ((with_reducible show pinB _ _ = true); exact rfl)
  | ((with_reducible show fin _ _ = some _); exact rfl)
  | with_reducible apply is_of
  | ((with_reducible show _[_]? = some (some (Sl.ow _))); exact rfl)
  | with_reducible apply y_app
  | with_reducible apply y_popI
  | with_reducible exact s_next
  | with_reducible apply s_nextE
  | with_reducible apply s_seq
  | with_reducible apply s_if
  | with_reducible apply s_set
  | with_reducible apply s_drop
  | with_reducible apply s_par
  | with_reducible apply run_par
  | with_reducible apply run_asg
  | with_reducible apply s_asg
  | with_reducible apply y_subL
  | ((with_reducible show nrmB _ = true); exact rfl)
  | with_reducible apply put_v
  | with_reducible apply put_b
  | ((with_reducible show (_ && _) = false); exact rfl)
  | with_reducible apply put_f
  | with_reducible apply put_vio
  | with_reducible apply put_fio
  | ((with_reducible show (_ = true) → _); intro h__; first | (exfalso; revert h__; simp; done) | skip)
  | ((with_reducible show (_ = false) → _); intro h__; first | (exfalso; revert h__; simp; done) | skip)
  | ((with_reducible show (_ : Int) ≤ _); first | omega | (simp; done) | (simp; omega))
  | ((with_reducible show (_ : Int) < _); first | omega | (simp; done) | (simp; omega))
  | ((with_reducible show (_ : Nat) ≤ _); first | omega | (simp; done) | (simp; omega))
  | ((with_reducible show (_ : Nat) < _); first | omega | (simp; done) | (simp; omega))
  | intro _)
/-! ### what a law's own comparison says of a datum and itself -/
theorem alike_tl (n : Nat) (T : Bool) (l : List Dat) (h1 : l.length ≤ 16777216) (hr : ∀ x ∈ l, (fr__law_alike n).run [x, x] = some (.bl true, false, .non)) (D : Dat) (hD : D = if T then .tup l else .lst l) :
    (fr__law_alike (n + 1)).run [D, D] = some (.bl true, false, .non) := by
  refine rd__law_alike ?_
  have har : (fr__law_alike n).ar = 2 := by cases n <;> rfl
  have hio : (fr__law_alike n).io = false := by cases n <;> rfl
  generalize fr__law_alike n = rc at hr har hio ⊢
  unfold g__law_alike
  have hk : ∀ k ∈ List.range l.length, rc.run [l.getD k .non, l.getD k .non] = some (.bl true, false, .non) := fun k hk => hr _ (by
    have : k < l.length := by simpa using List.mem_range.mp hk
    rw [List.getD_eq_getElem?_getD, List.getElem?_eq_getElem this]; exact List.getElem_mem this)
  cases T with
  | true =>
    have hD : D = .tup l := hD
    subst hD
    repeat' (first | array_get_dec | with_reducible refine' (y_callV ?_ hio ?_ ?_ (hk _ ?_)) | exact har.symm | assumption | exact List.mem_range.mp ‹_›)
    simp
  | false =>
    have hD : D = .lst l := hD
    subst hD
    repeat' (first | array_get_dec | with_reducible refine' (y_callV ?_ hio ?_ ?_ (hk _ ?_)) | exact har.symm | assumption | exact List.mem_range.mp ‹_›)
    simp
theorem alike_int (n : Nat) (i : Int) : (fr__law_alike (n + 1)).run [.int i, .int i] = some (.bl true, false, .non) := by
  refine rd__law_alike ?_
  unfold g__law_alike
  repeat' array_get_dec
  simp
theorem alike_bl (n : Nat) (i : Bool) : (fr__law_alike (n + 1)).run [.bl i, .bl i] = some (.bl true, false, .non) := by
  refine rd__law_alike ?_
  unfold g__law_alike
  repeat' array_get_dec
  simp
theorem alike_non (n : Nat) : (fr__law_alike (n + 1)).run [.non, .non] = some (.bl true, false, .non) := by
  refine rd__law_alike ?_
  unfold g__law_alike
  repeat' (first | array_get_dec | exact g_eqN)
  all_goals first | exact true | simp
theorem alike : ∀ (n : Nat) (d : Dat), Alk n d → (fr__law_alike (n + 1)).run [d, d] = some (.bl true, false, .non)
  | n, .non, _ => alike_non n
  | n, .bl b, _ => alike_bl n b
  | n, .int i, _ => alike_int n i
  | n + 1, .tup l, ⟨a, b⟩ => alike_tl (n + 1) true l a (fun x hx => alike n x (b x hx)) _ rfl
  | n + 1, .lst l, ⟨a, b⟩ => alike_tl (n + 1) false l a (fun x hx => alike n x (b x hx)) _ rfl
  | 0, .tup _, h => h.elim
  | 0, .lst _, h => h.elim
  | n, .str _, h => by cases n <;> exact h.elim
  | n, .dct _ _, h => by cases n <;> exact h.elim
  | n, .set _, h => by cases n <;> exact h.elim
  | n, .fn _, h => by cases n <;> exact h.elim
  | n, .ty _, h => by cases n <;> exact h.elim
end Pr
end

section
set_option linter.all false
set_option maxRecDepth 100000
set_option maxHeartbeats 400000
namespace Pr
open PySem PySem.Spec PyProof.Rows L2 Zz
local macro_rules | `(tactic| array_get_dec) => `(tactic| first
  | with_reducible exact set_z
  | with_reducible apply set_s
  | ((with_reducible apply y_sh); exact rfl)
  | ((with_reducible apply y_ow); exact rfl)
  | ((with_reducible show rdv _ _ = some _); exact rfl)
  | with_reducible exact y_c
  | with_reducible exact nrm_v
  | with_reducible exact nrm_f
  | with_reducible exact nrm_b
  | with_reducible apply y_cons
  | ((with_reducible show zNil _ = _); exact y_nil)
  | ((with_reducible show rdvs _ _ = some _); exact rfl)
  | ((with_reducible show _ < List.length _); exact Nat.le_of_ble_eq_true rfl)
  | ((with_reducible show _ < List.length _); exact List.mem_range.mp ‹_›)
  | ((with_reducible show esc _ (R.val _) = _); exact esc_v)
  | with_reducible exact esc_f
  | ((with_reducible show escs _ [] = _); exact escs_nil)
  | with_reducible apply escs_cons
  | with_reducible apply y_bin
  | with_reducible apply y_callB
  | with_reducible exact wipe_nil
  | with_reducible apply wipe_cons
  | ((with_reducible apply esc_bo); (exact rfl))
  | ((with_reducible apply esc_bs); (exact rfl))
  | ((with_reducible show ∀ _, esc _ _ = some _); exact fun _ => rfl)
  | ((with_reducible show ∀ _ _, esc _ _ = some _); exact fun _ _ => rfl)
  | with_reducible apply y_tb
  | with_reducible apply y_tru
  | with_reducible apply y_tnot
  | with_reducible apply y_tand
  | with_reducible apply y_tor
  | with_reducible apply y_andV
  | with_reducible apply y_orV
  | with_reducible apply y_oft
  | with_reducible apply y_chain
  | with_reducible apply y_un
  | with_reducible apply y_rev
  | with_reducible apply y_revV
  | with_reducible apply y_tup
  | with_reducible apply y_lst
  | with_reducible apply y_sl
  | with_reducible exact y_nop
  | with_reducible apply y_p
  | with_reducible exact g_addI
  | with_reducible exact g_subI
  | with_reducible exact g_eqI
  | with_reducible exact g_eqNilT
  | with_reducible exact alk_int
  | with_reducible exact alk_bl
  | with_reducible exact alk_non
  | with_reducible apply alk_tup
  | with_reducible apply alk_lst
  | with_reducible apply alk_lstR
  | with_reducible apply alk_tupR
  | with_reducible exact alk_nil
  | with_reducible apply alk_cons
  | with_reducible exact g_eqNil eqe_nat (by decide) _
  | with_reducible exact g_eqNil eqe_int (by decide) _
  | with_reducible exact g_neNil eqe_nat (by decide) _
  | with_reducible exact g_neNil eqe_int (by decide) _
  | with_reducible exact g_neI
  | with_reducible exact g_eqB
  | with_reducible exact g_neB
  | with_reducible exact g_eqR
  | with_reducible exact g_neR
  | with_reducible exact g_eqLI
  | with_reducible exact g_neLI
  | with_reducible exact g_eqLR
  | with_reducible exact g_ltI
  | with_reducible exact g_leI
  | with_reducible exact g_gtI
  | with_reducible exact g_geI
  | ((with_reducible show gIx (.tup (_ :: _)) _ = some _); exact rfl)
  | ((with_reducible show gIx (.lst (_ :: _)) _ = some _); exact rfl)
  | with_reducible apply g_ixT
  | with_reducible apply g_ixL
  | with_reducible apply g_ixT0
  | with_reducible apply g_ixR
  | with_reducible apply g_ixRL
  | with_reducible apply g_ixL0
  | with_reducible apply g_addT
  | with_reducible apply g_addL
  | with_reducible apply g_modI
  | with_reducible apply g_divI
  | with_reducible exact isiX_dct_int
  | with_reducible exact isiX_dct_bool
  | with_reducible exact isiX_dct_tuple
  | with_reducible exact isiX_dct_list
  | with_reducible exact isiX_dct_str
  | with_reducible exact y_dict0
  | with_reducible apply isiX_of
  | with_reducible exact isi_non_int
  | with_reducible exact isi_non_bool
  | with_reducible exact isi_non_tuple
  | with_reducible exact isi_non_list
  | with_reducible exact isi_non_str
  | with_reducible exact isi_non_tl
  | with_reducible exact isi_bl_int
  | with_reducible exact isi_bl_bool
  | with_reducible exact isi_bl_tuple
  | with_reducible exact isi_bl_list
  | with_reducible exact isi_bl_str
  | with_reducible exact isi_bl_tl
  | with_reducible exact isi_int_int
  | with_reducible exact isi_int_bool
  | with_reducible exact isi_int_tuple
  | with_reducible exact isi_int_list
  | with_reducible exact isi_int_str
  | with_reducible exact isi_int_tl
  | with_reducible exact isi_str_int
  | with_reducible exact isi_str_bool
  | with_reducible exact isi_str_tuple
  | with_reducible exact isi_str_list
  | with_reducible exact isi_str_str
  | with_reducible exact isi_str_tl
  | with_reducible exact isi_tup_int
  | with_reducible exact isi_tup_bool
  | with_reducible exact isi_tup_tuple
  | with_reducible exact isi_tup_list
  | with_reducible exact isi_tup_str
  | with_reducible exact isi_tup_tl
  | with_reducible exact isi_lst_int
  | with_reducible exact isi_lst_bool
  | with_reducible exact isi_lst_tuple
  | with_reducible exact isi_lst_list
  | with_reducible exact isi_lst_str
  | with_reducible exact isi_lst_tl
  | ((with_reducible show truD _ = some _); exact rfl)
  | with_reducible exact g_lenL
  | with_reducible exact g_lenT
  | ((with_reducible show gLen _ = some _); exact rfl)
  | ((with_reducible show gMax2 _ = some _); exact rfl)
  | ((with_reducible show gMin2 _ = some _); exact rfl)
  | ((with_reducible show gInt _ = some _); exact rfl)
  | ((with_reducible show gList _ = some _); exact rfl)
  | ((with_reducible show gTuple _ = some _); exact rfl)
  | with_reducible exact g_revM
  | with_reducible exact g_revVL
  | with_reducible exact g_revVT
  | ((with_reducible show gRevV _ = some _); exact rfl)
  | with_reducible exact g_negI
  | ((with_reducible show gRev _ = some _); exact rfl)
  | with_reducible exact g_slTo
  | with_reducible exact g_slBT
  | with_reducible exact g_slBL
  | ((with_reducible apply g_slFT); first | exact rfl | omega)
  | ((with_reducible apply g_slFL); first | exact rfl | omega)
  | ((with_reducible apply g_slUT); first | exact rfl | omega)
  | ((with_reducible apply g_slUL); first | exact rfl | omega)
  | with_reducible apply g_slOne
  | ((with_reducible show gSl _ _ _ = some _); exact rfl)
  | ((with_reducible show gIs _ _ = some _); exact rfl)
  | ((with_reducible show gIsNot _ _ = some _); exact rfl)
  | ((with_reducible show List.length _ = FS.ar _); exact rfl)
  | ((with_reducible show FS.io _ = _); exact rfl)
  | ((with_reducible show _ = (R.bor _ :: _)); exact rfl)
  | ((with_reducible show List.length _ + 1 = FS.ar _); exact rfl)
  | ((with_reducible show Zz.sizeOk _ = true); first | exact rfl | (simp [Zz.sizeOk]; done) | (simp [Zz.sizeOk]; omega))
  | with_reducible apply y_lcy
  | with_reducible apply y_lc
  | with_reducible apply y_tgy
  | with_reducible apply y_tg
  | with_reducible apply y_all
  | ((with_reducible show plainB _ _ = true); exact rfl)
  | ((with_reducible show ∀ _, wipeE _ _ = _); exact fun _ => rfl)
  | ((with_reducible show ∀ _ _, wipeE _ _ = _); exact fun _ _ => rfl)
  | with_reducible apply y_gN
  | with_reducible apply y_gNio
  | with_reducible apply y_gT
  | with_reducible exact y_gTn
  | with_reducible apply y_gTc
  | with_reducible apply y_it
  | with_reducible exact itD_vL
  | with_reducible exact itD_vT
  | with_reducible exact itD_fL
  | ((with_reducible apply itD_bo); (exact rfl))
  | with_reducible exact natOf_cast
  | with_reducible exact natOf_sub
  | with_reducible exact natOf_sub1
  | with_reducible exact natOf_add1
  | with_reducible exact natOf_lit
  | ((with_reducible show NatOf _ _); exact rfl)
  | with_reducible apply y_rng1
  | with_reducible apply y_rng2
  | with_reducible apply y_zipT
  | with_reducible apply y_listRng
  | with_reducible apply y_enumT
  | with_reducible apply body_next
  | with_reducible apply run_set
  | with_reducible apply run_drop
  | with_reducible apply run_ret
  | with_reducible apply run_if
  | with_reducible apply run_assoc
  | with_reducible apply run_nop
  | with_reducible apply run_retN
  | with_reducible apply run_end
  | ((with_reducible show pinB _ _ = true); exact rfl)
  | ((with_reducible show fin _ _ = some _); exact rfl)
  | with_reducible apply is_of
  | ((with_reducible show _[_]? = some (some (Sl.ow _))); exact rfl)
  | with_reducible apply y_app
  | with_reducible apply y_popI
  | with_reducible exact s_next
  | with_reducible apply s_nextE
  | with_reducible apply s_seq
  | with_reducible apply s_if
  | with_reducible apply s_set
  | with_reducible apply s_drop
  | with_reducible apply s_par
  | with_reducible apply run_par
  | with_reducible apply run_asg
  | with_reducible apply s_asg
  | with_reducible apply y_subL
  | ((with_reducible show nrmB _ = true); exact rfl)
  | with_reducible apply put_v
  | with_reducible apply put_b
  | ((with_reducible show (_ && _) = false); exact rfl)
  | with_reducible apply put_f
  | with_reducible apply put_vio
  | with_reducible apply put_fio
  | ((with_reducible show (_ = true) → _); intro h__; first | (exfalso; revert h__; simp; done) | skip)
  | ((with_reducible show (_ = false) → _); intro h__; first | (exfalso; revert h__; simp; done) | skip)
  | ((with_reducible show (_ : Int) ≤ _); first | omega | (simp; done) | (simp; omega))
  | ((with_reducible show (_ : Int) < _); first | omega | (simp; done) | (simp; omega))
  | ((with_reducible show (_ : Nat) ≤ _); first | omega | (simp; done) | (simp; omega))
  | ((with_reducible show (_ : Nat) < _); first | omega | (simp; done) | (simp; omega))
  | intro _)
/-! ### draws -/
abbrev Rw := Nat × Int × Int
abbrev rowR (ns : List Int) (s : Rw) : Dat := rowD ns s.1 s.2.1 s.2.2
theorem e_taken (ns : List Int) (s : Rw) (many : Int) (hm : 0 < many) (hM : many < 1073741824) : ∃ (n : Nat) (s' : Rw), (n : Int) < many ∧ fs__law_taken.run [rowR ns s, .int many] = some (.int n, false, rowR ns s') := by
  obtain ⟨n, k', b', c', h0, h1, e⟩ := taken ns s.1 s.2.1 s.2.2 many hm hM
  refine ⟨n.toNat, (k', b', c'), by omega, ?_⟩
  have : ((n.toNat : Nat) : Int) = n := by omega
  rw [this]
  exact e
abbrev natD (k : Nat) : Dat := .int (k : Int)
structure OS where
  row : Rw
  y : Option Sl
  left : List Nat
  found : List Nat
theorem e_order (ns : List Int) (s : Rw) (m : Nat) (hm : m ≤ 1000) : ∃ (l : List Nat) (s' : Rw), l.Perm (List.range m) ∧ fs__law_order.run [rowR ns s, natD m] = some (.tup (l.map natD), false, rowR ns s') := by
  have key : ∃ o, fs__law_order.run [rowR ns s, natD m] = some o ∧ ∃ (l : List Nat) (s' : Rw), l.Perm (List.range m) ∧ o = (.tup (l.map natD), false, rowR ns s') := by
    refine rq__law_order ?_
    unfold g__law_order
    repeat' array_get_dec
    apply run_inv (S := OS) (fun s => [some (.ow (rowR ns s.row)), some (.sh (natD m)), s.y, some (.ow (.lst (s.left.map natD))), some (.ow (.lst (s.found.map natD)))]) (fun i s => s.left.length + i = m ∧ (s.found ++ s.left).Perm (List.range m)) ⟨s, none, List.range m, []⟩
    case hi => repeat' array_get_dec
    case hp => rfl
    case h0 => simp
    case hb =>
      intro i x s hx ⟨h1, h2⟩
      have hi : i < m := by simpa using (List.getElem?_eq_some_iff.mp hx).1
      obtain ⟨n, row', hn, hr⟩ := e_taken ns s.row s.left.length (by omega) (by omega)
      have hn : n < s.left.length := by omega
      have hl : s.found.length + s.left.length = m := by simpa using h2.length_eq
      have hy : (s.left.map natD)[n]? = some (natD (s.left.getD n 0)) := by
        rw [List.getElem?_map, List.getD_eq_getElem?_getD, List.getElem?_eq_getElem hn]; rfl
      refine ⟨⟨row', some (.sh (natD x)), s.left.eraseIdx n, s.found ++ [s.left.getD n 0]⟩, ?_, ?_⟩
      · repeat' (first | array_get_dec | with_reducible apply y_callio (hr := hr) | with_reducible exact hy)
        simp [erase_map]
      · refine ⟨by simp [List.length_eraseIdx, hn]; omega, ?_⟩
        refine List.Perm.trans ?_ h2
        rw [List.append_assoc]
        refine List.Perm.append_left _ ?_
        have e : s.left.getD n 0 = s.left[n] := by rw [List.getD_eq_getElem?_getD, List.getElem?_eq_getElem hn]; rfl
        rw [e]
        exact cons_erase hn
    case q => 
      intro s ⟨h1, h2⟩
      have hl : s.left = [] := by simpa using h1
      repeat' array_get_dec
      refine ⟨s.found, s.row, by simpa [hl] using h2, rfl⟩
  obtain ⟨o, h1, l, s', h2, h3⟩ := key
  exact ⟨l, s', h2, h3 ▸ h1⟩
end Pr
end

section
set_option linter.all false
set_option maxRecDepth 100000
set_option maxHeartbeats 1000000
namespace Pr
open PySem PySem.Spec PyProof.Rows L2 Zz
local macro_rules | `(tactic| array_get_dec) => `(tactic| first
  | with_reducible exact set_z
  | with_reducible apply set_s
  | ((with_reducible apply y_sh); exact rfl)
  | ((with_reducible apply y_ow); exact rfl)
  | ((with_reducible show rdv _ _ = some _); exact rfl)
  | with_reducible exact y_c
  | with_reducible exact nrm_v
  | with_reducible exact nrm_f
  | with_reducible exact nrm_b
  | with_reducible apply y_cons
  | ((with_reducible show zNil _ = _); exact y_nil)
  | ((with_reducible show rdvs _ _ = some _); exact rfl)
  | ((with_reducible show _ < List.length _); exact Nat.le_of_ble_eq_true rfl)
  | ((with_reducible show _ < List.length _); exact List.mem_range.mp ‹_›)
  | ((with_reducible show esc _ (R.val _) = _); exact esc_v)
  | with_reducible exact esc_f
  | ((with_reducible show escs _ [] = _); exact escs_nil)
  | with_reducible apply escs_cons
  | with_reducible apply y_bin
  | with_reducible apply y_callB
  | with_reducible exact wipe_nil
  | with_reducible apply wipe_cons
  | ((with_reducible apply esc_bo); (exact rfl))
  | ((with_reducible apply esc_bs); (exact rfl))
  | ((with_reducible show ∀ _, esc _ _ = some _); exact fun _ => rfl)
  | ((with_reducible show ∀ _ _, esc _ _ = some _); exact fun _ _ => rfl)
  | with_reducible apply y_tb
  | with_reducible apply y_tru
  | with_reducible apply y_tnot
  | with_reducible apply y_tand
  | with_reducible apply y_tor
  | with_reducible apply y_andV
  | with_reducible apply y_orV
  | with_reducible apply y_oft
  | with_reducible apply y_chain
  | with_reducible apply y_un
  | with_reducible apply y_rev
  | with_reducible apply y_revV
  | with_reducible apply y_tup
  | with_reducible apply y_lst
  | with_reducible apply y_sl
  | with_reducible exact y_nop
  | with_reducible apply y_p
  | with_reducible exact g_addI
  | with_reducible exact g_subI
  | with_reducible exact g_eqI
  | with_reducible exact g_eqNilT
  | with_reducible exact alk_int
  | with_reducible exact alk_bl
  | with_reducible exact alk_non
  | with_reducible apply alk_tup
  | with_reducible apply alk_lst
  | with_reducible apply alk_lstR
  | with_reducible apply alk_tupR
  | with_reducible exact alk_nil
  | with_reducible apply alk_cons
  | with_reducible exact g_eqNil eqe_nat (by decide) _
  | with_reducible exact g_eqNil eqe_int (by decide) _
  | with_reducible exact g_neNil eqe_nat (by decide) _
  | with_reducible exact g_neNil eqe_int (by decide) _
  | with_reducible exact g_neI
  | with_reducible exact g_eqB
  | with_reducible exact g_neB
  | with_reducible exact g_eqR
  | with_reducible exact g_neR
  | with_reducible exact g_eqLI
  | with_reducible exact g_neLI
  | with_reducible exact g_eqLR
  | with_reducible exact g_ltI
  | with_reducible exact g_leI
  | with_reducible exact g_gtI
  | with_reducible exact g_geI
  | ((with_reducible show gIx (.tup (_ :: _)) _ = some _); exact rfl)
  | ((with_reducible show gIx (.lst (_ :: _)) _ = some _); exact rfl)
  | with_reducible apply g_ixT
  | with_reducible apply g_ixL
  | with_reducible apply g_ixT0
  | with_reducible apply g_ixR
  | with_reducible apply g_ixRL
  | with_reducible apply g_ixL0
  | with_reducible apply g_addT
  | with_reducible apply g_addL
  | with_reducible apply g_modI
  | with_reducible apply g_divI
  | with_reducible exact isiX_dct_int
  | with_reducible exact isiX_dct_bool
  | with_reducible exact isiX_dct_tuple
  | with_reducible exact isiX_dct_list
  | with_reducible exact isiX_dct_str
  | with_reducible exact y_dict0
  | with_reducible apply isiX_of
  | with_reducible exact isi_non_int
  | with_reducible exact isi_non_bool
  | with_reducible exact isi_non_tuple
  | with_reducible exact isi_non_list
  | with_reducible exact isi_non_str
  | with_reducible exact isi_non_tl
  | with_reducible exact isi_bl_int
  | with_reducible exact isi_bl_bool
  | with_reducible exact isi_bl_tuple
  | with_reducible exact isi_bl_list
  | with_reducible exact isi_bl_str
  | with_reducible exact isi_bl_tl
  | with_reducible exact isi_int_int
  | with_reducible exact isi_int_bool
  | with_reducible exact isi_int_tuple
  | with_reducible exact isi_int_list
  | with_reducible exact isi_int_str
  | with_reducible exact isi_int_tl
  | with_reducible exact isi_str_int
  | with_reducible exact isi_str_bool
  | with_reducible exact isi_str_tuple
  | with_reducible exact isi_str_list
  | with_reducible exact isi_str_str
  | with_reducible exact isi_str_tl
  | with_reducible exact isi_tup_int
  | with_reducible exact isi_tup_bool
  | with_reducible exact isi_tup_tuple
  | with_reducible exact isi_tup_list
  | with_reducible exact isi_tup_str
  | with_reducible exact isi_tup_tl
  | with_reducible exact isi_lst_int
  | with_reducible exact isi_lst_bool
  | with_reducible exact isi_lst_tuple
  | with_reducible exact isi_lst_list
  | with_reducible exact isi_lst_str
  | with_reducible exact isi_lst_tl
  | ((with_reducible show truD _ = some _); exact rfl)
  | with_reducible exact g_lenL
  | with_reducible exact g_lenT
  | ((with_reducible show gLen _ = some _); exact rfl)
  | ((with_reducible show gMax2 _ = some _); exact rfl)
  | ((with_reducible show gMin2 _ = some _); exact rfl)
  | ((with_reducible show gInt _ = some _); exact rfl)
  | ((with_reducible show gList _ = some _); exact rfl)
  | ((with_reducible show gTuple _ = some _); exact rfl)
  | with_reducible exact g_revM
  | with_reducible exact g_revVL
  | with_reducible exact g_revVT
  | ((with_reducible show gRevV _ = some _); exact rfl)
  | with_reducible exact g_negI
  | ((with_reducible show gRev _ = some _); exact rfl)
  | with_reducible exact g_slTo
  | with_reducible exact g_slBT
  | with_reducible exact g_slBL
  | ((with_reducible apply g_slFT); first | exact rfl | omega)
  | ((with_reducible apply g_slFL); first | exact rfl | omega)
  | ((with_reducible apply g_slUT); first | exact rfl | omega)
  | ((with_reducible apply g_slUL); first | exact rfl | omega)
  | with_reducible apply g_slOne
  | ((with_reducible show gSl _ _ _ = some _); exact rfl)
  | ((with_reducible show gIs _ _ = some _); exact rfl)
  | ((with_reducible show gIsNot _ _ = some _); exact rfl)
  | ((with_reducible show List.length _ = FS.ar _); exact rfl)
  | ((with_reducible show FS.io _ = _); exact rfl)
  | ((with_reducible show _ = (R.bor _ :: _)); exact rfl)
  | ((with_reducible show List.length _ + 1 = FS.ar _); exact rfl)
  | ((with_reducible show Zz.sizeOk _ = true); first | exact rfl | (simp [Zz.sizeOk]; done) | (simp [Zz.sizeOk]; omega))
  | with_reducible apply y_lcy
  | with_reducible apply y_lc
  | with_reducible apply y_tgy
  | with_reducible apply y_tg
  | with_reducible apply y_all
  | ((with_reducible show plainB _ _ = true); exact rfl)
  | ((with_reducible show ∀ _, wipeE _ _ = _); exact fun _ => rfl)
  | ((with_reducible show ∀ _ _, wipeE _ _ = _); exact fun _ _ => rfl)
  | with_reducible apply y_gN
  | with_reducible apply y_gNio
  | with_reducible apply y_gT
  | with_reducible exact y_gTn
  | with_reducible apply y_gTc
  | with_reducible apply y_it
  | with_reducible exact itD_vL
  | with_reducible exact itD_vT
  | with_reducible exact itD_fL
  | ((with_reducible apply itD_bo); (exact rfl))
  | with_reducible exact natOf_cast
  | with_reducible exact natOf_sub
  | with_reducible exact natOf_sub1
  | with_reducible exact natOf_add1
  | with_reducible exact natOf_lit
  | ((with_reducible show NatOf _ _); exact rfl)
  | with_reducible apply y_rng1
  | with_reducible apply y_rng2
  | with_reducible apply y_zipT
  | with_reducible apply y_listRng
  | with_reducible apply y_enumT
  | with_reducible apply body_next
  | with_reducible apply run_set
  | with_reducible apply run_drop
  | with_reducible apply run_ret
  | with_reducible apply run_if
  | with_reducible apply run_assoc
  | with_reducible apply run_nop
  | with_reducible apply run_retN
  | with_reducible apply run_end
  | ((with_reducible show pinB _ _ = true); exact rfl)
  | ((with_reducible show fin _ _ = some _); exact rfl)
  | with_reducible apply is_of
  | ((with_reducible show _[_]? = some (some (Sl.ow _))); exact rfl)
  | with_reducible apply y_app
  | with_reducible apply y_popI
  | with_reducible exact s_next
  | with_reducible apply s_nextE
  | with_reducible apply s_seq
  | with_reducible apply s_if
  | with_reducible apply s_set
  | with_reducible apply s_drop
  | with_reducible apply s_par
  | with_reducible apply run_par
  | with_reducible apply run_asg
  | with_reducible apply s_asg
  | with_reducible apply y_subL
  | ((with_reducible show nrmB _ = true); exact rfl)
  | with_reducible apply put_v
  | with_reducible apply put_b
  | ((with_reducible show (_ && _) = false); exact rfl)
  | with_reducible apply put_f
  | with_reducible apply put_vio
  | with_reducible apply put_fio
  | ((with_reducible show (_ = true) → _); intro h__; first | (exfalso; revert h__; simp; done) | skip)
  | ((with_reducible show (_ = false) → _); intro h__; first | (exfalso; revert h__; simp; done) | skip)
  | ((with_reducible show (_ : Int) ≤ _); first | omega | (simp; done) | (simp; omega))
  | ((with_reducible show (_ : Int) < _); first | omega | (simp; done) | (simp; omega))
  | ((with_reducible show (_ : Nat) ≤ _); first | omega | (simp; done) | (simp; omega))
  | ((with_reducible show (_ : Nat) < _); first | omega | (simp; done) | (simp; omega))
  | intro _)
theorem AnyL_ps (ps : List (Nat × Nat)) : AnyL (.tup (ps.map pairD)) := fun x hx => by
  obtain ⟨p, hp, rfl⟩ := List.mem_map.mp hx
  intro y hy
  rcases List.mem_cons.mp hy with e | hy
  · rw [e]; trivial
  · rw [List.mem_singleton.mp hy]; trivial
theorem r_not_brought (m : Nat) (ps : List (Nat × Nat)) (h1 : 1 ≤ m) (h5 : m ≤ 5) (hp : LaysOk m ps) : fs_not_brought.run [natD m, .tup (ps.map pairD)] = some (.lst ((leftOf m ps).map tupI), true, .non) := not_brought m ps h1 h5 hp
theorem e_check_fixed (m : Nat) (ps : List (Nat × Nat)) (h1 : 1 ≤ m) (h5 : m ≤ 6) (hl : ps.length ≤ 60) (hp : LaysOk m ps) : fs_check_fixed.run [natD m, .tup (ps.map pairD)] = some (.non, false, .non) := by
  refine rd_check_fixed ?_
  unfold g_check_fixed
  have hc := e_check_number (natD m) trivial 1 6 (numB_nat (by omega) (by omega))
  have hk := e_check_lays m ps hl hp
  repeat' (first | array_get_dec | with_reducible apply y_callV (hr := hc) | with_reducible apply y_callV (hr := hk))
  all_goals rfl
theorem e_brings_all (m : Nat) (ps : List (Nat × Nat)) (h1 : 1 ≤ m) (h5 : m ≤ 5) (hl : ps.length ≤ 60) (hp : LaysOk m ps) : fs_brings_all.run [natD m, .tup (ps.map pairD)] = some (.bl (leftOf m ps).isEmpty, false, .non) := by
  refine rd_brings_all ?_
  unfold g_brings_all
  have hc := e_check_fixed m ps h1 (by omega) hl hp
  have hk := r_not_brought m ps h1 h5 hp
  repeat' (first | array_get_dec | with_reducible apply y_callV (hr := hc) | with_reducible apply y_callF (hr := hk))
  all_goals first | exact true | simp
theorem layB_pair {m : Nat} {p : Nat × Nat} (h : p.1 < m ∧ p.2 < m ∧ p.1 ≠ p.2) : layB m (pairD p) = true := by
  show (numB _ _ _ && numB _ _ _ && !decide ((p.1 : Int) = (p.2 : Int))) = true
  rw [numB_nat (by omega) (by omega), numB_nat (by omega) (by omega), decide_eq_false (by omega)]; rfl
theorem laysB_ps {m : Nat} {ps : List (Nat × Nat)} (hl : ps.length ≤ 60) (hp : LaysOk m ps) : laysB m (.tup (ps.map pairD)) = true := by
  show (decide _ && List.all _ _) = true
  rw [decide_eq_true (by rw [List.length_map]; exact hl), Bool.true_and, List.all_eq_true]
  intro x hx
  obtain ⟨p, hpp, rfl⟩ := List.mem_map.mp hx
  exact layB_pair (hp p hpp)
abbrev sizeOf' (m : Nat) : Nat := (fewestOf m).length
theorem dc_len2 (m : Nat) : gLen [.tup ((fewestOf m).map pairD)] = some (.val (.int (sizeOf' m : Nat))) := by
  show some (R.val (.int (((fewestOf m).map pairD).length : Nat))) = _
  rw [List.length_map]
theorem e_shows (m : Nat) (h1 : 1 ≤ m) (h5 : m ≤ 5) (ps : List (Nat × Nat)) (hl : ps.length = sizeOf' m) (hp : LaysOk m ps) (h60 : ps.length ≤ 60) : fs_shows_fixed.run [natD m, .tup (ps.map pairD)] = some (.bl (leftOf m ps).isEmpty, false, .non) := by
  refine rd_shows_fixed ?_
  unfold g_shows_fixed
  have hc := e_check_number (natD m) trivial 1 5 (numB_nat (by omega) (by omega))
  have hk := r_not_brought m ps h1 h5 hp
  have hs := e_is_lays (.tup (ps.map pairD)) (AnyL_ps ps) m
  rw [laysB_ps h60 hp] at hs
  repeat' (first | with_reducible exact dc_len | with_reducible exact dc_len2 m | with_reducible exact dc_ix m h1 h5 | array_get_dec | with_reducible apply y_callV (hr := hc) | with_reducible apply y_callV (hr := hs) | with_reducible apply y_callF (hr := hk))
  all_goals first | exact true | skip
  · rename_i h; simp [hl] at h
  · simp
/-- what the program says of a value -/
def okV (m : Nat) (d : Dat) : Bool := laysB m d && (match d with
  | .tup l => decide (l.length = sizeOf' m)
  | _ => false)
theorem dc_lenV (l : List Dat) : gLen [.tup l] = some (.val (.int (l.length : Nat))) := rfl
theorem e_showsNo (m : Nat) (h1 : 1 ≤ m) (h5 : m ≤ 5) (d : Dat) (hd : AnyL d) (ho : okV m d = false) : fs_shows_fixed.run [natD m, d] = some (.bl false, false, .non) := by
  refine rd_shows_fixed ?_
  unfold g_shows_fixed
  have hc := e_check_number (natD m) trivial 1 5 (numB_nat (by omega) (by omega))
  have hs := e_is_lays d hd m
  by_cases hb : laysB m d = true
  · rw [hb] at hs
    obtain ⟨l, rfl⟩ : ∃ l, d = .tup l := by cases d <;> first | exact ⟨_, rfl⟩ | cases hb
    have hn : ¬ l.length = (fewestOf m).length := by
      unfold okV at ho; rw [hb, Bool.true_and] at ho; simpa using ho
    repeat' (first | ((with_reducible show (_ = false) → _); intro h__; exfalso; simp at h__; omega) | with_reducible exact dc_len | with_reducible exact dc_lenV _ | with_reducible exact dc_len2 m | with_reducible exact dc_ix m h1 h5 | array_get_dec | with_reducible apply y_callV (hr := hc) | with_reducible apply y_callV (hr := hs))
    all_goals first | exact true | rfl | (rename_i h; exact absurd (by simpa using h) hn) | trace_state
  · have hb : laysB m d = false := by simpa using hb
    rw [hb] at hs
    repeat' (first | with_reducible exact dc_len | with_reducible exact dc_len2 m | with_reducible exact dc_ix m h1 h5 | array_get_dec | with_reducible apply y_callV (hr := hc) | with_reducible apply y_callV (hr := hs))
    all_goals first | exact true | rfl | (rename_i h; exfalso; simp at h)
theorem okV_ps {m : Nat} {d : Dat} (h : okV m d = true) : ∃ ps : List (Nat × Nat), d = .tup (ps.map pairD) ∧ LaysOk m ps ∧ ps.length = sizeOf' m ∧ ps.length ≤ 60 := by
  unfold okV at h
  rw [Bool.and_eq_true] at h
  obtain ⟨h1, h2⟩ := h
  cases d <;> simp at h2
  rename_i l
  unfold laysB at h1
  rw [Bool.and_eq_true, decide_eq_true_iff] at h1
  obtain ⟨ps, rfl, q⟩ := lays_of h1.2
  exact ⟨ps, rfl, q, by simpa using h2, by simpa using h1.1⟩
end Pr
end

section
set_option linter.all false
set_option maxRecDepth 100000
set_option maxHeartbeats 1000000
namespace Pr
open PySem PySem.Spec PyProof.Rows L2 Zz
local macro_rules | `(tactic| array_get_dec) => `(tactic| first
  | with_reducible exact set_z
  | with_reducible apply set_s
  | ((with_reducible apply y_sh); exact rfl)
  | ((with_reducible apply y_ow); exact rfl)
  | ((with_reducible show rdv _ _ = some _); exact rfl)
  | with_reducible exact y_c
  | with_reducible exact nrm_v
  | with_reducible exact nrm_f
  | with_reducible exact nrm_b
  | with_reducible apply y_cons
  | ((with_reducible show zNil _ = _); exact y_nil)
  | ((with_reducible show rdvs _ _ = some _); exact rfl)
  | ((with_reducible show _ < List.length _); exact Nat.le_of_ble_eq_true rfl)
  | ((with_reducible show _ < List.length _); exact List.mem_range.mp ‹_›)
  | ((with_reducible show esc _ (R.val _) = _); exact esc_v)
  | with_reducible exact esc_f
  | ((with_reducible show escs _ [] = _); exact escs_nil)
  | with_reducible apply escs_cons
  | with_reducible apply y_bin
  | with_reducible apply y_callB
  | with_reducible exact wipe_nil
  | with_reducible apply wipe_cons
  | ((with_reducible apply esc_bo); (exact rfl))
  | ((with_reducible apply esc_bs); (exact rfl))
  | ((with_reducible show ∀ _, esc _ _ = some _); exact fun _ => rfl)
  | ((with_reducible show ∀ _ _, esc _ _ = some _); exact fun _ _ => rfl)
  | with_reducible apply y_tb
  | with_reducible apply y_tru
  | with_reducible apply y_tnot
  | with_reducible apply y_tand
  | with_reducible apply y_tor
  | with_reducible apply y_andV
  | with_reducible apply y_orV
  | with_reducible apply y_oft
  | with_reducible apply y_chain
  | with_reducible apply y_un
  | with_reducible apply y_rev
  | with_reducible apply y_revV
  | with_reducible apply y_tup
  | with_reducible apply y_lst
  | with_reducible apply y_sl
  | with_reducible exact y_nop
  | with_reducible apply y_p
  | with_reducible exact g_addI
  | with_reducible exact g_subI
  | with_reducible exact g_eqI
  | with_reducible exact g_eqNilT
  | with_reducible exact alk_int
  | with_reducible exact alk_bl
  | with_reducible exact alk_non
  | with_reducible apply alk_tup
  | with_reducible apply alk_lst
  | with_reducible apply alk_lstR
  | with_reducible apply alk_tupR
  | with_reducible exact alk_nil
  | with_reducible apply alk_cons
  | with_reducible exact g_eqNil eqe_nat (by decide) _
  | with_reducible exact g_eqNil eqe_int (by decide) _
  | with_reducible exact g_neNil eqe_nat (by decide) _
  | with_reducible exact g_neNil eqe_int (by decide) _
  | with_reducible exact g_neI
  | with_reducible exact g_eqB
  | with_reducible exact g_neB
  | with_reducible exact g_eqR
  | with_reducible exact g_neR
  | with_reducible exact g_eqLI
  | with_reducible exact g_neLI
  | with_reducible exact g_eqLR
  | with_reducible exact g_ltI
  | with_reducible exact g_leI
  | with_reducible exact g_gtI
  | with_reducible exact g_geI
  | ((with_reducible show gIx (.tup (_ :: _)) _ = some _); exact rfl)
  | ((with_reducible show gIx (.lst (_ :: _)) _ = some _); exact rfl)
  | with_reducible apply g_ixT
  | with_reducible apply g_ixL
  | with_reducible apply g_ixT0
  | with_reducible apply g_ixR
  | with_reducible apply g_ixRL
  | with_reducible apply g_ixL0
  | with_reducible apply g_addT
  | with_reducible apply g_addL
  | with_reducible apply g_modI
  | with_reducible apply g_divI
  | with_reducible exact isiX_dct_int
  | with_reducible exact isiX_dct_bool
  | with_reducible exact isiX_dct_tuple
  | with_reducible exact isiX_dct_list
  | with_reducible exact isiX_dct_str
  | with_reducible exact y_dict0
  | with_reducible apply isiX_of
  | with_reducible exact isi_non_int
  | with_reducible exact isi_non_bool
  | with_reducible exact isi_non_tuple
  | with_reducible exact isi_non_list
  | with_reducible exact isi_non_str
  | with_reducible exact isi_non_tl
  | with_reducible exact isi_bl_int
  | with_reducible exact isi_bl_bool
  | with_reducible exact isi_bl_tuple
  | with_reducible exact isi_bl_list
  | with_reducible exact isi_bl_str
  | with_reducible exact isi_bl_tl
  | with_reducible exact isi_int_int
  | with_reducible exact isi_int_bool
  | with_reducible exact isi_int_tuple
  | with_reducible exact isi_int_list
  | with_reducible exact isi_int_str
  | with_reducible exact isi_int_tl
  | with_reducible exact isi_str_int
  | with_reducible exact isi_str_bool
  | with_reducible exact isi_str_tuple
  | with_reducible exact isi_str_list
  | with_reducible exact isi_str_str
  | with_reducible exact isi_str_tl
  | with_reducible exact isi_tup_int
  | with_reducible exact isi_tup_bool
  | with_reducible exact isi_tup_tuple
  | with_reducible exact isi_tup_list
  | with_reducible exact isi_tup_str
  | with_reducible exact isi_tup_tl
  | with_reducible exact isi_lst_int
  | with_reducible exact isi_lst_bool
  | with_reducible exact isi_lst_tuple
  | with_reducible exact isi_lst_list
  | with_reducible exact isi_lst_str
  | with_reducible exact isi_lst_tl
  | ((with_reducible show truD _ = some _); exact rfl)
  | with_reducible exact g_lenL
  | with_reducible exact g_lenT
  | ((with_reducible show gLen _ = some _); exact rfl)
  | ((with_reducible show gMax2 _ = some _); exact rfl)
  | ((with_reducible show gMin2 _ = some _); exact rfl)
  | ((with_reducible show gInt _ = some _); exact rfl)
  | ((with_reducible show gList _ = some _); exact rfl)
  | ((with_reducible show gTuple _ = some _); exact rfl)
  | with_reducible exact g_revM
  | with_reducible exact g_revVL
  | with_reducible exact g_revVT
  | ((with_reducible show gRevV _ = some _); exact rfl)
  | with_reducible exact g_negI
  | ((with_reducible show gRev _ = some _); exact rfl)
  | with_reducible exact g_slTo
  | with_reducible exact g_slBT
  | with_reducible exact g_slBL
  | ((with_reducible apply g_slFT); first | exact rfl | omega)
  | ((with_reducible apply g_slFL); first | exact rfl | omega)
  | ((with_reducible apply g_slUT); first | exact rfl | omega)
  | ((with_reducible apply g_slUL); first | exact rfl | omega)
  | with_reducible apply g_slOne
  | ((with_reducible show gSl _ _ _ = some _); exact rfl)
  | ((with_reducible show gIs _ _ = some _); exact rfl)
  | ((with_reducible show gIsNot _ _ = some _); exact rfl)
  | ((with_reducible show List.length _ = FS.ar _); exact rfl)
  | ((with_reducible show FS.io _ = _); exact rfl)
  | ((with_reducible show _ = (R.bor _ :: _)); exact rfl)
  | ((with_reducible show List.length _ + 1 = FS.ar _); exact rfl)
  | ((with_reducible show Zz.sizeOk _ = true); first | exact rfl | (simp [Zz.sizeOk]; done) | (simp [Zz.sizeOk]; omega))
  | with_reducible apply y_lcy
  | with_reducible apply y_lc
  | with_reducible apply y_tgy
  | with_reducible apply y_tg
  | with_reducible apply y_all
  | ((with_reducible show plainB _ _ = true); exact rfl)
  | ((with_reducible show ∀ _, wipeE _ _ = _); exact fun _ => rfl)
  | ((with_reducible show ∀ _ _, wipeE _ _ = _); exact fun _ _ => rfl)
  | with_reducible apply y_gN
  | with_reducible apply y_gNio
  | with_reducible apply y_gT
  | with_reducible exact y_gTn
  | with_reducible apply y_gTc
  | with_reducible apply y_it
  | with_reducible exact itD_vL
  | with_reducible exact itD_vT
  | with_reducible exact itD_fL
  | ((with_reducible apply itD_bo); (exact rfl))
  | with_reducible exact natOf_cast
  | with_reducible exact natOf_sub
  | with_reducible exact natOf_sub1
  | with_reducible exact natOf_add1
  | with_reducible exact natOf_lit
  | ((with_reducible show NatOf _ _); exact rfl)
  | with_reducible apply y_rng1
  | with_reducible apply y_rng2
  | with_reducible apply y_zipT
  | with_reducible apply y_listRng
  | with_reducible apply y_enumT
  | with_reducible apply body_next
  | with_reducible apply run_set
  | with_reducible apply run_drop
  | with_reducible apply run_ret
  | with_reducible apply run_if
  | with_reducible apply run_assoc
  | with_reducible apply run_nop
  | with_reducible apply run_retN
  | with_reducible apply run_end
  | ((with_reducible show pinB _ _ = true); exact rfl)
  | ((with_reducible show fin _ _ = some _); exact rfl)
  | with_reducible apply is_of
  | ((with_reducible show _[_]? = some (some (Sl.ow _))); exact rfl)
  | with_reducible apply y_app
  | with_reducible apply y_popI
  | with_reducible exact s_next
  | with_reducible apply s_nextE
  | with_reducible apply s_seq
  | with_reducible apply s_if
  | with_reducible apply s_set
  | with_reducible apply s_drop
  | with_reducible apply s_par
  | with_reducible apply run_par
  | with_reducible apply run_asg
  | with_reducible apply s_asg
  | with_reducible apply y_subL
  | ((with_reducible show nrmB _ = true); exact rfl)
  | with_reducible apply put_v
  | with_reducible apply put_b
  | ((with_reducible show (_ && _) = false); exact rfl)
  | with_reducible apply put_f
  | with_reducible apply put_vio
  | with_reducible apply put_fio
  | ((with_reducible show (_ = true) → _); intro h__; first | (exfalso; revert h__; simp; done) | skip)
  | ((with_reducible show (_ = false) → _); intro h__; first | (exfalso; revert h__; simp; done) | skip)
  | ((with_reducible show (_ : Int) ≤ _); first | omega | (simp; done) | (simp; omega))
  | ((with_reducible show (_ : Int) < _); first | omega | (simp; done) | (simp; omega))
  | ((with_reducible show (_ : Nat) ≤ _); first | omega | (simp; done) | (simp; omega))
  | ((with_reducible show (_ : Nat) < _); first | omega | (simp; done) | (simp; omega))
  | intro _)
/-! ### what the law says of a value -/
inductive IB where
  | i (x : Int) | b (x : Bool)
def ibD : IB → Dat
  | .i x => .int x
  | .b x => .bl x
inductive PT where
  | no | ls (a b : Int) | tp (a b : IB)
def ptD : PT → Dat
  | .no => .non
  | .ls a b => .lst [.int a, .int b]
  | .tp a b => .tup [ibD a, ibD b]
inductive VL where
  | no | dc | nu | ls (l : List PT) | tp (l : List PT)
def vlD : VL → Dat
  | .no => .non
  | .dc => .dct [] []
  | .nu => .int 0
  | .ls l => .lst (l.map ptD)
  | .tp l => .tup (l.map ptD)
theorem any_ib (a : IB) : AnyV (ibD a) := by cases a <;> trivial
theorem any_pt (a : PT) : AnyT (ptD a) := by
  cases a with
  | no => trivial
  | ls => trivial
  | tp a b => intro x hx; rcases List.mem_cons.mp hx with e | hx
              · rw [e]; exact any_ib a
              · rw [List.mem_singleton.mp hx]; exact any_ib b
theorem any_vl (a : VL) : AnyL (vlD a) := by
  cases a <;> try trivial
  intro x hx
  obtain ⟨p, _, rfl⟩ := List.mem_map.mp hx
  exact any_pt p
/-- no place of many -/
def offB (m : Nat) : IB → Bool
  | .b _ => true
  | .i x => !(decide (0 ≤ x) && decide (x < m))
theorem eqv_ii (a b : Int) : PyData.eqv (.int a) (.int b) = decide (a = b) := by simp only [PyData.eqv]; rfl
theorem inD_rng (m : Nat) (x : Int) (hm : m ≤ 100) : inD (.int x) (.lst ((List.range m).map fun (k : Nat) => Dat.int (k : Int))) = some (decide (0 ≤ x) && decide (x < m)) := by
  obtain ⟨qs, h1, h2, h3⟩ := toPs_map eqe_nat (List.range m)
  have e1 : toP (Dat.lst ((List.range m).map fun (k : Nat) => Dat.int (k : Int))) = some (.list qs) := by
    show (toPs _).map _ = _; rw [h1]; rfl
  unfold inD
  rw [e1]
  show (if (SeqAt.shaped (PyData.int x) && SeqAt.shaped (PyData.list qs)) = true then _ else _) = _
  have s1 : SeqAt.shaped (PyData.int x) = true := rfl
  have s2 : SeqAt.shaped (PyData.list qs) = true := by
    unfold SeqAt.shaped; rw [show (PyData.list qs).canLay0 = true from by simp only [PyData.canLay0, h2], Bool.true_and]
    exact decide_eq_true (by simp only [PyData.depth]; omega)
  simp only [s1, s2, Bool.and_self, if_true]
  have e2 : ∀ l : List Nat, toPs (l.map fun (k : Nat) => Dat.int (k : Int)) = some (l.map fun (k : Nat) => PyData.int (k : Int)) := fun l => by
    have := toPs_ints (l.map fun (k : Nat) => (k : Int)); rw [List.map_map, List.map_map] at this; exact this
  rw [e2] at h1; cases h1
  rw [Option.some.injEq, Bool.eq_iff_iff, List.any_map, List.any_eq_true, Bool.and_eq_true, decide_eq_true_iff, decide_eq_true_iff]
  constructor
  · rintro ⟨k, hk, h⟩
    have hk := List.mem_range.mp hk
    simp only [Function.comp, eqv_ii, decide_eq_true_iff] at h
    omega
  · rintro ⟨h1, h2⟩
    refine ⟨x.toNat, List.mem_range.mpr (by omega), ?_⟩
    simp only [Function.comp, eqv_ii, decide_eq_true_iff]; omega
theorem g_notInR (m : Nat) (x : Int) (hm : m ≤ 100) : gNotIn (.int x) (.lst ((List.range m).map fun (k : Nat) => Dat.int (k : Int))) = some (.val (.bl (!(decide (0 ≤ x) && decide (x < m))))) := by
  unfold gNotIn; rw [inD_rng m x hm]; rfl
theorem eq_ibNil (l : List IB) : gEq (.lst (l.map ibD)) (.lst []) = some (.val (.bl l.isEmpty)) := by
  have key : ∀ l : List IB, ∃ qs, toPs (l.map ibD) = some qs ∧ PyData.canLayAll0 qs = true ∧ PyData.depthAll qs ≤ 0 := fun l => by
    induction l with
    | nil => exact ⟨[], rfl, rfl, by simp [PyData.depthAll]⟩
    | cons a l ih =>
      obtain ⟨qs, h1, h2, h3⟩ := ih
      cases a with
      | i x => exact ⟨.int x :: qs, by rw [List.map_cons]; unfold toPs; rw [h1]; rfl, by simp only [PyData.canLayAll0, PyData.canLay0, h2]; rfl, by simp only [PyData.depthAll, PyData.depth]; omega⟩
      | b x => exact ⟨.bool x :: qs, by rw [List.map_cons]; unfold toPs; rw [h1]; rfl, by simp only [PyData.canLayAll0, PyData.canLay0, h2]; rfl, by simp only [PyData.depthAll, PyData.depth]; omega⟩
  obtain ⟨qs, h1, h2, h3⟩ := key l
  unfold gEq eqD
  have e1 : toP (Dat.lst (l.map ibD)) = some (.list qs) := by show (toPs _).map _ = _; rw [h1]; rfl
  rw [e1]
  have s2 : SeqAt.shaped (PyData.list qs) = true := by
    unfold SeqAt.shaped; rw [show (PyData.list qs).canLay0 = true from by simp only [PyData.canLay0, h2], Bool.true_and]
    exact decide_eq_true (by simp only [PyData.depth]; omega)
  show Option.map _ (if (SeqAt.shaped (PyData.list qs) && SeqAt.shaped (PyData.list [])) = true then some (PyData.eqv (.list qs) (.list [])) else none) = _
  simp only [s2, show SeqAt.shaped (PyData.list []) = true from rfl, Bool.and_self, if_true]
  cases l with
  | nil => cases h1; rfl
  | cons a l =>
    rw [List.map_cons, toPs] at h1
    split at h1 <;> cases h1
    simp only [PyData.eqv, PyData.eqvAll]; rfl
/-- one item's check, by the law -/
def goodPt (m : Nat) : PT → Bool
  | .tp a b => !offB m a && !offB m b && (match a, b with
    | .i x, .i y => !decide (x = y)
    | _, _ => false)
  | _ => false
theorem good_pt (m : Nat) (p : PT) : layB m (ptD p) = goodPt m p := by
  have q : ∀ x : Int, (decide (0 ≤ x) && decide (x ≤ (m : Int) - 1)) = (decide (0 ≤ x) && decide (x < m)) := fun x => by
    congr 1; exact decide_eq_decide.mpr (by omega)
  cases p with
  | no => rfl
  | ls => rfl
  | tp a b =>
    cases a <;> cases b <;> simp [layB, ptD, ibD, goodPt, offB, numB, q]
end Pr
end

section
set_option linter.all false
set_option maxRecDepth 100000
namespace Pr
open PySem PySem.Spec PyProof.Rows L2 Zz
/- row = [script, 0, 8017, 0] -/
def s_law_0 : SS := zSet false 1 (zLst (zCons (zVar 0) (zCons (zC (.int 0)) (zCons (zC (.int 8017)) (zCons (zC (.int 0)) (zNil))))))
/- many = 1 + _law_taken(row, _law_pick(row, [4, 4, 4, 5])) -/
def s_law_1 : SS := zSet false 2 (zBin gAdd (zC (.int 1)) (zCall fs__law_taken (zCons (zVar 1) (zCons (zCall fs__law_pick (zCons (zVar 1) (zCons (zLst (zCons (zC (.int 4)) (zCons (zC (.int 4)) (zCons (zC (.int 4)) (zCons (zC (.int 5)) (zNil)))))) (zNil)))) (zNil)))))
/- base, size = (fewest_lays(many), [0, 1, 3, 5, 9][many - 1]) -/
def s_law_2 : SS := zPar false 4 8 (zCall fs_fewest_lays (zCons (zVar 2) (zNil))) (zBin gIx (zLst (zCons (zC (.int 0)) (zCons (zC (.int 1)) (zCons (zC (.int 3)) (zCons (zC (.int 5)) (zCons (zC (.int 9)) (zNil))))))) (zBin gSub (zVar 2) (zC (.int 1))))
/- if len(base) != size or brings_all(many, base) is not True or shows_fixed(many, base) is not True: -/
def s_law_3 : SS := zIfS false (zTOr (zTB (zBin gNe (zCallB gLen (zCons (zVar 4) (zNil))) (zVar 8))) (zTOr (zTB (zBin gIsNot (zCall fs_brings_all (zCons (zVar 2) (zCons (zVar 4) (zNil)))) (zC (.bl true)))) (zTB (zBin gIsNot (zCall fs_shows_fixed (zCons (zVar 2) (zCons (zVar 4) (zNil)))) (zC (.bl true)))))) (zSeq (zRet false (zC (.bl false))) (zNext)) (zNext)
/- known = [(), ((0, 1),), ((0, 1), (0, 2), (1, 2)), ((0, 1), (2, 3), (0, 2), (1, 3), (1, 2))] -/
def s_law_4 : SS := zSet false 3 (zLst (zCons (zTup (zNil)) (zCons (zTup (zCons (zTup (zCons (zC (.int 0)) (zCons (zC (.int 1)) (zNil)))) (zNil))) (zCons (zTup (zCons (zTup (zCons (zC (.int 0)) (zCons (zC (.int 1)) (zNil)))) (zCons (zTup (zCons (zC (.int 0)) (zCons (zC (.int 2)) (zNil)))) (zCons (zTup (zCons (zC (.int 1)) (zCons (zC (.int 2)) (zNil)))) (zNil))))) (zCons (zTup (zCons (zTup (zCons (zC (.int 0)) (zCons (zC (.int 1)) (zNil)))) (zCons (zTup (zCons (zC (.int 2)) (zCons (zC (.int 3)) (zNil)))) (zCons (zTup (zCons (zC (.int 0)) (zCons (zC (.int 2)) (zNil)))) (zCons (zTup (zCons (zC (.int 1)) (zCons (zC (.int 3)) (zNil)))) (zCons (zTup (zCons (zC (.int 1)) (zCons (zC (.int 2)) (zNil)))) (zNil))))))) (zNil))))))
/- known = known + [((0, 3), (1, 4), (0, 2), (1, 3), (0, 1), (2, 4), (1, 2), (3, 4), (2, 3))] -/
def s_law_5 : SS := zSet false 3 (zBin gAdd (zVar 3) (zLst (zCons (zTup (zCons (zTup (zCons (zC (.int 0)) (zCons (zC (.int 3)) (zNil)))) (zCons (zTup (zCons (zC (.int 1)) (zCons (zC (.int 4)) (zNil)))) (zCons (zTup (zCons (zC (.int 0)) (zCons (zC (.int 2)) (zNil)))) (zCons (zTup (zCons (zC (.int 1)) (zCons (zC (.int 3)) (zNil)))) (zCons (zTup (zCons (zC (.int 0)) (zCons (zC (.int 1)) (zNil)))) (zCons (zTup (zCons (zC (.int 2)) (zCons (zC (.int 4)) (zNil)))) (zCons (zTup (zCons (zC (.int 1)) (zCons (zC (.int 2)) (zNil)))) (zCons (zTup (zCons (zC (.int 3)) (zCons (zC (.int 4)) (zNil)))) (zCons (zTup (zCons (zC (.int 2)) (zCons (zC (.int 3)) (zNil)))) (zNil))))))))))) (zNil))))
/- if shows_fixed(many, known[many - 1]) is not True: -/
def s_law_6 : SS := zIfS false (zTB (zBin gIsNot (zCall fs_shows_fixed (zCons (zVar 2) (zCons (zBin gIx (zVar 3) (zBin gSub (zVar 2) (zC (.int 1)))) (zNil)))) (zC (.bl true)))) (zSeq (zRet false (zC (.bl false))) (zNext)) (zNext)
/- base = _law_pick(row, [base, known[many - 1]]) -/
def s_law_7 : SS := zSet false 4 (zCall fs__law_pick (zCons (zVar 1) (zCons (zLst (zCons (zVar 4) (zCons (zBin gIx (zVar 3) (zBin gSub (zVar 2) (zC (.int 1)))) (zNil)))) (zNil))))
/- at, pair = (_law_taken(row, max(1, size)), _law_order(row, max(2, many))[:2]) -/
def s_law_8 : SS := zPar false 9 10 (zCall fs__law_taken (zCons (zVar 1) (zCons (zCallB gMax2 (zCons (zC (.int 1)) (zCons (zVar 8) (zNil)))) (zNil)))) (zSl (zCall fs__law_order (zCons (zVar 1) (zCons (zCallB gMax2 (zCons (zC (.int 2)) (zCons (zVar 2) (zNil)))) (zNil)))) (zNoP) (zP (zC (.int 2))))
/- some = [base, base[::-1], base[1:], base + (pair,), base[:at] + (pair,) + base[at + 1:], base[1:] + base[:1]] -/
def s_law_9 : SS := zSet false 5 (zLst (zCons (zVar 4) (zCons (zRevV (zVar 4)) (zCons (zSl (zVar 4) (zP (zC (.int 1))) (zNoP)) (zCons (zBin gAdd (zVar 4) (zTup (zCons (zVar 10) (zNil)))) (zCons (zBin gAdd (zBin gAdd (zSl (zVar 4) (zNoP) (zP (zVar 9))) (zTup (zCons (zVar 10) (zNil)))) (zSl (zVar 4) (zP (zBin gAdd (zVar 9) (zC (.int 1)))) (zNoP))) (zCons (zBin gAdd (zSl (zVar 4) (zP (zC (.int 1))) (zNoP)) (zSl (zVar 4) (zNoP) (zP (zC (.int 1))))) (zNil))))))))
/- odd = [None, list(base), {}, 0, base[:-1] + (None,), base[:-1] + ((0, 0),), base[:-1] + ((0, many),), base[:-1] + ([0, 1],), base[:-1] + ((True, 0),)] -/
def s_law_10 : SS := zSet false 6 (zLst (zCons (zC .non) (zCons (zCallB gList (zCons (zVar 4) (zNil))) (zCons (zDict0) (zCons (zC (.int 0)) (zCons (zBin gAdd (zSl (zVar 4) (zNoP) (zP (zUn gNeg (zC (.int 1))))) (zTup (zCons (zC .non) (zNil)))) (zCons (zBin gAdd (zSl (zVar 4) (zNoP) (zP (zUn gNeg (zC (.int 1))))) (zTup (zCons (zTup (zCons (zC (.int 0)) (zCons (zC (.int 0)) (zNil)))) (zNil)))) (zCons (zBin gAdd (zSl (zVar 4) (zNoP) (zP (zUn gNeg (zC (.int 1))))) (zTup (zCons (zTup (zCons (zC (.int 0)) (zCons (zVar 2) (zNil)))) (zNil)))) (zCons (zBin gAdd (zSl (zVar 4) (zNoP) (zP (zUn gNeg (zC (.int 1))))) (zTup (zCons (zLst (zCons (zC (.int 0)) (zCons (zC (.int 1)) (zNil)))) (zNil)))) (zCons (zBin gAdd (zSl (zVar 4) (zNoP) (zP (zUn gNeg (zC (.int 1))))) (zTup (zCons (zTup (zCons (zC (.bl true)) (zCons (zC (.int 0)) (zNil)))) (zNil)))) (zNil)))))))))))
/- for value in [_law_pick(row, some), _law_pick(row, some), _law_pick(row, odd)]: -/
def s_law_11b : SS := zSeq (zSet false 11 (zAndV (zCallB gIsiX (zCons (zVar 7) (zCons (zC (.ty "tuple")) (zNil)))) (zBin gEq (zCallB gLen (zCons (zVar 7) (zNil))) (zVar 8)))) (zSeq (zFor false (zIt (zIf (zTru (zVar 11)) (zVar 7) (zLst (zNil)))) (gN false 12) (zSeq (zSet false 11 (zAndV (zVar 11) (zAndV (zCallB gIsiX (zCons (zVar 12) (zCons (zC (.ty "tuple")) (zNil)))) (zBin gEq (zCallB gLen (zCons (zVar 12) (zNil))) (zC (.int 2)))))) (zSeq (zSet false 11 (zAndV (zVar 11) (zAndV (zBin gEq (zLc (zIt (zVar 12)) (gN false 14) (zTOr (zTru (zCallB gIsiX (zCons (zVar 14) (zCons (zC (.ty "bool")) (zNil))))) (zTB (zBin gNotIn (zVar 14) (zListRng (zVar 2))))) (zVar 14) [14]) (zLst (zNil))) (zBin gNe (zBin gIx (zVar 12) (zC (.int 0))) (zBin gIx (zVar 12) (zC (.int 1))))))) (zNext)))) (zSeq (zIfS false (zTru (zVar 11)) (zSeq (zSet false 13 (zLc (zIt (zCall fs__law_columns (zCons (zVar 2) (zNil)))) (gN false 12) (zYes) (zCall fs__law_carried (zCons (zVar 12) (zCons (zVar 7) (zNil)))) [12])) (zSeq (zSet false 11 (zBin gEq (zLc (zIt (zVar 13)) (gN false 12) (zTB (zBin gNe (zCallB gList (zCons (zVar 12) (zNil))) (zRevV (zCallB (gSorted false) (zCons (zVar 12) (zNil)))))) (zVar 12) [12]) (zLst (zNil)))) (zNext))) (zNext)) (zSeq (zIfS false (zTNot (zTru (zCall fs__law_alike (zCons (zCall fs_shows_fixed (zCons (zVar 2) (zCons (zVar 7) (zNil)))) (zCons (zVar 11) (zNil)))))) (zSeq (zRet false (zC (.bl false))) (zNext)) (zNext)) (zNext))))
def s_law_11 : SS := zFor false (zIt (zLst (zCons (zCall fs__law_pick (zCons (zVar 1) (zCons (zVar 5) (zNil)))) (zCons (zCall fs__law_pick (zCons (zVar 1) (zCons (zVar 5) (zNil)))) (zCons (zCall fs__law_pick (zCons (zVar 1) (zCons (zVar 6) (zNil)))) (zNil)))))) (gN false 7) s_law_11b
/- return True -/
def s_law_12 : SS := zRet false (zC (.bl true))
theorem eq_law : g_law = zSeq s_law_0 (zSeq s_law_1 (zSeq s_law_2 (zSeq s_law_3 (zSeq s_law_4 (zSeq s_law_5 (zSeq s_law_6 (zSeq s_law_7 (zSeq s_law_8 (zSeq s_law_9 (zSeq s_law_10 (zSeq s_law_11 (zSeq s_law_12 (zNext))))))))))))) := rfl
end Pr
end

section
set_option linter.all false
set_option maxRecDepth 100000
set_option maxHeartbeats 1000000
namespace Pr
open PySem PySem.Spec PyProof.Rows L2 Zz
local macro_rules | `(tactic| array_get_dec) => `(tactic| first
  | with_reducible exact set_z
  | with_reducible apply set_s
  | ((with_reducible apply y_sh); exact rfl)
  | ((with_reducible apply y_ow); exact rfl)
  | ((with_reducible show rdv _ _ = some _); exact rfl)
  | with_reducible exact y_c
  | with_reducible exact nrm_v
  | with_reducible exact nrm_f
  | with_reducible exact nrm_b
  | with_reducible apply y_cons
  | ((with_reducible show zNil _ = _); exact y_nil)
  | ((with_reducible show rdvs _ _ = some _); exact rfl)
  | ((with_reducible show _ < List.length _); exact Nat.le_of_ble_eq_true rfl)
  | ((with_reducible show _ < List.length _); exact List.mem_range.mp ‹_›)
  | ((with_reducible show esc _ (R.val _) = _); exact esc_v)
  | with_reducible exact esc_f
  | ((with_reducible show escs _ [] = _); exact escs_nil)
  | with_reducible apply escs_cons
  | with_reducible apply y_bin
  | with_reducible apply y_callB
  | with_reducible exact wipe_nil
  | with_reducible apply wipe_cons
  | ((with_reducible apply esc_bo); (exact rfl))
  | ((with_reducible apply esc_bs); (exact rfl))
  | ((with_reducible show ∀ _, esc _ _ = some _); exact fun _ => rfl)
  | ((with_reducible show ∀ _ _, esc _ _ = some _); exact fun _ _ => rfl)
  | with_reducible apply y_tb
  | with_reducible apply y_tru
  | with_reducible apply y_tnot
  | with_reducible apply y_tand
  | with_reducible apply y_tor
  | with_reducible apply y_andV
  | with_reducible apply y_orV
  | with_reducible apply y_oft
  | with_reducible apply y_chain
  | with_reducible apply y_un
  | with_reducible apply y_rev
  | with_reducible apply y_revV
  | with_reducible apply y_tup
  | with_reducible apply y_lst
  | with_reducible apply y_sl
  | with_reducible exact y_nop
  | with_reducible apply y_p
  | with_reducible exact g_addI
  | with_reducible exact g_subI
  | with_reducible exact g_eqI
  | with_reducible exact g_eqNilT
  | with_reducible exact alk_int
  | with_reducible exact alk_bl
  | with_reducible exact alk_non
  | with_reducible apply alk_tup
  | with_reducible apply alk_lst
  | with_reducible apply alk_lstR
  | with_reducible apply alk_tupR
  | with_reducible exact alk_nil
  | with_reducible apply alk_cons
  | with_reducible exact g_eqNil eqe_nat (by decide) _
  | with_reducible exact g_eqNil eqe_int (by decide) _
  | with_reducible exact g_neNil eqe_nat (by decide) _
  | with_reducible exact g_neNil eqe_int (by decide) _
  | with_reducible exact g_neI
  | with_reducible exact g_eqB
  | with_reducible exact g_neB
  | with_reducible exact g_eqR
  | with_reducible exact g_neR
  | with_reducible exact g_eqLI
  | with_reducible exact g_neLI
  | with_reducible exact g_eqLR
  | with_reducible exact g_ltI
  | with_reducible exact g_leI
  | with_reducible exact g_gtI
  | with_reducible exact g_geI
  | ((with_reducible show gIx (.tup (_ :: _)) _ = some _); exact rfl)
  | ((with_reducible show gIx (.lst (_ :: _)) _ = some _); exact rfl)
  | with_reducible apply g_ixT
  | with_reducible apply g_ixL
  | with_reducible apply g_ixT0
  | with_reducible apply g_ixR
  | with_reducible apply g_ixRL
  | with_reducible apply g_ixL0
  | with_reducible apply g_addT
  | with_reducible apply g_addL
  | with_reducible apply g_modI
  | with_reducible apply g_divI
  | with_reducible exact isiX_dct_int
  | with_reducible exact isiX_dct_bool
  | with_reducible exact isiX_dct_tuple
  | with_reducible exact isiX_dct_list
  | with_reducible exact isiX_dct_str
  | with_reducible exact y_dict0
  | with_reducible apply isiX_of
  | with_reducible exact isi_non_int
  | with_reducible exact isi_non_bool
  | with_reducible exact isi_non_tuple
  | with_reducible exact isi_non_list
  | with_reducible exact isi_non_str
  | with_reducible exact isi_non_tl
  | with_reducible exact isi_bl_int
  | with_reducible exact isi_bl_bool
  | with_reducible exact isi_bl_tuple
  | with_reducible exact isi_bl_list
  | with_reducible exact isi_bl_str
  | with_reducible exact isi_bl_tl
  | with_reducible exact isi_int_int
  | with_reducible exact isi_int_bool
  | with_reducible exact isi_int_tuple
  | with_reducible exact isi_int_list
  | with_reducible exact isi_int_str
  | with_reducible exact isi_int_tl
  | with_reducible exact isi_str_int
  | with_reducible exact isi_str_bool
  | with_reducible exact isi_str_tuple
  | with_reducible exact isi_str_list
  | with_reducible exact isi_str_str
  | with_reducible exact isi_str_tl
  | with_reducible exact isi_tup_int
  | with_reducible exact isi_tup_bool
  | with_reducible exact isi_tup_tuple
  | with_reducible exact isi_tup_list
  | with_reducible exact isi_tup_str
  | with_reducible exact isi_tup_tl
  | with_reducible exact isi_lst_int
  | with_reducible exact isi_lst_bool
  | with_reducible exact isi_lst_tuple
  | with_reducible exact isi_lst_list
  | with_reducible exact isi_lst_str
  | with_reducible exact isi_lst_tl
  | ((with_reducible show truD _ = some _); exact rfl)
  | with_reducible exact g_lenL
  | with_reducible exact g_lenT
  | ((with_reducible show gLen _ = some _); exact rfl)
  | ((with_reducible show gMax2 _ = some _); exact rfl)
  | ((with_reducible show gMin2 _ = some _); exact rfl)
  | ((with_reducible show gInt _ = some _); exact rfl)
  | ((with_reducible show gList _ = some _); exact rfl)
  | ((with_reducible show gTuple _ = some _); exact rfl)
  | with_reducible exact g_revM
  | with_reducible exact g_revVL
  | with_reducible exact g_revVT
  | ((with_reducible show gRevV _ = some _); exact rfl)
  | with_reducible exact g_negI
  | ((with_reducible show gRev _ = some _); exact rfl)
  | with_reducible exact g_slTo
  | with_reducible exact g_slBT
  | with_reducible exact g_slBL
  | ((with_reducible apply g_slFT); first | exact rfl | omega)
  | ((with_reducible apply g_slFL); first | exact rfl | omega)
  | ((with_reducible apply g_slUT); first | exact rfl | omega)
  | ((with_reducible apply g_slUL); first | exact rfl | omega)
  | with_reducible apply g_slOne
  | ((with_reducible show gSl _ _ _ = some _); exact rfl)
  | ((with_reducible show gIs _ _ = some _); exact rfl)
  | ((with_reducible show gIsNot _ _ = some _); exact rfl)
  | ((with_reducible show List.length _ = FS.ar _); exact rfl)
  | ((with_reducible show FS.io _ = _); exact rfl)
  | ((with_reducible show _ = (R.bor _ :: _)); exact rfl)
  | ((with_reducible show List.length _ + 1 = FS.ar _); exact rfl)
  | ((with_reducible show Zz.sizeOk _ = true); first | exact rfl | (simp [Zz.sizeOk]; done) | (simp [Zz.sizeOk]; omega))
  | with_reducible apply y_lcy
  | with_reducible apply y_lc
  | with_reducible apply y_tgy
  | with_reducible apply y_tg
  | with_reducible apply y_all
  | ((with_reducible show plainB _ _ = true); exact rfl)
  | ((with_reducible show ∀ _, wipeE _ _ = _); exact fun _ => rfl)
  | ((with_reducible show ∀ _ _, wipeE _ _ = _); exact fun _ _ => rfl)
  | with_reducible apply y_gN
  | with_reducible apply y_gNio
  | with_reducible apply y_gT
  | with_reducible exact y_gTn
  | with_reducible apply y_gTc
  | with_reducible apply y_it
  | with_reducible exact itD_vL
  | with_reducible exact itD_vT
  | with_reducible exact itD_fL
  | ((with_reducible apply itD_bo); (exact rfl))
  | with_reducible exact natOf_cast
  | with_reducible exact natOf_sub
  | with_reducible exact natOf_sub1
  | with_reducible exact natOf_add1
  | with_reducible exact natOf_lit
  | ((with_reducible show NatOf _ _); exact rfl)
  | with_reducible apply y_rng1
  | with_reducible apply y_rng2
  | with_reducible apply y_zipT
  | with_reducible apply y_listRng
  | with_reducible apply y_enumT
  | with_reducible apply body_next
  | with_reducible apply run_set
  | with_reducible apply run_drop
  | with_reducible apply run_ret
  | with_reducible apply run_if
  | with_reducible apply run_assoc
  | with_reducible apply run_nop
  | with_reducible apply run_retN
  | with_reducible apply run_end
  | ((with_reducible show pinB _ _ = true); exact rfl)
  | ((with_reducible show fin _ _ = some _); exact rfl)
  | with_reducible apply is_of
  | ((with_reducible show _[_]? = some (some (Sl.ow _))); exact rfl)
  | with_reducible apply y_app
  | with_reducible apply y_popI
  | with_reducible exact s_next
  | with_reducible apply s_nextE
  | with_reducible apply s_seq
  | with_reducible apply s_if
  | with_reducible apply s_set
  | with_reducible apply s_drop
  | with_reducible apply s_par
  | with_reducible apply run_par
  | with_reducible apply run_asg
  | with_reducible apply s_asg
  | with_reducible apply y_subL
  | ((with_reducible show nrmB _ = true); exact rfl)
  | with_reducible apply put_v
  | with_reducible apply put_b
  | ((with_reducible show (_ && _) = false); exact rfl)
  | with_reducible apply put_f
  | with_reducible apply put_vio
  | with_reducible apply put_fio
  | ((with_reducible show (_ = true) → _); intro h__; first | (exfalso; revert h__; simp; done) | skip)
  | ((with_reducible show (_ = false) → _); intro h__; first | (exfalso; revert h__; simp; done) | skip)
  | ((with_reducible show (_ : Int) ≤ _); first | omega | (simp; done) | (simp; omega))
  | ((with_reducible show (_ : Int) < _); first | omega | (simp; done) | (simp; omega))
  | ((with_reducible show (_ : Nat) ≤ _); first | omega | (simp; done) | (simp; omega))
  | ((with_reducible show (_ : Nat) < _); first | omega | (simp; done) | (simp; omega))
  | intro _)
def knownOf : Nat → List (Nat × Nat)
  | 2 => [(0, 1)]
  | 3 => [(0, 1), (0, 2), (1, 2)]
  | 4 => [(0, 1), (2, 3), (0, 2), (1, 3), (1, 2)]
  | 5 => [(0, 3), (1, 4), (0, 2), (1, 3), (0, 1), (2, 4), (1, 2), (3, 4), (2, 3)]
  | _ => []
abbrev baseD (ps : List (Nat × Nat)) : Dat := .tup (ps.map pairD)
def KN : List Dat := [baseD (knownOf 1), baseD (knownOf 2), baseD (knownOf 3), baseD (knownOf 4), baseD (knownOf 5)]
theorem five {m : Nat} (h1 : 1 ≤ m) (h5 : m ≤ 5) : m = 1 ∨ m = 2 ∨ m = 3 ∨ m = 4 ∨ m = 5 := by omega
theorem ix_size (m : Nat) (h1 : 1 ≤ m) (h5 : m ≤ 5) : gIx (.lst [.int 0, .int 1, .int 3, .int 5, .int 9]) (.int ((m : Int) - 1)) = some (.val (.int (sizeOf' m : Nat))) := by
  obtain rfl | rfl | rfl | rfl | rfl := five h1 h5
  all_goals rfl
theorem ix_known (m : Nat) (h1 : 1 ≤ m) (h5 : m ≤ 5) : gIx (.lst KN) (.int ((m : Int) - 1)) = some (.val (baseD (knownOf m))) := by
  obtain rfl | rfl | rfl | rfl | rfl := five h1 h5
  all_goals rfl
theorem len_known (m : Nat) (h1 : 1 ≤ m) (h5 : m ≤ 5) : (knownOf m).length = sizeOf' m := by
  obtain rfl | rfl | rfl | rfl | rfl := five h1 h5
  all_goals rfl
theorem len9 (m : Nat) (h1 : 1 ≤ m) (h5 : m ≤ 5) : sizeOf' m ≤ 9 := by
  obtain rfl | rfl | rfl | rfl | rfl := five h1 h5
  all_goals decide
instance (m : Nat) (ps : List (Nat × Nat)) : Decidable (LaysOk m ps) := by unfold LaysOk; infer_instance
theorem ok_known (m : Nat) (h1 : 1 ≤ m) (h5 : m ≤ 5) : LaysOk m (knownOf m) := by
  obtain rfl | rfl | rfl | rfl | rfl := five h1 h5
  all_goals decide
theorem ok_fewest (m : Nat) (h1 : 1 ≤ m) (h5 : m ≤ 5) : LaysOk m (fewestOf m) := by
  obtain rfl | rfl | rfl | rfl | rfl := five h1 h5
  all_goals decide
def downB : List Int → Bool
  | x :: y :: l => decide (y ≤ x) && downB (y :: l)
  | _ => true
theorem downB_pw : ∀ l : List Int, downB l = true → l.Pairwise (fun x y => y ≤ x)
  | [], _ => .nil
  | [x], _ => by simp
  | x :: y :: l, h => by
    simp only [downB, Bool.and_eq_true, decide_eq_true_iff] at h
    have := downB_pw (y :: l) h.2
    refine List.pairwise_cons.mpr ⟨fun z hz => ?_, this⟩
    rcases List.mem_cons.mp hz with rfl | hz
    · exact h.1
    · have := (List.pairwise_cons.mp this).1 z hz; omega
theorem leftOf_nil {m : Nat} {ps : List (Nat × Nat)} (hp : LaysOk m ps) (h : ((colsOf m).all fun c => downB (ps.foldl stepL c)) = true) : leftOf m ps = [] := by
  unfold leftOf
  rw [List.filter_eq_nil_iff]
  intro c hc
  have h1 := List.all_eq_true.mp h c hc
  have hpm := carried_perm ps c fun p hq => by rw [cols_len m c hc]; exact hp p hq
  have : ps.foldl stepL c = dnI c := List.Perm.eq_of_pairwise (le := fun x y : Int => y ≤ x) (fun a b _ _ h1 h2 => by omega) (downB_pw _ h1) (dn_pw c) (hpm.trans (dn_perm c).symm)
  simp [this]
theorem left_known (m : Nat) (h1 : 1 ≤ m) (h5 : m ≤ 5) : leftOf m (knownOf m) = [] := by
  refine leftOf_nil (ok_known m h1 h5) ?_
  obtain rfl | rfl | rfl | rfl | rfl := five h1 h5
  all_goals decide +kernel
theorem left_fewest (m : Nat) (h1 : 1 ≤ m) (h5 : m ≤ 5) : leftOf m (fewestOf m) = [] := by
  refine leftOf_nil (ok_fewest m h1 h5) ?_
  obtain rfl | rfl | rfl | rfl | rfl := five h1 h5
  all_goals decide +kernel
theorem e_pick (ns : List Int) (s : Rw) (l : List Dat) (h1 : 0 < l.length) (h2 : l.length ≤ 1000) : ∃ (n : Nat) (s' : Rw) (d : Dat), n < l.length ∧ l[n]? = some d ∧ fs__law_pick.run [rowR ns s, .lst l] = some (d, false, rowR ns s') := by
  obtain ⟨n, s', hn, hr⟩ := e_taken ns s l.length (by omega) (by omega)
  have hn : n < l.length := by omega
  refine ⟨n, s', l[n], hn, List.getElem?_eq_getElem hn, rd__law_pick ?_⟩
  unfold g__law_pick
  have hx : gIx (.lst l) (.int (n : Int)) = some (.val l[n]) := by
    show (atI l n).map R.val = _
    unfold atI; rw [ixN_nat hn]; show (l[n]?).map R.val = _; rw [List.getElem?_eq_getElem hn]; rfl
  repeat' (first | with_reducible exact hx | array_get_dec | with_reducible apply y_callio (hr := hr))
  all_goals rfl
variable (a0 a1 a2 a3 a4 a5 a6 a7 a8 a9 a10 a11 a12 a13 a14 : Option Sl) (m : Nat) (h1 : 1 ≤ m) (h5 : m ≤ 5)
include h1 h5
theorem st2 : s_law_2 [a0, a1, some (.sh (natD m)), a3, a4, a5, a6, a7, a8, a9, a10, a11, a12, a13, a14] =
    some (.next [a0, a1, some (.sh (natD m)), a3, some (.sh (baseD (fewestOf m))), a5, a6, a7, some (.sh (natD (sizeOf' m))), a9, a10, a11, a12, a13, a14]) := by
  unfold s_law_2
  have hf := e_fewest_lays m h1 h5
  repeat' (first | with_reducible exact ix_size m h1 h5 | array_get_dec | with_reducible apply y_callV (hr := hf))
theorem g_isNotT : gIsNot (.bl true) (.bl true) = some (.val (.bl false)) := rfl
theorem st3 : s_law_3 [a0, a1, some (.sh (natD m)), a3, some (.sh (baseD (fewestOf m))), a5, a6, a7, some (.sh (natD (sizeOf' m))), a9, a10, a11, a12, a13, a14] =
    some (.next [a0, a1, some (.sh (natD m)), a3, some (.sh (baseD (fewestOf m))), a5, a6, a7, some (.sh (natD (sizeOf' m))), a9, a10, a11, a12, a13, a14]) := by
  unfold s_law_3
  have h9 : (fewestOf m).length ≤ 9 := len9 m h1 h5
  have hb := e_brings_all m (fewestOf m) h1 h5 (by omega) (ok_fewest m h1 h5)
  have hs := e_shows m h1 h5 (fewestOf m) rfl (ok_fewest m h1 h5) (by omega)
  rw [left_fewest m h1 h5] at hb hs
  repeat' (first | array_get_dec | with_reducible apply y_callV (hr := hb) | with_reducible apply y_callV (hr := hs))
  all_goals trace_state
end Pr
end

section
set_option linter.all false
set_option maxRecDepth 100000
set_option maxHeartbeats 1000000
namespace Pr
open PySem PySem.Spec PyProof.Rows L2 Zz
local macro_rules | `(tactic| array_get_dec) => `(tactic| first
  | with_reducible exact set_z
  | with_reducible apply set_s
  | ((with_reducible apply y_sh); exact rfl)
  | ((with_reducible apply y_ow); exact rfl)
  | ((with_reducible show rdv _ _ = some _); exact rfl)
  | with_reducible exact y_c
  | with_reducible exact nrm_v
  | with_reducible exact nrm_f
  | with_reducible exact nrm_b
  | with_reducible apply y_cons
  | ((with_reducible show zNil _ = _); exact y_nil)
  | ((with_reducible show rdvs _ _ = some _); exact rfl)
  | ((with_reducible show _ < List.length _); exact Nat.le_of_ble_eq_true rfl)
  | ((with_reducible show _ < List.length _); exact List.mem_range.mp ‹_›)
  | ((with_reducible show esc _ (R.val _) = _); exact esc_v)
  | with_reducible exact esc_f
  | ((with_reducible show escs _ [] = _); exact escs_nil)
  | with_reducible apply escs_cons
  | with_reducible apply y_bin
  | with_reducible apply y_callB
  | with_reducible exact wipe_nil
  | with_reducible apply wipe_cons
  | ((with_reducible apply esc_bo); (exact rfl))
  | ((with_reducible apply esc_bs); (exact rfl))
  | ((with_reducible show ∀ _, esc _ _ = some _); exact fun _ => rfl)
  | ((with_reducible show ∀ _ _, esc _ _ = some _); exact fun _ _ => rfl)
  | with_reducible apply y_tb
  | with_reducible apply y_tru
  | with_reducible apply y_tnot
  | with_reducible apply y_tand
  | with_reducible apply y_tor
  | with_reducible apply y_andV
  | with_reducible apply y_orV
  | with_reducible apply y_oft
  | with_reducible apply y_chain
  | with_reducible apply y_un
  | with_reducible apply y_rev
  | with_reducible apply y_revV
  | with_reducible apply y_tup
  | with_reducible apply y_lst
  | with_reducible apply y_sl
  | with_reducible exact y_nop
  | with_reducible apply y_p
  | with_reducible exact g_addI
  | with_reducible exact g_subI
  | with_reducible exact g_eqI
  | with_reducible exact g_eqNilT
  | with_reducible exact alk_int
  | with_reducible exact alk_bl
  | with_reducible exact alk_non
  | with_reducible apply alk_tup
  | with_reducible apply alk_lst
  | with_reducible apply alk_lstR
  | with_reducible apply alk_tupR
  | with_reducible exact alk_nil
  | with_reducible apply alk_cons
  | with_reducible exact g_eqNil eqe_nat (by decide) _
  | with_reducible exact g_eqNil eqe_int (by decide) _
  | with_reducible exact g_neNil eqe_nat (by decide) _
  | with_reducible exact g_neNil eqe_int (by decide) _
  | with_reducible exact g_neI
  | with_reducible exact g_eqB
  | with_reducible exact g_neB
  | with_reducible exact g_eqR
  | with_reducible exact g_neR
  | with_reducible exact g_eqLI
  | with_reducible exact g_neLI
  | with_reducible exact g_eqLR
  | with_reducible exact g_ltI
  | with_reducible exact g_leI
  | with_reducible exact g_gtI
  | with_reducible exact g_geI
  | ((with_reducible show gIx (.tup (_ :: _)) _ = some _); exact rfl)
  | ((with_reducible show gIx (.lst (_ :: _)) _ = some _); exact rfl)
  | with_reducible apply g_ixT
  | with_reducible apply g_ixL
  | with_reducible apply g_ixT0
  | with_reducible apply g_ixR
  | with_reducible apply g_ixRL
  | with_reducible apply g_ixL0
  | with_reducible apply g_addT
  | with_reducible apply g_addL
  | with_reducible apply g_modI
  | with_reducible apply g_divI
  | with_reducible exact isiX_dct_int
  | with_reducible exact isiX_dct_bool
  | with_reducible exact isiX_dct_tuple
  | with_reducible exact isiX_dct_list
  | with_reducible exact isiX_dct_str
  | with_reducible exact y_dict0
  | with_reducible apply isiX_of
  | with_reducible exact isi_non_int
  | with_reducible exact isi_non_bool
  | with_reducible exact isi_non_tuple
  | with_reducible exact isi_non_list
  | with_reducible exact isi_non_str
  | with_reducible exact isi_non_tl
  | with_reducible exact isi_bl_int
  | with_reducible exact isi_bl_bool
  | with_reducible exact isi_bl_tuple
  | with_reducible exact isi_bl_list
  | with_reducible exact isi_bl_str
  | with_reducible exact isi_bl_tl
  | with_reducible exact isi_int_int
  | with_reducible exact isi_int_bool
  | with_reducible exact isi_int_tuple
  | with_reducible exact isi_int_list
  | with_reducible exact isi_int_str
  | with_reducible exact isi_int_tl
  | with_reducible exact isi_str_int
  | with_reducible exact isi_str_bool
  | with_reducible exact isi_str_tuple
  | with_reducible exact isi_str_list
  | with_reducible exact isi_str_str
  | with_reducible exact isi_str_tl
  | with_reducible exact isi_tup_int
  | with_reducible exact isi_tup_bool
  | with_reducible exact isi_tup_tuple
  | with_reducible exact isi_tup_list
  | with_reducible exact isi_tup_str
  | with_reducible exact isi_tup_tl
  | with_reducible exact isi_lst_int
  | with_reducible exact isi_lst_bool
  | with_reducible exact isi_lst_tuple
  | with_reducible exact isi_lst_list
  | with_reducible exact isi_lst_str
  | with_reducible exact isi_lst_tl
  | ((with_reducible show truD _ = some _); exact rfl)
  | with_reducible exact g_lenL
  | with_reducible exact g_lenT
  | ((with_reducible show gLen _ = some _); exact rfl)
  | ((with_reducible show gMax2 _ = some _); exact rfl)
  | ((with_reducible show gMin2 _ = some _); exact rfl)
  | ((with_reducible show gInt _ = some _); exact rfl)
  | ((with_reducible show gList _ = some _); exact rfl)
  | ((with_reducible show gTuple _ = some _); exact rfl)
  | with_reducible exact g_revM
  | with_reducible exact g_revVL
  | with_reducible exact g_revVT
  | ((with_reducible show gRevV _ = some _); exact rfl)
  | with_reducible exact g_negI
  | ((with_reducible show gRev _ = some _); exact rfl)
  | with_reducible exact g_slTo
  | with_reducible exact g_slBT
  | with_reducible exact g_slBL
  | ((with_reducible apply g_slFT); first | exact rfl | omega)
  | ((with_reducible apply g_slFL); first | exact rfl | omega)
  | ((with_reducible apply g_slUT); first | exact rfl | omega)
  | ((with_reducible apply g_slUL); first | exact rfl | omega)
  | with_reducible apply g_slOne
  | ((with_reducible show gSl _ _ _ = some _); exact rfl)
  | ((with_reducible show gIs _ _ = some _); exact rfl)
  | ((with_reducible show gIsNot _ _ = some _); exact rfl)
  | ((with_reducible show List.length _ = FS.ar _); exact rfl)
  | ((with_reducible show FS.io _ = _); exact rfl)
  | ((with_reducible show _ = (R.bor _ :: _)); exact rfl)
  | ((with_reducible show List.length _ + 1 = FS.ar _); exact rfl)
  | ((with_reducible show Zz.sizeOk _ = true); first | exact rfl | (simp [Zz.sizeOk]; done) | (simp [Zz.sizeOk]; omega))
  | with_reducible apply y_lcy
  | with_reducible apply y_lc
  | with_reducible apply y_tgy
  | with_reducible apply y_tg
  | with_reducible apply y_all
  | ((with_reducible show plainB _ _ = true); exact rfl)
  | ((with_reducible show ∀ _, wipeE _ _ = _); exact fun _ => rfl)
  | ((with_reducible show ∀ _ _, wipeE _ _ = _); exact fun _ _ => rfl)
  | with_reducible apply y_gN
  | with_reducible apply y_gNio
  | with_reducible apply y_gT
  | with_reducible exact y_gTn
  | with_reducible apply y_gTc
  | with_reducible apply y_it
  | with_reducible exact itD_vL
  | with_reducible exact itD_vT
  | with_reducible exact itD_fL
  | ((with_reducible apply itD_bo); (exact rfl))
  | with_reducible exact natOf_cast
  | with_reducible exact natOf_sub
  | with_reducible exact natOf_sub1
  | with_reducible exact natOf_add1
  | with_reducible exact natOf_lit
  | ((with_reducible show NatOf _ _); exact rfl)
  | with_reducible apply y_rng1
  | with_reducible apply y_rng2
  | with_reducible apply y_zipT
  | with_reducible apply y_listRng
  | with_reducible apply y_enumT
  | with_reducible apply body_next
  | with_reducible apply run_set
  | with_reducible apply run_drop
  | with_reducible apply run_ret
  | with_reducible apply run_if
  | with_reducible apply run_assoc
  | with_reducible apply run_nop
  | with_reducible apply run_retN
  | with_reducible apply run_end
  | ((with_reducible show pinB _ _ = true); exact rfl)
  | ((with_reducible show fin _ _ = some _); exact rfl)
  | with_reducible apply is_of
  | ((with_reducible show _[_]? = some (some (Sl.ow _))); exact rfl)
  | with_reducible apply y_app
  | with_reducible apply y_popI
  | with_reducible exact s_next
  | with_reducible apply s_nextE
  | with_reducible apply s_seq
  | with_reducible apply s_if
  | with_reducible apply s_set
  | with_reducible apply s_drop
  | with_reducible apply s_par
  | with_reducible apply run_par
  | with_reducible apply run_asg
  | with_reducible apply s_asg
  | with_reducible apply y_subL
  | ((with_reducible show nrmB _ = true); exact rfl)
  | with_reducible apply put_v
  | with_reducible apply put_b
  | ((with_reducible show (_ && _) = false); exact rfl)
  | with_reducible apply put_f
  | with_reducible apply put_vio
  | with_reducible apply put_fio
  | ((with_reducible show (_ = true) → _); intro h__; first | (exfalso; revert h__; simp; done) | skip)
  | ((with_reducible show (_ = false) → _); intro h__; first | (exfalso; revert h__; simp; done) | skip)
  | ((with_reducible show (_ : Int) ≤ _); first | omega | (simp; done) | (simp; omega))
  | ((with_reducible show (_ : Int) < _); first | omega | (simp; done) | (simp; omega))
  | ((with_reducible show (_ : Nat) ≤ _); first | omega | (simp; done) | (simp; omega))
  | ((with_reducible show (_ : Nat) < _); first | omega | (simp; done) | (simp; omega))
  | intro _)
section
variable (a0 a1 a3 a4 a5 a6 a7 a8 a9 a10 a13 : Option Sl) (m : Nat) (h5 : m ≤ 5)
include h5
theorem lc_off (a b : IB) (g : Option Sl) (T : Option Sl) (hT : T = some (.sh (.tup [ibD a, ibD b]))) : zLc (zIt (zVar 12)) (gN false 14) (zTOr (zTru (zCallB gIsiX (zCons (zVar 14) (zCons (zC (.ty "bool")) (zNil))))) (zTB (zBin gNotIn (zVar 14) (zListRng (zVar 2))))) (zVar 14) [14] [a0, a1, some (.sh (natD m)), a3, a4, a5, a6, a7, a8, a9, a10, g, T, a13, none] =
    some (.fresh (.lst (([a, b].filter (offB m)).map ibD)), [a0, a1, some (.sh (natD m)), a3, a4, a5, a6, a7, a8, a9, a10, g, T, a13, none]) := by
  subst hT
  have hi : zIt (zVar 12) [a0, a1, some (.sh (natD m)), a3, a4, a5, a6, a7, a8, a9, a10, g, some (.sh (.tup [ibD a, ibD b])), a13, none] = some ([a, b].map ibD, [a0, a1, some (.sh (natD m)), a3, a4, a5, a6, a7, a8, a9, a10, g, some (.sh (.tup [ibD a, ibD b])), a13, none]) := rfl
  have ht : ∀ x ∈ [a, b], zTOr (zTru (zCallB gIsiX (zCons (zVar 14) (zCons (zC (.ty "bool")) (zNil))))) (zTB (zBin gNotIn (zVar 14) (zListRng (zVar 2)))) [a0, a1, some (.sh (natD m)), a3, a4, a5, a6, a7, a8, a9, a10, g, some (.sh (.tup [ibD a, ibD b])), a13, some (.sh (ibD x))] =
      some (offB m x, [a0, a1, some (.sh (natD m)), a3, a4, a5, a6, a7, a8, a9, a10, g, some (.sh (.tup [ibD a, ibD b])), a13, some (.sh (ibD x))]) := fun x _ => by
    cases x with
    | i y =>
      have e := g_notInR m y (by omega)
      have : offB m (.i y) = (false || !(decide (0 ≤ y) && decide (y < m))) := by simp [offB]
      rw [this]
      unfold ibD
      repeat' (first | with_reducible exact e | array_get_dec)
    | b y =>
      have : offB m (.b y) = (true || true) := rfl
      rw [this]
      unfold ibD
      refine y_tor (b := true) ?_ (fun h => Bool.noConfusion h)
      repeat' array_get_dec
  exact y_lc hi rfl rfl (fun x => rfl) (fun x => rfl) ht (fun x _ _ => rfl) (fun x => rfl) (by simp)
theorem turn (g : Bool) (p : PT) : (zSeq (zSet false 11 (zAndV (zVar 11) (zAndV (zCallB gIsiX (zCons (zVar 12) (zCons (zC (.ty "tuple")) (zNil)))) (zBin gEq (zCallB gLen (zCons (zVar 12) (zNil))) (zC (.int 2)))))) (zSeq (zSet false 11 (zAndV (zVar 11) (zAndV (zBin gEq (zLc (zIt (zVar 12)) (gN false 14) (zTOr (zTru (zCallB gIsiX (zCons (zVar 14) (zCons (zC (.ty "bool")) (zNil))))) (zTB (zBin gNotIn (zVar 14) (zListRng (zVar 2))))) (zVar 14) [14]) (zLst (zNil))) (zBin gNe (zBin gIx (zVar 12) (zC (.int 0))) (zBin gIx (zVar 12) (zC (.int 1))))))) (zNext))) [a0, a1, some (.sh (natD m)), a3, a4, a5, a6, a7, a8, a9, a10, some (.sh (.bl g)), some (.sh (ptD p)), a13, none] =
    some (.next [a0, a1, some (.sh (natD m)), a3, a4, a5, a6, a7, a8, a9, a10, some (.sh (.bl (g && goodPt m p))), some (.sh (ptD p)), a13, none]) := by
  cases p with
  | no =>
    unfold ptD
    have : (g && goodPt m .no) = ((g && (false && true)) && true) := by simp [goodPt]
    rw [this]
    repeat' (first | ((with_reducible show (_ = true) → _); intro h__; exfalso; simp at h__; done) | array_get_dec)
  | ls a b =>
    unfold ptD
    have : (g && goodPt m (.ls a b)) = ((g && (false && true)) && true) := by simp [goodPt]
    rw [this]
    repeat' (first | ((with_reducible show (_ = true) → _); intro h__; exfalso; simp at h__; done) | array_get_dec)
  | tp a b =>
    unfold ptD
    have hl := lc_off a0 a1 a3 a4 a5 a6 a7 a8 a9 a10 a13 m h5 a b (some (.sh (.bl (g && (true && decide (((2 : Nat) : Int) = 2)))))) _ rfl
    have hn := eq_ibNil ([a, b].filter (offB m))
    have i0 : gIx (.tup [ibD a, ibD b]) (.int 0) = some (.val (ibD a)) := rfl
    have i1 : gIx (.tup [ibD a, ibD b]) (.int 1) = some (.val (ibD b)) := rfl
    have q2 : gLen [.tup [ibD a, ibD b]] = some (.val (.int ((2 : Nat) : Int))) := rfl
    by_cases hab : ([a, b].filter (offB m)).isEmpty = true
    · obtain ⟨ha, hb⟩ : offB m a = false ∧ offB m b = false := by
        rw [List.isEmpty_iff, List.filter_eq_nil_iff] at hab
        exact ⟨by simpa using hab a (by simp), by simpa using hab b (by simp)⟩
      obtain ⟨x, rfl⟩ : ∃ x, a = .i x := by cases a <;> first | exact ⟨_, rfl⟩ | cases ha
      obtain ⟨y, rfl⟩ : ∃ x, b = .i x := by cases b <;> first | exact ⟨_, rfl⟩ | cases hb
      have : (g && goodPt m (.tp (.i x) (.i y))) = ((g && (true && decide (((2 : Nat) : Int) = 2))) && (([IB.i x, IB.i y].filter (offB m)).isEmpty && !decide (x = y))) := by
        simp only [goodPt, ha, hb, hab]; simp
      rw [this]
      have hx : gNe (ibD (.i x)) (ibD (.i y)) = some (.val (.bl (!decide (x = y)))) := g_neI
      repeat' (first | with_reducible exact hx | with_reducible exact q2 | with_reducible exact hl | with_reducible exact hn | with_reducible exact i0 | with_reducible exact i1 | array_get_dec)
    · have hab : ([a, b].filter (offB m)).isEmpty = false := by simpa using hab
      have : (g && goodPt m (.tp a b)) = ((g && (true && decide (((2 : Nat) : Int) = 2))) && (([a, b].filter (offB m)).isEmpty && true)) := by
        rw [hab]
        have : goodPt m (.tp a b) = false := by
          simp only [goodPt]
          cases ha : offB m a <;> cases hb : offB m b <;> simp
          rw [List.filter_cons_of_neg (by rw [ha]; simp), List.filter_cons_of_neg (by rw [hb]; simp)] at hab
          cases hab
        rw [this]; simp
      rw [this]
      repeat' (first | ((with_reducible show (_ = true) → _); intro h__; exfalso; rw [hab] at h__; cases h__; done) | with_reducible exact q2 | with_reducible exact hl | with_reducible exact hn | with_reducible exact i0 | with_reducible exact i1 | array_get_dec)
end
end Pr
end

section
set_option linter.all false
set_option maxRecDepth 100000
set_option maxHeartbeats 1000000
namespace Pr
open PySem PySem.Spec PyProof.Rows L2 Zz
local macro_rules | `(tactic| array_get_dec) => `(tactic| first
  | with_reducible exact set_z
  | with_reducible apply set_s
  | ((with_reducible apply y_sh); exact rfl)
  | ((with_reducible apply y_ow); exact rfl)
  | ((with_reducible show rdv _ _ = some _); exact rfl)
  | with_reducible exact y_c
  | with_reducible exact nrm_v
  | with_reducible exact nrm_f
  | with_reducible exact nrm_b
  | with_reducible apply y_cons
  | ((with_reducible show zNil _ = _); exact y_nil)
  | ((with_reducible show rdvs _ _ = some _); exact rfl)
  | ((with_reducible show _ < List.length _); exact Nat.le_of_ble_eq_true rfl)
  | ((with_reducible show _ < List.length _); exact List.mem_range.mp ‹_›)
  | ((with_reducible show esc _ (R.val _) = _); exact esc_v)
  | with_reducible exact esc_f
  | ((with_reducible show escs _ [] = _); exact escs_nil)
  | with_reducible apply escs_cons
  | with_reducible apply y_bin
  | with_reducible apply y_callB
  | with_reducible exact wipe_nil
  | with_reducible apply wipe_cons
  | ((with_reducible apply esc_bo); (exact rfl))
  | ((with_reducible apply esc_bs); (exact rfl))
  | ((with_reducible show ∀ _, esc _ _ = some _); exact fun _ => rfl)
  | ((with_reducible show ∀ _ _, esc _ _ = some _); exact fun _ _ => rfl)
  | with_reducible apply y_tb
  | with_reducible apply y_tru
  | with_reducible apply y_tnot
  | with_reducible apply y_tand
  | with_reducible apply y_tor
  | with_reducible apply y_andV
  | with_reducible apply y_orV
  | with_reducible apply y_oft
  | with_reducible apply y_chain
  | with_reducible apply y_un
  | with_reducible apply y_rev
  | with_reducible apply y_revV
  | with_reducible apply y_tup
  | with_reducible apply y_lst
  | with_reducible apply y_sl
  | with_reducible exact y_nop
  | with_reducible apply y_p
  | with_reducible exact g_addI
  | with_reducible exact g_subI
  | with_reducible exact g_eqI
  | with_reducible exact g_eqNilT
  | with_reducible exact alk_int
  | with_reducible exact alk_bl
  | with_reducible exact alk_non
  | with_reducible apply alk_tup
  | with_reducible apply alk_lst
  | with_reducible apply alk_lstR
  | with_reducible apply alk_tupR
  | with_reducible exact alk_nil
  | with_reducible apply alk_cons
  | with_reducible exact g_eqNil eqe_nat (by decide) _
  | with_reducible exact g_eqNil eqe_int (by decide) _
  | with_reducible exact g_neNil eqe_nat (by decide) _
  | with_reducible exact g_neNil eqe_int (by decide) _
  | with_reducible exact g_neI
  | with_reducible exact g_eqB
  | with_reducible exact g_neB
  | with_reducible exact g_eqR
  | with_reducible exact g_neR
  | with_reducible exact g_eqLI
  | with_reducible exact g_neLI
  | with_reducible exact g_eqLR
  | with_reducible exact g_ltI
  | with_reducible exact g_leI
  | with_reducible exact g_gtI
  | with_reducible exact g_geI
  | ((with_reducible show gIx (.tup (_ :: _)) _ = some _); exact rfl)
  | ((with_reducible show gIx (.lst (_ :: _)) _ = some _); exact rfl)
  | with_reducible apply g_ixT
  | with_reducible apply g_ixL
  | with_reducible apply g_ixT0
  | with_reducible apply g_ixR
  | with_reducible apply g_ixRL
  | with_reducible apply g_ixL0
  | with_reducible apply g_addT
  | with_reducible apply g_addL
  | with_reducible apply g_modI
  | with_reducible apply g_divI
  | with_reducible exact isiX_dct_int
  | with_reducible exact isiX_dct_bool
  | with_reducible exact isiX_dct_tuple
  | with_reducible exact isiX_dct_list
  | with_reducible exact isiX_dct_str
  | with_reducible exact y_dict0
  | with_reducible apply isiX_of
  | with_reducible exact isi_non_int
  | with_reducible exact isi_non_bool
  | with_reducible exact isi_non_tuple
  | with_reducible exact isi_non_list
  | with_reducible exact isi_non_str
  | with_reducible exact isi_non_tl
  | with_reducible exact isi_bl_int
  | with_reducible exact isi_bl_bool
  | with_reducible exact isi_bl_tuple
  | with_reducible exact isi_bl_list
  | with_reducible exact isi_bl_str
  | with_reducible exact isi_bl_tl
  | with_reducible exact isi_int_int
  | with_reducible exact isi_int_bool
  | with_reducible exact isi_int_tuple
  | with_reducible exact isi_int_list
  | with_reducible exact isi_int_str
  | with_reducible exact isi_int_tl
  | with_reducible exact isi_str_int
  | with_reducible exact isi_str_bool
  | with_reducible exact isi_str_tuple
  | with_reducible exact isi_str_list
  | with_reducible exact isi_str_str
  | with_reducible exact isi_str_tl
  | with_reducible exact isi_tup_int
  | with_reducible exact isi_tup_bool
  | with_reducible exact isi_tup_tuple
  | with_reducible exact isi_tup_list
  | with_reducible exact isi_tup_str
  | with_reducible exact isi_tup_tl
  | with_reducible exact isi_lst_int
  | with_reducible exact isi_lst_bool
  | with_reducible exact isi_lst_tuple
  | with_reducible exact isi_lst_list
  | with_reducible exact isi_lst_str
  | with_reducible exact isi_lst_tl
  | ((with_reducible show truD _ = some _); exact rfl)
  | with_reducible exact g_lenL
  | with_reducible exact g_lenT
  | ((with_reducible show gLen _ = some _); exact rfl)
  | ((with_reducible show gMax2 _ = some _); exact rfl)
  | ((with_reducible show gMin2 _ = some _); exact rfl)
  | ((with_reducible show gInt _ = some _); exact rfl)
  | ((with_reducible show gList _ = some _); exact rfl)
  | ((with_reducible show gTuple _ = some _); exact rfl)
  | with_reducible exact g_revM
  | with_reducible exact g_revVL
  | with_reducible exact g_revVT
  | ((with_reducible show gRevV _ = some _); exact rfl)
  | with_reducible exact g_negI
  | ((with_reducible show gRev _ = some _); exact rfl)
  | with_reducible exact g_slTo
  | with_reducible exact g_slBT
  | with_reducible exact g_slBL
  | ((with_reducible apply g_slFT); first | exact rfl | omega)
  | ((with_reducible apply g_slFL); first | exact rfl | omega)
  | ((with_reducible apply g_slUT); first | exact rfl | omega)
  | ((with_reducible apply g_slUL); first | exact rfl | omega)
  | with_reducible apply g_slOne
  | ((with_reducible show gSl _ _ _ = some _); exact rfl)
  | ((with_reducible show gIs _ _ = some _); exact rfl)
  | ((with_reducible show gIsNot _ _ = some _); exact rfl)
  | ((with_reducible show List.length _ = FS.ar _); exact rfl)
  | ((with_reducible show FS.io _ = _); exact rfl)
  | ((with_reducible show _ = (R.bor _ :: _)); exact rfl)
  | ((with_reducible show List.length _ + 1 = FS.ar _); exact rfl)
  | ((with_reducible show Zz.sizeOk _ = true); first | exact rfl | (simp [Zz.sizeOk]; done) | (simp [Zz.sizeOk]; omega))
  | with_reducible apply y_lcy
  | with_reducible apply y_lc
  | with_reducible apply y_tgy
  | with_reducible apply y_tg
  | with_reducible apply y_all
  | ((with_reducible show plainB _ _ = true); exact rfl)
  | ((with_reducible show ∀ _, wipeE _ _ = _); exact fun _ => rfl)
  | ((with_reducible show ∀ _ _, wipeE _ _ = _); exact fun _ _ => rfl)
  | with_reducible apply y_gN
  | with_reducible apply y_gNio
  | with_reducible apply y_gT
  | with_reducible exact y_gTn
  | with_reducible apply y_gTc
  | with_reducible apply y_it
  | with_reducible exact itD_vL
  | with_reducible exact itD_vT
  | with_reducible exact itD_fL
  | ((with_reducible apply itD_bo); (exact rfl))
  | with_reducible exact natOf_cast
  | with_reducible exact natOf_sub
  | with_reducible exact natOf_sub1
  | with_reducible exact natOf_add1
  | with_reducible exact natOf_lit
  | ((with_reducible show NatOf _ _); exact rfl)
  | with_reducible apply y_rng1
  | with_reducible apply y_rng2
  | with_reducible apply y_zipT
  | with_reducible apply y_listRng
  | with_reducible apply y_enumT
  | with_reducible apply body_next
  | with_reducible apply run_set
  | with_reducible apply run_drop
  | with_reducible apply run_ret
  | with_reducible apply run_if
  | with_reducible apply run_assoc
  | with_reducible apply run_nop
  | with_reducible apply run_retN
  | with_reducible apply run_end
  | ((with_reducible show pinB _ _ = true); exact rfl)
  | ((with_reducible show fin _ _ = some _); exact rfl)
  | with_reducible apply is_of
  | ((with_reducible show _[_]? = some (some (Sl.ow _))); exact rfl)
  | with_reducible apply y_app
  | with_reducible apply y_popI
  | with_reducible exact s_next
  | with_reducible apply s_nextE
  | with_reducible apply s_seq
  | with_reducible apply s_if
  | with_reducible apply s_set
  | with_reducible apply s_drop
  | with_reducible apply s_par
  | with_reducible apply run_par
  | with_reducible apply run_asg
  | with_reducible apply s_asg
  | with_reducible apply y_subL
  | ((with_reducible show nrmB _ = true); exact rfl)
  | with_reducible apply put_v
  | with_reducible apply put_b
  | ((with_reducible show (_ && _) = false); exact rfl)
  | with_reducible apply put_f
  | with_reducible apply put_vio
  | with_reducible apply put_fio
  | ((with_reducible show (_ = true) → _); intro h__; first | (exfalso; revert h__; simp; done) | skip)
  | ((with_reducible show (_ = false) → _); intro h__; first | (exfalso; revert h__; simp; done) | skip)
  | ((with_reducible show (_ : Int) ≤ _); first | omega | (simp; done) | (simp; omega))
  | ((with_reducible show (_ : Int) < _); first | omega | (simp; done) | (simp; omega))
  | ((with_reducible show (_ : Nat) ≤ _); first | omega | (simp; done) | (simp; omega))
  | ((with_reducible show (_ : Nat) < _); first | omega | (simp; done) | (simp; omega))
  | intro _)
/-- a list of one kind or none -/
def iniB (m : Nat) : VL → Bool
  | .tp l => decide (l.length = sizeOf' m)
  | _ => false
def goodVL (m : Nat) : VL → Bool
  | .tp l => decide (l.length = sizeOf' m) && l.all (goodPt m)
  | _ => false
theorem len9' (m : Nat) (h1 : 1 ≤ m) (h5 : m ≤ 5) : (fewestOf m).length ≤ 9 := len9 m h1 h5
theorem okV_vl (m : Nat) (h1 : 1 ≤ m) (h5 : m ≤ 5) (v : VL) : okV m (vlD v) = goodVL m v := by
  have h9 := len9' m h1 h5
  cases v with
  | tp l =>
    have e : (l.map ptD).all (layB m) = l.all (goodPt m) := by
      rw [List.all_map]; congr 1; funext p; exact good_pt m p
    show ((decide ((l.map ptD).length ≤ 60) && (l.map ptD).all (layB m)) && decide ((l.map ptD).length = sizeOf' m)) = (decide (l.length = sizeOf' m) && l.all (goodPt m))
    rw [e, List.length_map]
    by_cases h : l.length = (fewestOf m).length
    · have h60 : l.length ≤ 60 := by omega
      simp [h, h60]; omega
    · have : decide (l.length = sizeOf' m) = false := by simpa using h
      rw [this]; simp
  | _ => rfl
section
variable (a0 a1 a3 a4 a5 a6 a9 a10 a13 : Option Sl) (m : Nat) (h1 : 1 ≤ m) (h5 : m ≤ 5)
include h1 h5
theorem first (v : VL) (y11 y12 : Option Sl) : (zSet false 11 (zAndV (zCallB gIsiX (zCons (zVar 7) (zCons (zC (.ty "tuple")) (zNil)))) (zBin gEq (zCallB gLen (zCons (zVar 7) (zNil))) (zVar 8)))) [a0, a1, some (.sh (natD m)), a3, a4, a5, a6, some (.sh (vlD v)), some (.sh (natD (sizeOf' m))), a9, a10, y11, y12, a13, none] =
    some (.next [a0, a1, some (.sh (natD m)), a3, a4, a5, a6, some (.sh (vlD v)), some (.sh (natD (sizeOf' m))), a9, a10, some (.sh (.bl (iniB m v))), y12, a13, none]) := by
  cases v with
  | tp l =>
    have : iniB m (.tp l) = (true && decide (((l.length : Nat) : Int) = ((sizeOf' m : Nat) : Int))) := by
      rw [Bool.true_and]; exact decide_eq_decide.mpr (by omega)
    rw [this]; unfold vlD
    repeat' array_get_dec
  | no =>
    have : iniB m .no = (false && true) := rfl
    rw [this]; unfold vlD
    repeat' (first | ((with_reducible show (_ = true) → _); intro h__; cases h__; done) | array_get_dec)
  | dc =>
    have : iniB m .dc = (false && true) := rfl
    rw [this]; unfold vlD
    repeat' (first | ((with_reducible show (_ = true) → _); intro h__; cases h__; done) | array_get_dec)
  | nu =>
    have : iniB m .nu = (false && true) := rfl
    rw [this]; unfold vlD
    repeat' (first | ((with_reducible show (_ = true) → _); intro h__; cases h__; done) | array_get_dec)
  | ls l =>
    have : iniB m (.ls l) = (false && true) := rfl
    rw [this]; unfold vlD
    repeat' (first | ((with_reducible show (_ = true) → _); intro h__; cases h__; done) | array_get_dec)
def innerB : SS := (zSeq (zSet false 11 (zAndV (zVar 11) (zAndV (zCallB gIsiX (zCons (zVar 12) (zCons (zC (.ty "tuple")) (zNil)))) (zBin gEq (zCallB gLen (zCons (zVar 12) (zNil))) (zC (.int 2)))))) (zSeq (zSet false 11 (zAndV (zVar 11) (zAndV (zBin gEq (zLc (zIt (zVar 12)) (gN false 14) (zTOr (zTru (zCallB gIsiX (zCons (zVar 14) (zCons (zC (.ty "bool")) (zNil))))) (zTB (zBin gNotIn (zVar 14) (zListRng (zVar 2))))) (zVar 14) [14]) (zLst (zNil))) (zBin gNe (zBin gIx (zVar 12) (zC (.int 0))) (zBin gIx (zVar 12) (zC (.int 1))))))) (zNext)))
theorem inner (v : VL) (y12 : Option Dat) : ∃ y : Option Dat, zFor false (zIt (zIf (zTru (zVar 11)) (zVar 7) (zLst (zNil)))) (gN false 12) innerB [a0, a1, some (.sh (natD m)), a3, a4, a5, a6, some (.sh (vlD v)), some (.sh (natD (sizeOf' m))), a9, a10, some (.sh (.bl (iniB m v))), y12.map Sl.sh, a13, none] =
    some (.next [a0, a1, some (.sh (natD m)), a3, a4, a5, a6, some (.sh (vlD v)), some (.sh (natD (sizeOf' m))), a9, a10, some (.sh (.bl (goodVL m v))), y.map Sl.sh, a13, none]) := by
  by_cases hv : iniB m v = true
  · obtain ⟨l, rfl, hl⟩ : ∃ l, v = .tp l ∧ l.length = sizeOf' m := by
      cases v <;> first | (cases hv; done) | exact ⟨_, rfl, of_decide_eq_true hv⟩
    obtain ⟨s', e, q⟩ := s_inv (io := false) (S := Bool × Option Dat) (α := PT) (D := ptD) (l := l) (gt := gN false 12) (f := innerB) (it := zIt (zIf (zTru (zVar 11)) (zVar 7) (zLst (zNil))))
      (E := [a0, a1, some (.sh (natD m)), a3, a4, a5, a6, some (.sh (vlD (.tp l))), some (.sh (natD (sizeOf' m))), a9, a10, some (.sh (.bl (iniB m (.tp l)))), y12.map Sl.sh, a13, none])
      (fun s => [a0, a1, some (.sh (natD m)), a3, a4, a5, a6, some (.sh (vlD (.tp l))), some (.sh (natD (sizeOf' m))), a9, a10, some (.sh (.bl s.1)), s.2.map Sl.sh, a13, none])
      (fun i s => s.1 = (l.take i).all (goodPt m)) (true, y12) (by rw [hv]; rfl) rfl rfl (fun i x s hx hs => by
        refine ⟨(s.1 && goodPt m x, some (ptD x)), ?_, ?_⟩
        · refine body_next (E1 := [a0, a1, some (.sh (natD m)), a3, a4, a5, a6, some (.sh (vlD (.tp l))), some (.sh (natD (sizeOf' m))), a9, a10, some (.sh (.bl s.1)), some (.sh (ptD x)), a13, none]) rfl ?_
          exact turn a0 a1 a3 a4 a5 a6 _ _ a9 a10 a13 m h5 s.1 x
        · have hi := (List.getElem?_eq_some_iff.mp hx).1
          have ex : l[i] = x := (List.getElem?_eq_some_iff.mp hx).2
          dsimp only
          rw [List.take_succ_eq_append_getElem hi, List.all_append, ← hs, ex]; simp)
    refine ⟨s'.2, ?_⟩
    rw [e]
    rw [List.take_length] at q
    rw [q]
    have : goodVL m (.tp l) = l.all (goodPt m) := by
      show (decide (l.length = sizeOf' m) && _) = _
      rw [decide_eq_true hl, Bool.true_and]
    rw [this]
  · have hv : iniB m v = false := by simpa using hv
    refine ⟨y12, ?_⟩
    have hg : goodVL m v = false := by
      cases v with
      | tp l =>
        show (decide (l.length = sizeOf' m) && _) = _
        rw [show decide (l.length = sizeOf' m) = false from hv]; rfl
      | _ => rfl
    rw [hv, hg]; rfl
theorem g_srtT {l : List Int} (h : l.length ≤ 16777216) : gSorted false [.tup (l.map Dat.int)] = some (.fresh (.lst ((upI l).map Dat.int))) := by
  unfold gSorted; simp only [srtOk_ints l h, if_true, srt_up]
theorem alike_bb (b : Bool) : fs__law_alike.run [.bl b, .bl b] = some (.bl true, false, .non) := alike 3 (.bl b) trivial
theorem lc_true {l : List (List Int)} : True := trivial
def endS : SS := (zIfS false (zTru (zVar 11)) (zSeq (zSet false 13 (zLc (zIt (zCall fs__law_columns (zCons (zVar 2) (zNil)))) (gN false 12) (zYes) (zCall fs__law_carried (zCons (zVar 12) (zCons (zVar 7) (zNil)))) [12])) (zSeq (zSet false 11 (zBin gEq (zLc (zIt (zVar 13)) (gN false 12) (zTB (zBin gNe (zCallB gList (zCons (zVar 12) (zNil))) (zRevV (zCallB (gSorted false) (zCons (zVar 12) (zNil)))))) (zVar 12) [12]) (zLst (zNil)))) (zNext))) (zNext))
def lastS : SS := (zIfS false (zTNot (zTru (zCall fs__law_alike (zCons (zCall fs_shows_fixed (zCons (zVar 2) (zCons (zVar 7) (zNil)))) (zCons (zVar 11) (zNil)))))) (zSeq (zRet false (zC (.bl false))) (zNext)) (zNext))
theorem body_eq : s_law_11b = zSeq (zSet false 11 (zAndV (zCallB gIsiX (zCons (zVar 7) (zCons (zC (.ty "tuple")) (zNil)))) (zBin gEq (zCallB gLen (zCons (zVar 7) (zNil))) (zVar 8)))) (zSeq (zFor false (zIt (zIf (zTru (zVar 11)) (zVar 7) (zLst (zNil)))) (gN false 12) innerB) (zSeq endS (zSeq lastS zNext))) := rfl
theorem step_end (v : VL) (y12 : Option Dat) : ∃ y y13, zSeq endS (zSeq lastS zNext) [a0, a1, some (.sh (natD m)), a3, a4, a5, a6, some (.sh (vlD v)), some (.sh (natD (sizeOf' m))), a9, a10, some (.sh (.bl (goodVL m v))), y12.map Sl.sh, a13, none] =
    some (.next [a0, a1, some (.sh (natD m)), a3, a4, a5, a6, some (.sh (vlD v)), some (.sh (natD (sizeOf' m))), a9, a10, y, y12.map Sl.sh, y13, none]) := by
  have h9 := len9' m h1 h5
  have ho := okV_vl m h1 h5 v
  cases hg : goodVL m v with
  | true =>
    rw [hg] at ho
    obtain ⟨ps, e, hp, hl, h60⟩ := okV_ps ho
    have hs := e_shows m h1 h5 ps hl hp (by omega)
    have few := cols_few m h5
    have hc : fs__law_columns.run [natD m] = some (.lst ((colsOf m).map tupI), false, .non) := columns m h1 h5
    have hcar : ∀ c ∈ colsOf m, fs__law_carried.run [tupI c, .tup (ps.map pairD)] = some (tupI (ps.foldl stepL c), false, .non) := fun c hc => carried c ps fun p hq => by rw [cols_len m c hc]; exact ⟨(hp p hq).1, (hp p hq).2.1⟩
    have hlen : ∀ c ∈ (colsOf m).map (ps.foldl stepL), c.length ≤ 16777216 := fun c hc => by
      obtain ⟨d, hd, rfl⟩ := List.mem_map.mp hc
      rw [(carried_perm ps d fun p hq => by rw [cols_len m d hd]; exact hp p hq).length_eq, cols_len m d hd]; omega
    have hE2 : ((colsOf m).map (ps.foldl stepL)).filter (fun c => !decide (c = (upI c).reverse)) = (leftOf m ps).map (ps.foldl stepL) := by
      rw [List.filter_map]
      unfold leftOf
      refine congrArg (List.map (ps.foldl stepL)) (List.filter_congr fun c hc => ?_)
      show (!decide (ps.foldl stepL c = (upI (ps.foldl stepL c)).reverse)) = _
      rw [up_rev (carried_perm ps c fun p hq => by rw [cols_len m c hc]; exact hp p hq)]
    have ha := alike_bb m h1 h5 (leftOf m ps).isEmpty
    have hn : gEq (.lst ((((colsOf m).map (ps.foldl stepL)).filter fun c => !decide (c = (upI c).reverse)).map tupI)) (.lst []) = some (.val (.bl (leftOf m ps).isEmpty)) := by
      rw [hE2]
      have := g_eqNilT (f := id) (l := (leftOf m ps).map (ps.foldl stepL))
      have e3 : ((leftOf m ps).map (ps.foldl stepL)).isEmpty = (leftOf m ps).isEmpty := by cases leftOf m ps <;> rfl
      rw [e3] at this
      exact this
    have hmm : ((colsOf m).map fun c => tupI (ps.foldl stepL c)) = ((colsOf m).map (ps.foldl stepL)).map tupI := by rw [List.map_map]; rfl
    have few2 : ((colsOf m).map (ps.foldl stepL)).length ≤ 32 := by rw [List.length_map]; exact few
    refine ⟨some (.sh (.bl (leftOf m ps).isEmpty)), some (.sh (.lst (((colsOf m).map (ps.foldl stepL)).map tupI))), ?_⟩
    rw [e]
    unfold endS lastS
    refine s_seq (E1 := [a0, a1, some (.sh (natD m)), a3, a4, a5, a6, some (.sh (.tup (ps.map pairD))), some (.sh (natD (sizeOf' m))), a9, a10, some (.sh (.bl (leftOf m ps).isEmpty)), y12.map Sl.sh, some (.sh (.lst (((colsOf m).map (ps.foldl stepL)).map tupI))), none]) ?_ ?_
    · refine s_if (b := true) (by repeat' array_get_dec) rfl (fun _ => ?_) (fun h => Bool.noConfusion h)
      refine s_seq (E1 := [a0, a1, some (.sh (natD m)), a3, a4, a5, a6, some (.sh (.tup (ps.map pairD))), some (.sh (natD (sizeOf' m))), a9, a10, some (.sh (.bl true)), y12.map Sl.sh, some (.ow (.lst ((colsOf m).map fun c => tupI (ps.foldl stepL c)))), none]) ?_ ?_
      · cases y12 <;> repeat' (first | array_get_dec | with_reducible apply y_callV (hr := hc) | with_reducible apply y_callV (hr := hcar _ ‹_›))
      · rw [hmm]
        cases y12 <;> repeat' (first | with_reducible exact hn | ((with_reducible show List.length _ ≤ _); exact hlen _ ‹_›) | with_reducible apply g_srtT | array_get_dec)
    · repeat' (first | array_get_dec | with_reducible apply y_callV (hr := hs) | with_reducible apply y_callV (hr := ha))
  | false =>
    rw [hg] at ho
    have hs := e_showsNo m h1 h5 (vlD v) (any_vl v) ho
    have ha := alike_bb m h1 h5 false
    refine ⟨some (.sh (.bl false)), a13, ?_⟩
    unfold endS lastS
    refine s_seq (E1 := [a0, a1, some (.sh (natD m)), a3, a4, a5, a6, some (.sh (vlD v)), some (.sh (natD (sizeOf' m))), a9, a10, some (.sh (.bl false)), y12.map Sl.sh, a13, none]) ?_ ?_
    · refine s_if (b := false) (by repeat' array_get_dec) rfl (fun h => Bool.noConfusion h) (fun _ => rfl)
    · repeat' (first | array_get_dec | with_reducible apply y_callV (hr := hs) | with_reducible apply y_callV (hr := ha))
theorem body11 (v : VL) (y11 : Option Sl) (y12 : Option Dat) : ∃ (y : Option Sl) (z : Option Dat) (w : Option Sl), s_law_11b [a0, a1, some (.sh (natD m)), a3, a4, a5, a6, some (.sh (vlD v)), some (.sh (natD (sizeOf' m))), a9, a10, y11, y12.map Sl.sh, a13, none] =
    some (.next [a0, a1, some (.sh (natD m)), a3, a4, a5, a6, some (.sh (vlD v)), some (.sh (natD (sizeOf' m))), a9, a10, y, z.map Sl.sh, w, none]) := by
  rw [body_eq m h1 h5]
  obtain ⟨y, e1⟩ := inner a0 a1 a3 a4 a5 a6 a9 a10 a13 m h1 h5 v y12
  obtain ⟨z, w, e2⟩ := step_end a0 a1 a3 a4 a5 a6 a9 a10 a13 m h1 h5 v y
  exact ⟨z, y, w, s_seq (first a0 a1 a3 a4 a5 a6 a9 a10 a13 m h1 h5 v y11 _) (s_seq e1 e2)⟩
end
end Pr
end

section
set_option linter.all false
set_option maxRecDepth 100000
set_option maxHeartbeats 1000000
namespace Pr
open PySem PySem.Spec PyProof.Rows L2 Zz
local macro_rules | `(tactic| array_get_dec) => `(tactic| first
  | with_reducible exact set_z
  | with_reducible apply set_s
  | ((with_reducible apply y_sh); exact rfl)
  | ((with_reducible apply y_ow); exact rfl)
  | ((with_reducible show rdv _ _ = some _); exact rfl)
  | with_reducible exact y_c
  | with_reducible exact nrm_v
  | with_reducible exact nrm_f
  | with_reducible exact nrm_b
  | with_reducible apply y_cons
  | ((with_reducible show zNil _ = _); exact y_nil)
  | ((with_reducible show rdvs _ _ = some _); exact rfl)
  | ((with_reducible show _ < List.length _); exact Nat.le_of_ble_eq_true rfl)
  | ((with_reducible show _ < List.length _); exact List.mem_range.mp ‹_›)
  | ((with_reducible show esc _ (R.val _) = _); exact esc_v)
  | with_reducible exact esc_f
  | ((with_reducible show escs _ [] = _); exact escs_nil)
  | with_reducible apply escs_cons
  | with_reducible apply y_bin
  | with_reducible apply y_callB
  | with_reducible exact wipe_nil
  | with_reducible apply wipe_cons
  | ((with_reducible apply esc_bo); (exact rfl))
  | ((with_reducible apply esc_bs); (exact rfl))
  | ((with_reducible show ∀ _, esc _ _ = some _); exact fun _ => rfl)
  | ((with_reducible show ∀ _ _, esc _ _ = some _); exact fun _ _ => rfl)
  | with_reducible apply y_tb
  | with_reducible apply y_tru
  | with_reducible apply y_tnot
  | with_reducible apply y_tand
  | with_reducible apply y_tor
  | with_reducible apply y_andV
  | with_reducible apply y_orV
  | with_reducible apply y_oft
  | with_reducible apply y_chain
  | with_reducible apply y_un
  | with_reducible apply y_rev
  | with_reducible apply y_revV
  | with_reducible apply y_tup
  | with_reducible apply y_lst
  | with_reducible apply y_sl
  | with_reducible exact y_nop
  | with_reducible apply y_p
  | with_reducible exact g_addI
  | with_reducible exact g_subI
  | with_reducible exact g_eqI
  | with_reducible exact g_eqNilT
  | with_reducible exact alk_int
  | with_reducible exact alk_bl
  | with_reducible exact alk_non
  | with_reducible apply alk_tup
  | with_reducible apply alk_lst
  | with_reducible apply alk_lstR
  | with_reducible apply alk_tupR
  | with_reducible exact alk_nil
  | with_reducible apply alk_cons
  | with_reducible exact g_eqNil eqe_nat (by decide) _
  | with_reducible exact g_eqNil eqe_int (by decide) _
  | with_reducible exact g_neNil eqe_nat (by decide) _
  | with_reducible exact g_neNil eqe_int (by decide) _
  | with_reducible exact g_neI
  | with_reducible exact g_eqB
  | with_reducible exact g_neB
  | with_reducible exact g_eqR
  | with_reducible exact g_neR
  | with_reducible exact g_eqLI
  | with_reducible exact g_neLI
  | with_reducible exact g_eqLR
  | with_reducible exact g_ltI
  | with_reducible exact g_leI
  | with_reducible exact g_gtI
  | with_reducible exact g_geI
  | ((with_reducible show gIx (.tup (_ :: _)) _ = some _); exact rfl)
  | ((with_reducible show gIx (.lst (_ :: _)) _ = some _); exact rfl)
  | with_reducible apply g_ixT
  | with_reducible apply g_ixL
  | with_reducible apply g_ixT0
  | with_reducible apply g_ixR
  | with_reducible apply g_ixRL
  | with_reducible apply g_ixL0
  | with_reducible apply g_addT
  | with_reducible apply g_addL
  | with_reducible apply g_modI
  | with_reducible apply g_divI
  | with_reducible exact isiX_dct_int
  | with_reducible exact isiX_dct_bool
  | with_reducible exact isiX_dct_tuple
  | with_reducible exact isiX_dct_list
  | with_reducible exact isiX_dct_str
  | with_reducible exact y_dict0
  | with_reducible apply isiX_of
  | with_reducible exact isi_non_int
  | with_reducible exact isi_non_bool
  | with_reducible exact isi_non_tuple
  | with_reducible exact isi_non_list
  | with_reducible exact isi_non_str
  | with_reducible exact isi_non_tl
  | with_reducible exact isi_bl_int
  | with_reducible exact isi_bl_bool
  | with_reducible exact isi_bl_tuple
  | with_reducible exact isi_bl_list
  | with_reducible exact isi_bl_str
  | with_reducible exact isi_bl_tl
  | with_reducible exact isi_int_int
  | with_reducible exact isi_int_bool
  | with_reducible exact isi_int_tuple
  | with_reducible exact isi_int_list
  | with_reducible exact isi_int_str
  | with_reducible exact isi_int_tl
  | with_reducible exact isi_str_int
  | with_reducible exact isi_str_bool
  | with_reducible exact isi_str_tuple
  | with_reducible exact isi_str_list
  | with_reducible exact isi_str_str
  | with_reducible exact isi_str_tl
  | with_reducible exact isi_tup_int
  | with_reducible exact isi_tup_bool
  | with_reducible exact isi_tup_tuple
  | with_reducible exact isi_tup_list
  | with_reducible exact isi_tup_str
  | with_reducible exact isi_tup_tl
  | with_reducible exact isi_lst_int
  | with_reducible exact isi_lst_bool
  | with_reducible exact isi_lst_tuple
  | with_reducible exact isi_lst_list
  | with_reducible exact isi_lst_str
  | with_reducible exact isi_lst_tl
  | ((with_reducible show truD _ = some _); exact rfl)
  | with_reducible exact g_lenL
  | with_reducible exact g_lenT
  | ((with_reducible show gLen _ = some _); exact rfl)
  | ((with_reducible show gMax2 _ = some _); exact rfl)
  | ((with_reducible show gMin2 _ = some _); exact rfl)
  | ((with_reducible show gInt _ = some _); exact rfl)
  | ((with_reducible show gList _ = some _); exact rfl)
  | ((with_reducible show gTuple _ = some _); exact rfl)
  | with_reducible exact g_revM
  | with_reducible exact g_revVL
  | with_reducible exact g_revVT
  | ((with_reducible show gRevV _ = some _); exact rfl)
  | with_reducible exact g_negI
  | ((with_reducible show gRev _ = some _); exact rfl)
  | with_reducible exact g_slTo
  | with_reducible exact g_slBT
  | with_reducible exact g_slBL
  | ((with_reducible apply g_slFT); first | exact rfl | omega)
  | ((with_reducible apply g_slFL); first | exact rfl | omega)
  | ((with_reducible apply g_slUT); first | exact rfl | omega)
  | ((with_reducible apply g_slUL); first | exact rfl | omega)
  | with_reducible apply g_slOne
  | ((with_reducible show gSl _ _ _ = some _); exact rfl)
  | ((with_reducible show gIs _ _ = some _); exact rfl)
  | ((with_reducible show gIsNot _ _ = some _); exact rfl)
  | ((with_reducible show List.length _ = FS.ar _); exact rfl)
  | ((with_reducible show FS.io _ = _); exact rfl)
  | ((with_reducible show _ = (R.bor _ :: _)); exact rfl)
  | ((with_reducible show List.length _ + 1 = FS.ar _); exact rfl)
  | ((with_reducible show Zz.sizeOk _ = true); first | exact rfl | (simp [Zz.sizeOk]; done) | (simp [Zz.sizeOk]; omega))
  | with_reducible apply y_lcy
  | with_reducible apply y_lc
  | with_reducible apply y_tgy
  | with_reducible apply y_tg
  | with_reducible apply y_all
  | ((with_reducible show plainB _ _ = true); exact rfl)
  | ((with_reducible show ∀ _, wipeE _ _ = _); exact fun _ => rfl)
  | ((with_reducible show ∀ _ _, wipeE _ _ = _); exact fun _ _ => rfl)
  | with_reducible apply y_gN
  | with_reducible apply y_gNio
  | with_reducible apply y_gT
  | with_reducible exact y_gTn
  | with_reducible apply y_gTc
  | with_reducible apply y_it
  | with_reducible exact itD_vL
  | with_reducible exact itD_vT
  | with_reducible exact itD_fL
  | ((with_reducible apply itD_bo); (exact rfl))
  | with_reducible exact natOf_cast
  | with_reducible exact natOf_sub
  | with_reducible exact natOf_sub1
  | with_reducible exact natOf_add1
  | with_reducible exact natOf_lit
  | ((with_reducible show NatOf _ _); exact rfl)
  | with_reducible apply y_rng1
  | with_reducible apply y_rng2
  | with_reducible apply y_zipT
  | with_reducible apply y_listRng
  | with_reducible apply y_enumT
  | with_reducible apply body_next
  | with_reducible apply run_set
  | with_reducible apply run_drop
  | with_reducible apply run_ret
  | with_reducible apply run_if
  | with_reducible apply run_assoc
  | with_reducible apply run_nop
  | with_reducible apply run_retN
  | with_reducible apply run_end
  | ((with_reducible show pinB _ _ = true); exact rfl)
  | ((with_reducible show fin _ _ = some _); exact rfl)
  | with_reducible apply is_of
  | ((with_reducible show _[_]? = some (some (Sl.ow _))); exact rfl)
  | with_reducible apply y_app
  | with_reducible apply y_popI
  | with_reducible exact s_next
  | with_reducible apply s_nextE
  | with_reducible apply s_seq
  | with_reducible apply s_if
  | with_reducible apply s_set
  | with_reducible apply s_drop
  | with_reducible apply s_par
  | with_reducible apply run_par
  | with_reducible apply run_asg
  | with_reducible apply s_asg
  | with_reducible apply y_subL
  | ((with_reducible show nrmB _ = true); exact rfl)
  | with_reducible apply put_v
  | with_reducible apply put_b
  | ((with_reducible show (_ && _) = false); exact rfl)
  | with_reducible apply put_f
  | with_reducible apply put_vio
  | with_reducible apply put_fio
  | ((with_reducible show (_ = true) → _); intro h__; first | (exfalso; revert h__; simp; done) | skip)
  | ((with_reducible show (_ = false) → _); intro h__; first | (exfalso; revert h__; simp; done) | skip)
  | ((with_reducible show (_ : Int) ≤ _); first | omega | (simp; done) | (simp; omega))
  | ((with_reducible show (_ : Int) < _); first | omega | (simp; done) | (simp; omega))
  | ((with_reducible show (_ : Nat) ≤ _); first | omega | (simp; done) | (simp; omega))
  | ((with_reducible show (_ : Nat) < _); first | omega | (simp; done) | (simp; omega))
  | intro _)
def toPT (p : Nat × Nat) : PT := .tp (.i p.1) (.i p.2)
theorem base_pt (ps : List (Nat × Nat)) : baseD ps = .tup ((ps.map toPT).map ptD) := by
  unfold baseD; rw [List.map_map]; rfl
theorem g_max2L (m : Nat) : gMax2 [.int 2, natD m] = some (.val (natD (max 2 m))) := by
  show some (R.val (.int (if (m : Int) > 2 then (m : Int) else 2))) = _
  have : (if (m : Int) > 2 then (m : Int) else 2) = ((max 2 m : Nat) : Int) := by split <;> omega
  rw [this]
theorem g_max1L (m : Nat) : gMax2 [.int 1, natD m] = some (.val (natD (max 1 m))) := by
  show some (R.val (.int (if (m : Int) > 1 then (m : Int) else 1))) = _
  have : (if (m : Int) > 1 then (m : Int) else 1) = ((max 1 m : Nat) : Int) := by split <;> omega
  rw [this]
section
variable (a0 a1 a2 a3 a4 a5 a6 a7 a8 a9 a10 a11 a12 a13 a14 : Option Sl) (m : Nat) (h1 : 1 ≤ m) (h5 : m ≤ 5) (ns : List Int)
theorem st1 (row : Rw) : ∃ (m : Nat) (row' : Rw), 1 ≤ m ∧ m ≤ 5 ∧ s_law_1 [a0, some (.ow (rowR ns row)), a2, a3, a4, a5, a6, a7, a8, a9, a10, a11, a12, a13, a14] =
    some (.next [a0, some (.ow (rowR ns row')), some (.sh (natD m)), a3, a4, a5, a6, a7, a8, a9, a10, a11, a12, a13, a14]) := by
  obtain ⟨n, s1, d, hn, hd, hr⟩ := e_pick ns row [.int 4, .int 4, .int 4, .int 5] (by decide) (by decide)
  obtain ⟨k, hk, rfl⟩ : ∃ k : Int, (k = 4 ∨ k = 5) ∧ d = .int k := by
    match n, hn, hd with
    | 0, _, hd => exact ⟨4, .inl rfl, (Option.some.inj hd).symm⟩
    | 1, _, hd => exact ⟨4, .inl rfl, (Option.some.inj hd).symm⟩
    | 2, _, hd => exact ⟨4, .inl rfl, (Option.some.inj hd).symm⟩
    | 3, _, hd => exact ⟨5, .inr rfl, (Option.some.inj hd).symm⟩
    | n + 4, hn, _ => exact absurd hn (by simp)
  obtain ⟨n2, s2, hn2, hr2⟩ := e_taken ns s1 k (by omega) (by omega)
  refine ⟨n2 + 1, s2, by omega, by omega, ?_⟩
  have e1 : Dat.int (1 + (n2 : Int)) = natD (n2 + 1) := by unfold natD; congr 1; omega
  unfold s_law_1
  rw [← e1]
  repeat' (first | array_get_dec | with_reducible apply y_callio (hr := hr) | with_reducible apply y_callio (hr := hr2))
include h1 h5
theorem st4 : s_law_4 [a0, a1, some (.sh (natD m)), a3, a4, a5, a6, a7, a8, a9, a10, a11, a12, a13, a14] =
    some (.next [a0, a1, some (.sh (natD m)), some (.ow (.lst [.tup [], baseD (knownOf 2), baseD (knownOf 3), baseD (knownOf 4)])), a4, a5, a6, a7, a8, a9, a10, a11, a12, a13, a14]) := by
  unfold s_law_4
  repeat' array_get_dec
  all_goals rfl
theorem st5 : s_law_5 [a0, a1, some (.sh (natD m)), some (.ow (.lst [.tup [], baseD (knownOf 2), baseD (knownOf 3), baseD (knownOf 4)])), a4, a5, a6, a7, a8, a9, a10, a11, a12, a13, a14] =
    some (.next [a0, a1, some (.sh (natD m)), some (.ow (.lst KN)), a4, a5, a6, a7, a8, a9, a10, a11, a12, a13, a14]) := by
  unfold s_law_5
  repeat' array_get_dec
  all_goals rfl
theorem st6 : s_law_6 [a0, a1, some (.sh (natD m)), some (.ow (.lst KN)), a4, a5, a6, a7, a8, a9, a10, a11, a12, a13, a14] =
    some (.next [a0, a1, some (.sh (natD m)), some (.ow (.lst KN)), a4, a5, a6, a7, a8, a9, a10, a11, a12, a13, a14]) := by
  unfold s_law_6
  have h9 := len9' m h1 h5
  have hs := e_shows m h1 h5 (knownOf m) (len_known m h1 h5) (ok_known m h1 h5) (by rw [len_known m h1 h5]; show (fewestOf m).length ≤ 60; omega)
  rw [left_known m h1 h5] at hs
  have hx := ix_known m h1 h5
  repeat' (first | with_reducible exact hx | array_get_dec | with_reducible apply y_callV (hr := hs))
theorem st7 (row : Rw) : ∃ (ps : List (Nat × Nat)) (row' : Rw), ps.length ≤ 9 ∧ s_law_7 [a0, some (.ow (rowR ns row)), some (.sh (natD m)), some (.ow (.lst KN)), some (.sh (baseD (fewestOf m))), a5, a6, a7, a8, a9, a10, a11, a12, a13, a14] =
    some (.next [a0, some (.ow (rowR ns row')), some (.sh (natD m)), some (.ow (.lst KN)), some (.sh (baseD ps)), a5, a6, a7, a8, a9, a10, a11, a12, a13, a14]) := by
  have h9 := len9' m h1 h5
  have hx := ix_known m h1 h5
  have hkl : (knownOf m).length = (fewestOf m).length := len_known m h1 h5
  obtain ⟨n, s1, d, hn, hd, hr⟩ := e_pick ns row [baseD (fewestOf m), baseD (knownOf m)] (by simp) (by simp)
  obtain ⟨ps, hl, rfl⟩ : ∃ ps : List (Nat × Nat), ps.length ≤ 9 ∧ d = baseD ps := by
    match n, hn, hd with
    | 0, _, hd => exact ⟨_, h9, (Option.some.inj hd).symm⟩
    | 1, _, hd => exact ⟨_, by omega, (Option.some.inj hd).symm⟩
    | n + 2, hn, _ => exact absurd hn (by simp)
  refine ⟨ps, s1, hl, ?_⟩
  unfold s_law_7
  repeat' (first | with_reducible exact hx | array_get_dec | with_reducible apply y_callio (hr := hr))
theorem st8 (P : List PT) (row : Rw) : ∃ (at' : Nat) (p : PT) (row' : Rw), s_law_8 [a0, some (.ow (rowR ns row)), some (.sh (natD m)), a3, a4, a5, a6, a7, some (.sh (natD (sizeOf' m))), a9, a10, a11, a12, a13, a14] =
    some (.next [a0, some (.ow (rowR ns row')), some (.sh (natD m)), a3, a4, a5, a6, a7, some (.sh (natD (sizeOf' m))), some (.sh (natD at')), some (.sh (ptD p)), a11, a12, a13, a14]) := by
  have h9 := len9' m h1 h5
  obtain ⟨n, s1, hn, hr⟩ := e_taken ns row ((max 1 (sizeOf' m) : Nat) : Int) (by omega) (by have : sizeOf' m ≤ 9 := h9; omega)
  obtain ⟨l, s2, hl, hr2⟩ := e_order ns s1 (max 2 m) (by omega)
  obtain ⟨x, y, t, rfl⟩ : ∃ x y t, l = x :: y :: t := by
    have := hl.length_eq
    rw [List.length_range] at this
    match l, this with
    | [], h => simp at h; omega
    | [x], h => simp at h; omega
    | x :: y :: t, _ => exact ⟨x, y, t, rfl⟩
  refine ⟨n, .tp (.i x) (.i y), s2, ?_⟩
  have hx1 := g_max1L (sizeOf' m)
  have hx2 := g_max2L m
  unfold s_law_8
  repeat' (first | with_reducible exact hx1 | with_reducible exact hx2 | array_get_dec | with_reducible apply y_callio (hr := hr) | with_reducible apply y_callio (hr := hr2))
  all_goals rfl
end
end Pr
end

section
set_option linter.all false
set_option maxRecDepth 100000
set_option maxHeartbeats 1000000
namespace Pr
open PySem PySem.Spec PyProof.Rows L2 Zz
local macro_rules | `(tactic| array_get_dec) => `(tactic| first
  | with_reducible exact set_z
  | with_reducible apply set_s
  | ((with_reducible apply y_sh); exact rfl)
  | ((with_reducible apply y_ow); exact rfl)
  | ((with_reducible show rdv _ _ = some _); exact rfl)
  | with_reducible exact y_c
  | with_reducible exact nrm_v
  | with_reducible exact nrm_f
  | with_reducible exact nrm_b
  | with_reducible apply y_cons
  | ((with_reducible show zNil _ = _); exact y_nil)
  | ((with_reducible show rdvs _ _ = some _); exact rfl)
  | ((with_reducible show _ < List.length _); exact Nat.le_of_ble_eq_true rfl)
  | ((with_reducible show _ < List.length _); exact List.mem_range.mp ‹_›)
  | ((with_reducible show esc _ (R.val _) = _); exact esc_v)
  | with_reducible exact esc_f
  | ((with_reducible show escs _ [] = _); exact escs_nil)
  | with_reducible apply escs_cons
  | with_reducible apply y_bin
  | with_reducible apply y_callB
  | with_reducible exact wipe_nil
  | with_reducible apply wipe_cons
  | ((with_reducible apply esc_bo); (exact rfl))
  | ((with_reducible apply esc_bs); (exact rfl))
  | ((with_reducible show ∀ _, esc _ _ = some _); exact fun _ => rfl)
  | ((with_reducible show ∀ _ _, esc _ _ = some _); exact fun _ _ => rfl)
  | with_reducible apply y_tb
  | with_reducible apply y_tru
  | with_reducible apply y_tnot
  | with_reducible apply y_tand
  | with_reducible apply y_tor
  | with_reducible apply y_andV
  | with_reducible apply y_orV
  | with_reducible apply y_oft
  | with_reducible apply y_chain
  | with_reducible apply y_un
  | with_reducible apply y_rev
  | with_reducible apply y_revV
  | with_reducible apply y_tup
  | with_reducible apply y_lst
  | with_reducible apply y_sl
  | with_reducible exact y_nop
  | with_reducible apply y_p
  | with_reducible exact g_addI
  | with_reducible exact g_subI
  | with_reducible exact g_eqI
  | with_reducible exact g_eqNilT
  | with_reducible exact alk_int
  | with_reducible exact alk_bl
  | with_reducible exact alk_non
  | with_reducible apply alk_tup
  | with_reducible apply alk_lst
  | with_reducible apply alk_lstR
  | with_reducible apply alk_tupR
  | with_reducible exact alk_nil
  | with_reducible apply alk_cons
  | with_reducible exact g_eqNil eqe_nat (by decide) _
  | with_reducible exact g_eqNil eqe_int (by decide) _
  | with_reducible exact g_neNil eqe_nat (by decide) _
  | with_reducible exact g_neNil eqe_int (by decide) _
  | with_reducible exact g_neI
  | with_reducible exact g_eqB
  | with_reducible exact g_neB
  | with_reducible exact g_eqR
  | with_reducible exact g_neR
  | with_reducible exact g_eqLI
  | with_reducible exact g_neLI
  | with_reducible exact g_eqLR
  | with_reducible exact g_ltI
  | with_reducible exact g_leI
  | with_reducible exact g_gtI
  | with_reducible exact g_geI
  | ((with_reducible show gIx (.tup (_ :: _)) _ = some _); exact rfl)
  | ((with_reducible show gIx (.lst (_ :: _)) _ = some _); exact rfl)
  | with_reducible apply g_ixT
  | with_reducible apply g_ixL
  | with_reducible apply g_ixT0
  | with_reducible apply g_ixR
  | with_reducible apply g_ixRL
  | with_reducible apply g_ixL0
  | with_reducible apply g_addT
  | with_reducible apply g_addL
  | with_reducible apply g_modI
  | with_reducible apply g_divI
  | with_reducible exact isiX_dct_int
  | with_reducible exact isiX_dct_bool
  | with_reducible exact isiX_dct_tuple
  | with_reducible exact isiX_dct_list
  | with_reducible exact isiX_dct_str
  | with_reducible exact y_dict0
  | with_reducible apply isiX_of
  | with_reducible exact isi_non_int
  | with_reducible exact isi_non_bool
  | with_reducible exact isi_non_tuple
  | with_reducible exact isi_non_list
  | with_reducible exact isi_non_str
  | with_reducible exact isi_non_tl
  | with_reducible exact isi_bl_int
  | with_reducible exact isi_bl_bool
  | with_reducible exact isi_bl_tuple
  | with_reducible exact isi_bl_list
  | with_reducible exact isi_bl_str
  | with_reducible exact isi_bl_tl
  | with_reducible exact isi_int_int
  | with_reducible exact isi_int_bool
  | with_reducible exact isi_int_tuple
  | with_reducible exact isi_int_list
  | with_reducible exact isi_int_str
  | with_reducible exact isi_int_tl
  | with_reducible exact isi_str_int
  | with_reducible exact isi_str_bool
  | with_reducible exact isi_str_tuple
  | with_reducible exact isi_str_list
  | with_reducible exact isi_str_str
  | with_reducible exact isi_str_tl
  | with_reducible exact isi_tup_int
  | with_reducible exact isi_tup_bool
  | with_reducible exact isi_tup_tuple
  | with_reducible exact isi_tup_list
  | with_reducible exact isi_tup_str
  | with_reducible exact isi_tup_tl
  | with_reducible exact isi_lst_int
  | with_reducible exact isi_lst_bool
  | with_reducible exact isi_lst_tuple
  | with_reducible exact isi_lst_list
  | with_reducible exact isi_lst_str
  | with_reducible exact isi_lst_tl
  | ((with_reducible show truD _ = some _); exact rfl)
  | with_reducible exact g_lenL
  | with_reducible exact g_lenT
  | ((with_reducible show gLen _ = some _); exact rfl)
  | ((with_reducible show gMax2 _ = some _); exact rfl)
  | ((with_reducible show gMin2 _ = some _); exact rfl)
  | ((with_reducible show gInt _ = some _); exact rfl)
  | ((with_reducible show gList _ = some _); exact rfl)
  | ((with_reducible show gTuple _ = some _); exact rfl)
  | with_reducible exact g_revM
  | with_reducible exact g_revVL
  | with_reducible exact g_revVT
  | ((with_reducible show gRevV _ = some _); exact rfl)
  | with_reducible exact g_negI
  | ((with_reducible show gRev _ = some _); exact rfl)
  | with_reducible exact g_slTo
  | with_reducible exact g_slBT
  | with_reducible exact g_slBL
  | ((with_reducible apply g_slFT); first | exact rfl | omega)
  | ((with_reducible apply g_slFL); first | exact rfl | omega)
  | ((with_reducible apply g_slUT); first | exact rfl | omega)
  | ((with_reducible apply g_slUL); first | exact rfl | omega)
  | with_reducible apply g_slOne
  | ((with_reducible show gSl _ _ _ = some _); exact rfl)
  | ((with_reducible show gIs _ _ = some _); exact rfl)
  | ((with_reducible show gIsNot _ _ = some _); exact rfl)
  | ((with_reducible show List.length _ = FS.ar _); exact rfl)
  | ((with_reducible show FS.io _ = _); exact rfl)
  | ((with_reducible show _ = (R.bor _ :: _)); exact rfl)
  | ((with_reducible show List.length _ + 1 = FS.ar _); exact rfl)
  | ((with_reducible show Zz.sizeOk _ = true); first | exact rfl | (simp [Zz.sizeOk]; done) | (simp [Zz.sizeOk]; omega))
  | with_reducible apply y_lcy
  | with_reducible apply y_lc
  | with_reducible apply y_tgy
  | with_reducible apply y_tg
  | with_reducible apply y_all
  | ((with_reducible show plainB _ _ = true); exact rfl)
  | ((with_reducible show ∀ _, wipeE _ _ = _); exact fun _ => rfl)
  | ((with_reducible show ∀ _ _, wipeE _ _ = _); exact fun _ _ => rfl)
  | with_reducible apply y_gN
  | with_reducible apply y_gNio
  | with_reducible apply y_gT
  | with_reducible exact y_gTn
  | with_reducible apply y_gTc
  | with_reducible apply y_it
  | with_reducible exact itD_vL
  | with_reducible exact itD_vT
  | with_reducible exact itD_fL
  | ((with_reducible apply itD_bo); (exact rfl))
  | with_reducible exact natOf_cast
  | with_reducible exact natOf_sub
  | with_reducible exact natOf_sub1
  | with_reducible exact natOf_add1
  | with_reducible exact natOf_lit
  | ((with_reducible show NatOf _ _); exact rfl)
  | with_reducible apply y_rng1
  | with_reducible apply y_rng2
  | with_reducible apply y_zipT
  | with_reducible apply y_listRng
  | with_reducible apply y_enumT
  | with_reducible apply body_next
  | with_reducible apply run_set
  | with_reducible apply run_drop
  | with_reducible apply run_ret
  | with_reducible apply run_if
  | with_reducible apply run_assoc
  | with_reducible apply run_nop
  | with_reducible apply run_retN
  | with_reducible apply run_end
  | ((with_reducible show pinB _ _ = true); exact rfl)
  | ((with_reducible show fin _ _ = some _); exact rfl)
  | with_reducible apply is_of
  | ((with_reducible show _[_]? = some (some (Sl.ow _))); exact rfl)
  | with_reducible apply y_app
  | with_reducible apply y_popI
  | with_reducible exact s_next
  | with_reducible apply s_nextE
  | with_reducible apply s_seq
  | with_reducible apply s_if
  | with_reducible apply s_set
  | with_reducible apply s_drop
  | with_reducible apply s_par
  | with_reducible apply run_par
  | with_reducible apply run_asg
  | with_reducible apply s_asg
  | with_reducible apply y_subL
  | ((with_reducible show nrmB _ = true); exact rfl)
  | with_reducible apply put_v
  | with_reducible apply put_b
  | ((with_reducible show (_ && _) = false); exact rfl)
  | with_reducible apply put_f
  | with_reducible apply put_vio
  | with_reducible apply put_fio
  | ((with_reducible show (_ = true) → _); intro h__; first | (exfalso; revert h__; simp; done) | skip)
  | ((with_reducible show (_ = false) → _); intro h__; first | (exfalso; revert h__; simp; done) | skip)
  | ((with_reducible show (_ : Int) ≤ _); first | omega | (simp; done) | (simp; omega))
  | ((with_reducible show (_ : Int) < _); first | omega | (simp; done) | (simp; omega))
  | ((with_reducible show (_ : Nat) ≤ _); first | omega | (simp; done) | (simp; omega))
  | ((with_reducible show (_ : Nat) < _); first | omega | (simp; done) | (simp; omega))
  | intro _)
section
variable (a0 a1 a2 a3 a4 a5 a6 a7 a8 a9 a10 a11 a12 a13 a14 : Option Sl) (m : Nat) (h1 : 1 ≤ m) (h5 : m ≤ 5) (ns : List Int)
def somes (P : List PT) (p : PT) (k : Nat) : List VL := [.tp P, .tp P.reverse, .tp (P.drop 1), .tp (P ++ [p]), .tp (P.take k ++ [p] ++ P.drop (k + 1)), .tp (P.drop 1 ++ P.take 1)]
theorem st9 (P : List PT) (hP : P.length ≤ 9) (k : Nat) (p : PT) : s_law_9 [a0, a1, a2, a3, some (.sh (.tup (P.map ptD))), a5, a6, a7, a8, some (.sh (natD k)), some (.sh (ptD p)), a11, a12, a13, a14] =
    some (.next [a0, a1, a2, a3, some (.sh (.tup (P.map ptD))), some (.ow (.lst ((somes P p k).map vlD))), a6, a7, a8, some (.sh (natD k)), some (.sh (ptD p)), a11, a12, a13, a14]) := by
  unfold s_law_9
  repeat' (first | with_reducible apply g_addTM1 | with_reducible apply g_addTM | array_get_dec)
  all_goals rfl
def qpt (m : Nat) : List PT := [.tp (.i 0) (.i 0), .tp (.i 0) (.i m), .ls 0 1, .tp (.b true) (.i 0)]
def odds (P : List PT) (m : Nat) : List VL := [.no, .ls P, .dc, .nu, .tp (P.dropLast ++ [.no]), .tp (P.dropLast ++ [.tp (.i 0) (.i 0)]), .tp (P.dropLast ++ [.tp (.i 0) (.i m)]), .tp (P.dropLast ++ [.ls 0 1]), .tp (P.dropLast ++ [.tp (.b true) (.i 0)])]
theorem st10 (P : List PT) (hP : P.length ≤ 9) : s_law_10 [a0, a1, some (.sh (natD m)), a3, some (.sh (.tup (P.map ptD))), a5, a6, a7, a8, a9, a10, a11, a12, a13, a14] =
    some (.next [a0, a1, some (.sh (natD m)), a3, some (.sh (.tup (P.map ptD))), a5, some (.ow (.lst ((odds P m).map vlD))), a7, a8, a9, a10, a11, a12, a13, a14]) := by
  unfold s_law_10
  have k1 : gAdd (.tup (P.dropLast.map ptD)) (.tup [.non]) = some (.val (.tup ((P.dropLast ++ [PT.no]).map ptD))) := g_addTM1 (x := PT.no) (by simp [Zz.sizeOk]; omega)
  have k2 : gAdd (.tup (P.dropLast.map ptD)) (.tup [.tup [.int 0, .int 0]]) = some (.val (.tup ((P.dropLast ++ [PT.tp (.i 0) (.i 0)]).map ptD))) := g_addTM1 (x := PT.tp (.i 0) (.i 0)) (by simp [Zz.sizeOk]; omega)
  have k3 : gAdd (.tup (P.dropLast.map ptD)) (.tup [.tup [.int 0, natD m]]) = some (.val (.tup ((P.dropLast ++ [PT.tp (.i 0) (.i m)]).map ptD))) := g_addTM1 (x := PT.tp (.i 0) (.i m)) (by simp [Zz.sizeOk]; omega)
  have k4 : gAdd (.tup (P.dropLast.map ptD)) (.tup [.lst [.int 0, .int 1]]) = some (.val (.tup ((P.dropLast ++ [PT.ls 0 1]).map ptD))) := g_addTM1 (x := PT.ls 0 1) (by simp [Zz.sizeOk]; omega)
  have k5 : gAdd (.tup (P.dropLast.map ptD)) (.tup [.tup [.bl true, .int 0]]) = some (.val (.tup ((P.dropLast ++ [PT.tp (.b true) (.i 0)]).map ptD))) := g_addTM1 (x := PT.tp (.b true) (.i 0)) (by simp [Zz.sizeOk]; omega)
  repeat' (first | with_reducible exact k1 | with_reducible exact k2 | with_reducible exact k3 | with_reducible exact k4 | with_reducible exact k5 | array_get_dec)
  all_goals rfl
theorem e_pickV (ns : List Int) (s : Rw) (l : List VL) (h1 : 0 < l.length) (h2 : l.length ≤ 1000) : ∃ (v : VL) (s' : Rw), fs__law_pick.run [rowR ns s, .lst (l.map vlD)] = some (vlD v, false, rowR ns s') := by
  obtain ⟨n, s', d, hn, hd, hr⟩ := e_pick ns s (l.map vlD) (by simpa using h1) (by simpa using h2)
  have hn : n < l.length := by simpa using hn
  refine ⟨l[n], s', ?_⟩
  rw [List.getElem?_map, List.getElem?_eq_getElem hn] at hd
  cases hd
  exact hr
structure S11 where
  v : Option Sl
  y : Option Sl
  z : Option Dat
  w : Option Sl
include h1 h5
theorem st11 (P : List PT) (p : PT) (k : Nat) (row : Rw) {K : SS} (q : ∀ E, Run false K E (Is (.bl true, false, .non))) : Run false (zSeq s_law_11 K) [a0, some (.ow (rowR ns row)), some (.sh (natD m)), a3, a4, some (.ow (.lst ((somes P p k).map vlD))), some (.ow (.lst ((odds P m).map vlD))), a7, some (.sh (natD (sizeOf' m))), a9, a10, a11, none, a13, none] (Is (.bl true, false, .non)) := by
  obtain ⟨v1, r1, e1⟩ := e_pickV ns row (somes P p k) (by simp [somes]) (by simp [somes])
  obtain ⟨v2, r2, e2⟩ := e_pickV ns r1 (somes P p k) (by simp [somes]) (by simp [somes])
  obtain ⟨v3, r3, e3⟩ := e_pickV ns r2 (odds P m) (by simp [odds]) (by simp [odds])
  unfold s_law_11
  have c1 : zCall fs__law_pick (zCons (zVar 1) (zCons (zVar 5) (zNil))) [a0, some (.ow (rowR ns row)), some (.sh (natD m)), a3, a4, some (.ow (.lst ((somes P p k).map vlD))), some (.ow (.lst ((odds P m).map vlD))), a7, some (.sh (natD (sizeOf' m))), a9, a10, a11, none, a13, none] =
      some (.val (vlD v1), [a0, some (.ow (rowR ns r1)), some (.sh (natD m)), a3, a4, some (.sh (.lst ((somes P p k).map vlD))), some (.ow (.lst ((odds P m).map vlD))), a7, some (.sh (natD (sizeOf' m))), a9, a10, a11, none, a13, none]) := by
    repeat' (first | array_get_dec | with_reducible apply y_callio (hr := e1))
  have c2 : zCall fs__law_pick (zCons (zVar 1) (zCons (zVar 5) (zNil))) [a0, some (.ow (rowR ns r1)), some (.sh (natD m)), a3, a4, some (.sh (.lst ((somes P p k).map vlD))), some (.ow (.lst ((odds P m).map vlD))), a7, some (.sh (natD (sizeOf' m))), a9, a10, a11, none, a13, none] =
      some (.val (vlD v2), [a0, some (.ow (rowR ns r2)), some (.sh (natD m)), a3, a4, some (.sh (.lst ((somes P p k).map vlD))), some (.ow (.lst ((odds P m).map vlD))), a7, some (.sh (natD (sizeOf' m))), a9, a10, a11, none, a13, none]) := by
    repeat' (first | array_get_dec | with_reducible apply y_callio (hr := e2))
  have c3 : zCall fs__law_pick (zCons (zVar 1) (zCons (zVar 6) (zNil))) [a0, some (.ow (rowR ns r2)), some (.sh (natD m)), a3, a4, some (.sh (.lst ((somes P p k).map vlD))), some (.ow (.lst ((odds P m).map vlD))), a7, some (.sh (natD (sizeOf' m))), a9, a10, a11, none, a13, none] =
      some (.val (vlD v3), [a0, some (.ow (rowR ns r3)), some (.sh (natD m)), a3, a4, some (.sh (.lst ((somes P p k).map vlD))), some (.sh (.lst ((odds P m).map vlD))), a7, some (.sh (natD (sizeOf' m))), a9, a10, a11, none, a13, none]) := by
    repeat' (first | array_get_dec | with_reducible apply y_callio (hr := e3))
  apply run_inv (S := S11) (α := VL) (D := vlD) (l := [v1, v2, v3]) (fun s => [a0, some (.ow (rowR ns r3)), some (.sh (natD m)), a3, a4, some (.sh (.lst ((somes P p k).map vlD))), some (.sh (.lst ((odds P m).map vlD))), s.v, some (.sh (natD (sizeOf' m))), a9, a10, s.y, s.z.map Sl.sh, s.w, none]) (fun _ _ => True) ⟨a7, a11, none, a13⟩
  case hi =>
    repeat' (first | with_reducible exact c1 | with_reducible exact c2 | with_reducible exact c3 | array_get_dec)
    all_goals rfl
  case hp => rfl
  case h0 => trivial
  case hb =>
    intro i x s hx _
    obtain ⟨y, z, w, e⟩ := body11 a0 (some (.ow (rowR ns r3))) a3 a4 (some (.sh (.lst ((somes P p k).map vlD)))) (some (.sh (.lst ((odds P m).map vlD)))) a9 a10 s.w m h1 h5 x s.y s.z
    exact ⟨⟨some (.sh (vlD x)), y, z, w⟩, body_next rfl e, trivial⟩
  case q => exact fun s _ => q _
end
theorem math : ∀ ns : List Int, ns.length ≤ 63 → (∀ i ∈ ns, Builtin.Int.intBits i ≤ 1048576) → zDef (N_law).length false g_law [.lst (ns.map Dat.int)] = some (.bl true, false, .non) := by
  intro ns _ _
  refine rd_law ?_
  rw [eq_law]
  have e0 : Dat.lst [.lst (ns.map Dat.int), .int 0, .int 8017, .int 0] = rowR ns (0, 8017, 0) := rfl
  apply run_seq (E1 := [some (.sh (.lst (ns.map Dat.int))), some (.ow (rowR ns (0, 8017, 0))), none, none, none, none, none, none, none, none, none, none, none, none, none])
  case h => rw [← e0]; unfold s_law_0; repeat' array_get_dec
  obtain ⟨m, r1, h1, h5, e1⟩ := st1 (some (.sh (.lst (ns.map Dat.int)))) none none none none none none none none none none none none none ns (0, 8017, 0)
  refine run_seq e1 (run_seq (st2 _ _ _ _ _ _ _ _ _ _ _ _ _ _ m h1 h5) (run_seq (st3 _ _ _ _ _ _ _ _ _ _ _ _ m h1 h5) (run_seq (st4 _ _ _ _ _ _ _ _ _ _ _ _ _ _ m h1 h5) (run_seq (st5 _ _ _ _ _ _ _ _ _ _ _ _ _ m h1 h5) (run_seq (st6 _ _ _ _ _ _ _ _ _ _ _ _ _ m h1 h5) ?_)))))
  obtain ⟨ps, r2, hl, e2⟩ := st7 (some (.sh (.lst (ns.map Dat.int)))) none none none (some (.sh (natD (sizeOf' m)))) none none none none none none m h1 h5 ns r1
  refine run_seq e2 ?_
  rw [base_pt]
  obtain ⟨k, p, r3, e3⟩ := st8 (some (.sh (.lst (ns.map Dat.int)))) (some (.ow (.lst KN))) (some (.sh (.tup ((ps.map toPT).map ptD)))) none none none none none none none none none m h1 h5 ns (ps.map toPT) r2
  refine run_seq e3 (run_seq (st9 _ _ _ _ _ _ _ _ _ _ _ _ (ps.map toPT) (by simpa using hl) k p) (run_seq (st10 _ _ _ _ _ _ _ _ _ _ _ _ _ m (ps.map toPT) (by simpa using hl)) ?_))
  refine st11 _ _ _ _ _ _ _ _ m h1 h5 ns (ps.map toPT) p k r3 fun E => ?_
  unfold s_law_12
  repeat' array_get_dec
  all_goals rfl
end Pr
end

section
set_option Elab.async false
set_option linter.all false
set_option maxRecDepth 100000
set_option maxHeartbeats 0
namespace Pr
open PySem PySem.Spec PyProof.Rows L2 Zz
def defs : List (Str × Nat) := [("is_number", 7), ("is_tuple", 8), ("check_number", 9), ("is_lay", 10), ("is_lays", 11), ("check_lays", 12), ("choices", 13), ("brings_all", 16), ("fewest_lays", 17), ("shows_fixed", 18), ("check_fixed", 19), ("all_heaps", 20), ("brought", 21), ("not_brought", 22), ("_law_taken", 24), ("_law_pick", 25), ("_law_order", 26), ("_law_carried", 27), ("_law_columns", 28), ("_law_alike", 29), ("law", 30)]
def fn : List He.DefD := defs.map fun p => dfOf p.1 (top p.2)
def fa : List He.Fa := [.glo "is_number", .glo "is_tuple", .glo "check_number", .glo "is_lay", .glo "is_lays", .glo "check_lays", .glo "choices", .glo "brings_all", .glo "fewest_lays", .glo "shows_fixed", .glo "check_fixed", .glo "all_heaps", .glo "brought", .glo "not_brought", .glo "_law_taken", .glo "_law_pick", .glo "_law_order", .glo "_law_carried", .glo "_law_columns", .glo "_law_alike", .glo "law", .free "all", .free "bool", .free "enumerate", .free "int", .free "isinstance", .free "len", .free "list", .free "max", .free "min", .free "range", .free "sorted", .free "str", .free "tuple", .int "MOST_PEOPLE" 6, .int "MOST_LAYS" 60, .glo "FEWEST_LAYS"]
def tb : List (Str × Option Str) := [("is_lay", none), ("is_lays", none)]
def cs : List (Str × Dat) := [("FEWEST_LAYS", DC_FEWEST_LAYS)]

/-- the law's mathematics: on every script its meaning is True -/
def Math : Prop := ∀ ns : List Int, ns.length ≤ 63 → (∀ i ∈ ns, Builtin.Int.intBits i ≤ 1048576) → zDef (N_law).length false g_law [.lst (ns.map Dat.int)] = some (.bl true, false, .non)
theorem ints_of : ∀ l : List Dat, (l.all fun d => match d with | .int i => decide (Builtin.Int.intBits i ≤ 1048576) | _ => false) = true → ∃ ns : List Int, l = ns.map Dat.int ∧ ∀ i ∈ ns, Builtin.Int.intBits i ≤ 1048576
  | [], _ => ⟨[], rfl, fun _ h => absurd h List.not_mem_nil⟩
  | d :: l, h => by
    rw [List.all_cons, Bool.and_eq_true] at h
    obtain ⟨ns, e, q⟩ := ints_of l h.2
    have h1 := h.1
    split at h1
    · rename_i i
      refine ⟨i :: ns, by rw [e]; rfl, fun j hj => ?_⟩
      rcases List.mem_cons.mp hj with z | z
      · rw [z]; exact of_decide_eq_true h1
      · exact q j z
    · cases h1
theorem law_run (math : Math) (ds : List Dat) (out : Dat × Bool × Dat) (hl : ds.length = (lawFS 63).ar) (h : (lawFS 63).run ds = some out) : zDef (N_law).length false g_law ds = some out := by
  unfold lawFS at h
  dsimp only at h
  split at h
  · rename_i l
    split at h
    · rename_i hb
      rw [Bool.and_eq_true] at hb
      obtain ⟨ns, rfl, q⟩ := ints_of l hb.2
      cases h
      exact math ns (by simpa using hb.1) q
    · cases h
  · cases h
theorem law_fn (math : Math) {P : Program} {w : World} {K : PySem.W.Frag} {mg : Str → Option Value} {h base : Heap} (KX : K.In h) (hG : h.Ns mainGlobals mg) (c : SaysT fa fn tb K h) (hT : ∀ p ∈ tb, GxR.TabB base mg (cdA K p) (tbA K (cdA K p))) :
    ∃ fd, PySem.W.keepIn K (.ref (He.ga K "law")) = true ∧ (∀ (s : Shared) (u : Value), BindsTo s fd ⟨[u], []⟩ [("script", u)]) ∧ True := by
  obtain ⟨fd, cd, F⟩ := c.df (x := "law") (st := top 30) 20 rfl
  exact ⟨fd, F.kp, fun s u => F.bindsA (ps := ["script"]) (fun _ _ _ _ _ _ us hl => match us, hl with | [_], _ => rfl) s [u] rfl, trivial⟩

theorem all_fn (math : Math) {P : Program} {w : World} {K : PySem.W.Frag} {mg : Str → Option Value} {h base : Heap} (KX : K.In h) (hG : h.Ns mainGlobals mg) (c0 : SaysC fa fn tb cs K h) (hT : ∀ p ∈ tb, GxR.TabB base mg (cdA K p) (tbA K (cdA K p))) {fd : FuncData} {cd : Value} (F_law : Df K "law" (top 30) (He.ga K "law") fd cd) :
    FnOk P w K mg base CX0 15 (He.ga K "law") fd ["script"] (SpF K (⟨mg, tb.map fun p => tbA K (cdA K p)⟩ : GG) (lawFS 63)) := by
  have c := c0.1
  have m_all : mg "all" = none := He.free_ok KX hG (c.1.fact 21)
  have m_bool : mg "bool" = none := He.free_ok KX hG (c.1.fact 22)
  have m_enumerate : mg "enumerate" = none := He.free_ok KX hG (c.1.fact 23)
  have m_int : mg "int" = none := He.free_ok KX hG (c.1.fact 24)
  have m_isinstance : mg "isinstance" = none := He.free_ok KX hG (c.1.fact 25)
  have m_len : mg "len" = none := He.free_ok KX hG (c.1.fact 26)
  have m_list : mg "list" = none := He.free_ok KX hG (c.1.fact 27)
  have m_max : mg "max" = none := He.free_ok KX hG (c.1.fact 28)
  have m_min : mg "min" = none := He.free_ok KX hG (c.1.fact 29)
  have m_range : mg "range" = none := He.free_ok KX hG (c.1.fact 30)
  have m_sorted : mg "sorted" = none := He.free_ok KX hG (c.1.fact 31)
  have m_str : mg "str" = none := He.free_ok KX hG (c.1.fact 32)
  have m_tuple : mg "tuple" = none := He.free_ok KX hG (c.1.fact 33)
  obtain ⟨t_MOST_PEOPLE, c_MOST_PEOPLE⟩ := He.int_ok KX hG (c.1.fact 34)
  obtain ⟨t_MOST_LAYS, c_MOST_LAYS⟩ := He.int_ok KX hG (c.1.fact 35)
  have D_FEWEST_LAYS : CnD K (⟨mg, tb.map fun p => tbA K (cdA K p)⟩ : GG) "FEWEST_LAYS" DC_FEWEST_LAYS := c0.cn (G := (⟨mg, tb.map fun p => tbA K (cdA K p)⟩ : GG)) (He.glo_ok KX hG (c.1.fact 36)) (List.mem_of_getElem? (i := 0) rfl)
  obtain ⟨fd_is_number, cd_is_number, F_is_number⟩ := c.df (x := "is_number") (st := top 7) 0 rfl
  have g_is_number : mg "is_number" = some (.ref (He.ga K "is_number")) := He.glo_ok KX hG (c.1.fact 0)
  have bi_is_number := F_is_number.binds (ps := ["value", "least", "most"]) fun _ _ _ _ _ _ us hl => match us, hl with | [_, _, _], _ => rfl
  have K_is_number := k_is_number (P := P) (w := w) (K := K) (G := (⟨mg, tb.map fun p => tbA K (cdA K p)⟩ : GG)) (base := base) m_bool m_int m_isinstance F_is_number g_is_number bi_is_number
  obtain ⟨fd_is_tuple, cd_is_tuple, F_is_tuple⟩ := c.df (x := "is_tuple") (st := top 8) 1 rfl
  have g_is_tuple : mg "is_tuple" = some (.ref (He.ga K "is_tuple")) := He.glo_ok KX hG (c.1.fact 1)
  have bi_is_tuple := F_is_tuple.binds (ps := ["value", "least", "most"]) fun _ _ _ _ _ _ us hl => match us, hl with | [_, _, _], _ => rfl
  have K_is_tuple := k_is_tuple (P := P) (w := w) (K := K) (G := (⟨mg, tb.map fun p => tbA K (cdA K p)⟩ : GG)) (base := base) m_isinstance m_len m_tuple F_is_tuple g_is_tuple bi_is_tuple
  obtain ⟨fd_check_number, cd_check_number, F_check_number⟩ := c.df (x := "check_number") (st := top 9) 2 rfl
  have g_check_number : mg "check_number" = some (.ref (He.ga K "check_number")) := He.glo_ok KX hG (c.1.fact 2)
  have bi_check_number := F_check_number.binds (ps := ["value", "least", "most"]) fun _ _ _ _ _ _ us hl => match us, hl with | [_, _, _], _ => rfl
  have K_check_number := k_check_number (P := P) (w := w) (K := K) (G := (⟨mg, tb.map fun p => tbA K (cdA K p)⟩ : GG)) (base := base) K_is_number F_check_number g_check_number bi_check_number
  obtain ⟨fd_is_lay, F_is_lay⟩ := c.dft (x := "is_lay") (st := top 10) 3 rfl (by decide)
  have g_is_lay : mg "is_lay" = some (.ref (He.ga K "is_lay")) := He.glo_ok KX hG (c.1.fact 3)
  have bi_is_lay := F_is_lay.binds (ps := ["value", "many"]) fun _ _ _ _ _ _ us hl => match us, hl with | [_, _], _ => rfl
  have K_is_lay := k_is_lay (P := P) (w := w) (K := K) (G := (⟨mg, tb.map fun p => tbA K (cdA K p)⟩ : GG)) (base := base) m_all K_is_number K_is_tuple (hT ("is_lay", none) (by decide)) (List.mem_map.mpr ⟨("is_lay", none), by decide, rfl⟩) F_is_lay g_is_lay bi_is_lay
  obtain ⟨fd_is_lays, F_is_lays⟩ := c.dft (x := "is_lays") (st := top 11) 4 rfl (by decide)
  have g_is_lays : mg "is_lays" = some (.ref (He.ga K "is_lays")) := He.glo_ok KX hG (c.1.fact 4)
  have bi_is_lays := F_is_lays.binds (ps := ["value", "many"]) fun _ _ _ _ _ _ us hl => match us, hl with | [_, _], _ => rfl
  have K_is_lays := k_is_lays (P := P) (w := w) (K := K) (G := (⟨mg, tb.map fun p => tbA K (cdA K p)⟩ : GG)) (base := base) m_all c_MOST_LAYS K_is_lay K_is_tuple (hT ("is_lays", none) (by decide)) (List.mem_map.mpr ⟨("is_lays", none), by decide, rfl⟩) F_is_lays g_is_lays bi_is_lays
  obtain ⟨fd_check_lays, cd_check_lays, F_check_lays⟩ := c.df (x := "check_lays") (st := top 12) 5 rfl
  have g_check_lays : mg "check_lays" = some (.ref (He.ga K "check_lays")) := He.glo_ok KX hG (c.1.fact 5)
  have bi_check_lays := F_check_lays.binds (ps := ["lays", "many"]) fun _ _ _ _ _ _ us hl => match us, hl with | [_, _], _ => rfl
  have K_check_lays := k_check_lays (P := P) (w := w) (K := K) (G := (⟨mg, tb.map fun p => tbA K (cdA K p)⟩ : GG)) (base := base) m_enumerate c_MOST_LAYS K_is_lay K_is_tuple F_check_lays g_check_lays bi_check_lays
  obtain ⟨fd_choices, cd_choices, F_choices⟩ := c.df (x := "choices") (st := top 13) 6 rfl
  have g_choices : mg "choices" = some (.ref (He.ga K "choices")) := He.glo_ok KX hG (c.1.fact 6)
  have bi_choices := F_choices.binds (ps := ["lots"]) fun _ _ _ _ _ _ us hl => match us, hl with | [_], _ => rfl
  have K_choices := k_choices (P := P) (w := w) (K := K) (G := (⟨mg, tb.map fun p => tbA K (cdA K p)⟩ : GG)) (base := base) F_choices g_choices bi_choices
  obtain ⟨fd_fewest_lays, cd_fewest_lays, F_fewest_lays⟩ := c.df (x := "fewest_lays") (st := top 17) 8 rfl
  have g_fewest_lays : mg "fewest_lays" = some (.ref (He.ga K "fewest_lays")) := He.glo_ok KX hG (c.1.fact 8)
  have bi_fewest_lays := F_fewest_lays.binds (ps := ["many"]) fun _ _ _ _ _ _ us hl => match us, hl with | [_], _ => rfl
  have K_fewest_lays := k_fewest_lays (P := P) (w := w) (K := K) (G := (⟨mg, tb.map fun p => tbA K (cdA K p)⟩ : GG)) (base := base) m_len D_FEWEST_LAYS K_check_number F_fewest_lays g_fewest_lays bi_fewest_lays
  obtain ⟨fd_check_fixed, cd_check_fixed, F_check_fixed⟩ := c.df (x := "check_fixed") (st := top 19) 10 rfl
  have g_check_fixed : mg "check_fixed" = some (.ref (He.ga K "check_fixed")) := He.glo_ok KX hG (c.1.fact 10)
  have bi_check_fixed := F_check_fixed.binds (ps := ["many", "lays"]) fun _ _ _ _ _ _ us hl => match us, hl with | [_, _], _ => rfl
  have K_check_fixed := k_check_fixed (P := P) (w := w) (K := K) (G := (⟨mg, tb.map fun p => tbA K (cdA K p)⟩ : GG)) (base := base) c_MOST_PEOPLE K_check_lays K_check_number F_check_fixed g_check_fixed bi_check_fixed
  obtain ⟨fd_all_heaps, cd_all_heaps, F_all_heaps⟩ := c.df (x := "all_heaps") (st := top 20) 11 rfl
  have g_all_heaps : mg "all_heaps" = some (.ref (He.ga K "all_heaps")) := He.glo_ok KX hG (c.1.fact 11)
  have bi_all_heaps := F_all_heaps.binds (ps := ["many"]) fun _ _ _ _ _ _ us hl => match us, hl with | [_], _ => rfl
  have K_all_heaps := k_all_heaps (P := P) (w := w) (K := K) (G := (⟨mg, tb.map fun p => tbA K (cdA K p)⟩ : GG)) (base := base) K_choices F_all_heaps g_all_heaps bi_all_heaps
  obtain ⟨fd_brought, cd_brought, F_brought⟩ := c.df (x := "brought") (st := top 21) 12 rfl
  have g_brought : mg "brought" = some (.ref (He.ga K "brought")) := He.glo_ok KX hG (c.1.fact 12)
  have bi_brought := F_brought.binds (ps := ["heaps", "lays"]) fun _ _ _ _ _ _ us hl => match us, hl with | [_, _], _ => rfl
  have K_brought := k_brought (P := P) (w := w) (K := K) (G := (⟨mg, tb.map fun p => tbA K (cdA K p)⟩ : GG)) (base := base) m_list m_max m_min m_tuple F_brought g_brought bi_brought
  obtain ⟨fd_not_brought, cd_not_brought, F_not_brought⟩ := c.df (x := "not_brought") (st := top 22) 13 rfl
  have g_not_brought : mg "not_brought" = some (.ref (He.ga K "not_brought")) := He.glo_ok KX hG (c.1.fact 13)
  have bi_not_brought := F_not_brought.binds (ps := ["many", "lays"]) fun _ _ _ _ _ _ us hl => match us, hl with | [_, _], _ => rfl
  have K_not_brought := k_not_brought (P := P) (w := w) (K := K) (G := (⟨mg, tb.map fun p => tbA K (cdA K p)⟩ : GG)) (base := base) m_sorted m_tuple K_all_heaps K_brought F_not_brought g_not_brought bi_not_brought
  obtain ⟨fd__law_taken, cd__law_taken, F__law_taken⟩ := c.df (x := "_law_taken") (st := top 24) 14 rfl
  have g__law_taken : mg "_law_taken" = some (.ref (He.ga K "_law_taken")) := He.glo_ok KX hG (c.1.fact 14)
  have bi__law_taken := F__law_taken.binds (ps := ["row", "many"]) fun _ _ _ _ _ _ us hl => match us, hl with | [_, _], _ => rfl
  have K__law_taken := k__law_taken (P := P) (w := w) (K := K) (G := (⟨mg, tb.map fun p => tbA K (cdA K p)⟩ : GG)) (base := base) m_int m_len F__law_taken g__law_taken bi__law_taken
  obtain ⟨fd__law_pick, cd__law_pick, F__law_pick⟩ := c.df (x := "_law_pick") (st := top 25) 15 rfl
  have g__law_pick : mg "_law_pick" = some (.ref (He.ga K "_law_pick")) := He.glo_ok KX hG (c.1.fact 15)
  have bi__law_pick := F__law_pick.binds (ps := ["row", "things"]) fun _ _ _ _ _ _ us hl => match us, hl with | [_, _], _ => rfl
  have K__law_pick := k__law_pick (P := P) (w := w) (K := K) (G := (⟨mg, tb.map fun p => tbA K (cdA K p)⟩ : GG)) (base := base) m_len K__law_taken F__law_pick g__law_pick bi__law_pick
  obtain ⟨fd__law_order, cd__law_order, F__law_order⟩ := c.df (x := "_law_order") (st := top 26) 16 rfl
  have g__law_order : mg "_law_order" = some (.ref (He.ga K "_law_order")) := He.glo_ok KX hG (c.1.fact 16)
  have bi__law_order := F__law_order.binds (ps := ["row", "many"]) fun _ _ _ _ _ _ us hl => match us, hl with | [_, _], _ => rfl
  have K__law_order := k__law_order (P := P) (w := w) (K := K) (G := (⟨mg, tb.map fun p => tbA K (cdA K p)⟩ : GG)) (base := base) m_len m_list m_range m_tuple K__law_taken F__law_order g__law_order bi__law_order
  obtain ⟨fd__law_carried, cd__law_carried, F__law_carried⟩ := c.df (x := "_law_carried") (st := top 27) 17 rfl
  have g__law_carried : mg "_law_carried" = some (.ref (He.ga K "_law_carried")) := He.glo_ok KX hG (c.1.fact 17)
  have bi__law_carried := F__law_carried.binds (ps := ["column", "lays"]) fun _ _ _ _ _ _ us hl => match us, hl with | [_, _], _ => rfl
  have K__law_carried := k__law_carried (P := P) (w := w) (K := K) (G := (⟨mg, tb.map fun p => tbA K (cdA K p)⟩ : GG)) (base := base) m_list m_max m_min m_tuple F__law_carried g__law_carried bi__law_carried
  obtain ⟨fd__law_columns, cd__law_columns, F__law_columns⟩ := c.df (x := "_law_columns") (st := top 28) 18 rfl
  have g__law_columns : mg "_law_columns" = some (.ref (He.ga K "_law_columns")) := He.glo_ok KX hG (c.1.fact 18)
  have bi__law_columns := F__law_columns.binds (ps := ["many"]) fun _ _ _ _ _ _ us hl => match us, hl with | [_], _ => rfl
  have K__law_columns := k__law_columns (P := P) (w := w) (K := K) (G := (⟨mg, tb.map fun p => tbA K (cdA K p)⟩ : GG)) (base := base) m_range F__law_columns g__law_columns bi__law_columns
  obtain ⟨fd__law_alike, cd__law_alike, F__law_alike⟩ := c.df (x := "_law_alike") (st := top 29) 19 rfl
  have g__law_alike : mg "_law_alike" = some (.ref (He.ga K "_law_alike")) := He.glo_ok KX hG (c.1.fact 19)
  have bi__law_alike := F__law_alike.binds (ps := ["found", "due"]) fun _ _ _ _ _ _ us hl => match us, hl with | [_, _], _ => rfl
  have K__law_alike := k__law_alike (P := P) (w := w) (K := K) (G := (⟨mg, tb.map fun p => tbA K (cdA K p)⟩ : GG)) (base := base) m_bool m_int m_isinstance m_len m_list m_range m_str m_tuple F__law_alike g__law_alike bi__law_alike 4
  obtain ⟨fd_brings_all, cd_brings_all, F_brings_all⟩ := c.df (x := "brings_all") (st := top 16) 7 rfl
  have g_brings_all : mg "brings_all" = some (.ref (He.ga K "brings_all")) := He.glo_ok KX hG (c.1.fact 7)
  have bi_brings_all := F_brings_all.binds (ps := ["many", "lays"]) fun _ _ _ _ _ _ us hl => match us, hl with | [_, _], _ => rfl
  have K_brings_all := k_brings_all (P := P) (w := w) (K := K) (G := (⟨mg, tb.map fun p => tbA K (cdA K p)⟩ : GG)) (base := base) K_check_fixed K_not_brought F_brings_all g_brings_all bi_brings_all
  obtain ⟨fd_shows_fixed, cd_shows_fixed, F_shows_fixed⟩ := c.df (x := "shows_fixed") (st := top 18) 9 rfl
  have g_shows_fixed : mg "shows_fixed" = some (.ref (He.ga K "shows_fixed")) := He.glo_ok KX hG (c.1.fact 9)
  have bi_shows_fixed := F_shows_fixed.binds (ps := ["many", "value"]) fun _ _ _ _ _ _ us hl => match us, hl with | [_, _], _ => rfl
  have K_shows_fixed := k_shows_fixed (P := P) (w := w) (K := K) (G := (⟨mg, tb.map fun p => tbA K (cdA K p)⟩ : GG)) (base := base) m_len D_FEWEST_LAYS K_check_number K_is_lays K_not_brought F_shows_fixed g_shows_fixed bi_shows_fixed
  exact F_law.ok (k := 14) sc_law rfl (by decide) (fun A outer s H E hr => b_law (P := P) (w := w) (K := K) (G := (⟨mg, tb.map fun p => tbA K (cdA K p)⟩ : GG)) (base := base) m_bool m_isinstance m_len m_list m_max m_range m_sorted m_tuple K__law_alike K__law_carried K__law_columns K__law_order K__law_pick K__law_taken K_brings_all K_fewest_lays K_shows_fixed hr) (law_run math)
end Pr
end

section
set_option Elab.async false
set_option linter.all false
set_option maxRecDepth 100000
set_option maxHeartbeats 0
namespace Pr
open PySem PySem.Spec PyProof.Rows L2 Zz
abbrev R : PySem.W.OpenRow := PySem.W.OpenLaw.row PySem.Challenge.rw_laytogether_k17_whole_shortest_fixed_lay
abbrev hk : PySem.W.Hook := hookC 4 fa fn tb cs
def ob (s : PySem.W.SharedT) : AlT := obsC 4 fa fn tb cs (HandSHeadRun.getT s)
theorem ob_eq (s : PySem.W.SharedT) : ob s = hk.obs s.abs := obsC_eq (HandSHeadRun.getT_eq s)
def loose : List Str := (["LayError", "BadLays", "BadNumber", "MOST_PEOPLE", "MOST_LAYS", "FEWEST_LAYS"] : List Str) ++ ((defs.take 20).map (·.1))
theorem run (w : World) : HandSHeadRun.RunEq R (PySem.W.view R.prog [30]) hk ob 4000 loose w := by
  intro os
  kernel_rfl
end Pr
open PySem PySem.W PySem.Calls PyProof.Rows
theorem Pr.holds_of (math : Pr.Math) : PySem.Challenge.rw_laytogether_k17_whole_shortest_fixed_lay.Holds := by
  w_on; o_law
  refine HandSHeadRun.head_any (r := Pr.R) (q := view Pr.R.prog [30]) (H := Pr.hk) (ob := Pr.ob) (M := 4000) (loose := Pr.loose) (d := HandSHeadRun.topDef Pr.R.prog 30) (kwd := []) Pr.ob_eq
    (by kernel_rfl) (fun s => by kernel_rfl) Pr.run (by kernel_rfl) (by kernel_rfl) (by kernel_rfl) (by rfl) (by first | assumption | decide +kernel) (by decide +kernel) ⟨rfl, rfl, rfl, rfl, rfl, by decide +kernel⟩ ?hw ?hc
  case hw => w_witness2
  case hc =>
    refine LamX.walk_ofTsE (l := PySem.Challenge.rw_laytogether_k17_whole_shortest_fixed_lay) (n := 63) (k := 15) (x := "script") (CX := fun _ => L2.CX0) rfl (by decide) (by kernel_rfl) ⟨rfl, by decide, by decide⟩ ?F (fun _ _ _ _ _ z => z)
    intro w mg fa h Y G hmg0
    obtain ⟨K, KX, c0⟩ := Y
    have c := c0.1
    have hmg : mg ("law" : PySem.Str) = some (.ref fa) := by
      have e : (HandSHeadRun.topDef Pr.R.prog 30).name = ("law" : PySem.Str) := by kernel_rfl
      rw [← e]
      exact hmg0
    have hl : mg ("law" : PySem.Str) = some (.ref (He.ga K "law")) := He.glo_ok KX G (c.1.fact 20)
    have ef : fa = He.ga K "law" := by
      have := hmg.symm.trans hl
      cases this
      rfl
    subst ef
    obtain ⟨fd, cd, F⟩ := c.df (x := "law") (st := Pr.top 30) 20 rfl
    refine ⟨K, KX, Zz.law_at KX c (fun s u => F.bindsA (ps := ["script"]) (fun _ _ _ _ _ _ us hl => match us, hl with | [_], _ => rfl) s [u] rfl) fun base hK hN hT => Pr.all_fn math KX G c0 hT F⟩
end
theorem PySem.Challenge.cw_laytogether_k17_whole_shortest_fixed_lay_holds : PySem.Challenge.rw_laytogether_k17_whole_shortest_fixed_lay.Holds := by
  exact Pr.holds_of Pr.math
