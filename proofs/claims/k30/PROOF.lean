import PyProof.Rows.All
import Wide.All
import OpenK.AllK
import Wide.FinOn
import HandS.ForSpec
import HandS.Comp
import HandS.Walk
import HandS.IsInst
import HandS.Wide
import HandS.WideMore
import HandS.More
import HandS.Flow
import HandS.RevTup
import HandS.TupMul
import HandS.ExcIs
import HandS.Text
import PyProof.Rows.SeqMore
import PyProof.NeKinds
import HandS.Gcd
import HandS.WideBits
import KE.DataMinMax
import KE.SortData
import HandS.RaiseMore
import KE.KRevSl
import PyProof.Rows.StrIntSpec
import HandS.FStr
import KE.GoesEnum
import HandS.Words
import HandS.Ends
import PyProof.StrLawsRepr
import PyProof.FitsReplace
import HandS.Codes
import HandS.List
import PySem.Challenge.RW_runswap_k30_rows_of_great_sums
set_option Elab.async false
set_option linter.all false
set_option maxRecDepth 100000
set_option maxHeartbeats 200000
namespace Vl
open PySem PySem.Spec PyProof.Rows L2

/-- an exception of the class at C, held as a value -/
def ExcH (C a : Addr) : HO := .ext fun h => ∃ (oe : Obj) (vs : Array Value), h.get? a = some oe ∧ Zc (.ref C) none oe ∧ oe.data = .fields vs
/-! data read off frozen cells; an exception of a class of the module stands as a dict of one entry -/
inductive Rp (K : PySem.W.Frag) (F : Hp) : V → PyData → Prop
  | non : Rp K F .non .none
  | bl (b : Bool) : Rp K F (.bl b) (.bool b)
  | int (i : Int) : Rp K F (.int i) (.int i)
  | str (x : Str) : Rp K F (.str x) (.str x)
  | lst {a : Addr} {xs : List V} {ds : List PyData} (h : SqL K F a xs) (n : xs.length = ds.length)
      (e : ∀ (i : Nat) (v : V) (d : PyData), xs[i]? = some v → ds[i]? = some d → Rp K F v d) : Rp K F (.ref a) (.list ds)
  | tup {a : Addr} {xs : List V} {ds : List PyData} (h : SqT K F a xs) (n : xs.length = ds.length)
      (e : ∀ (i : Nat) (v : V) (d : PyData), xs[i]? = some v → ds[i]? = some d → Rp K F v d) : Rp K F (.ref a) (.tuple ds)
  | dic {a : Addr} (h : F a = some (.dK [])) : Rp K F (.ref a) (.dict [])
  | exc {a C : Addr} {c : Str} (h : F a = some (ExcH C a)) (hc : PySem.W.nsIn K mainGlobals c = some (some (.ref C))) : Rp K F (.ref a) (.dict [(.str c, .none)])

/-- item by item -/
structure RpA (K : PySem.W.Frag) (F : Hp) (xs : List V) (ds : List PyData) : Prop where
  n : xs.length = ds.length
  e : ∀ (i : Nat) (v : V) (d : PyData), xs[i]? = some v → ds[i]? = some d → Rp K F v d

abbrev Sub (F G : Hp) : Prop := ∀ a o, F a = some o → G a = some o
theorem sqL_sub {K : PySem.W.Frag} {F G : Hp} (s : Sub F G) {a : Addr} {xs : List V} (h : SqL K F a xs) : SqL K G a xs := by
  rcases h with (h | ⟨o, h⟩) | h
  · exact .inl (.inl (s _ _ h))
  · exact .inl (.inr ⟨o, s _ _ h⟩)
  · exact .inr h
theorem sqT_sub {K : PySem.W.Frag} {F G : Hp} (s : Sub F G) {a : Addr} {xs : List V} (h : SqT K F a xs) : SqT K G a xs := by
  rcases h with (h | ⟨o, h⟩) | h
  · exact .inl (.inl (s _ _ h))
  · exact .inl (.inr ⟨o, s _ _ h⟩)
  · exact .inr h
theorem Rp.sub {K : PySem.W.Frag} {F G : Hp} (s : Sub F G) {v : V} {d : PyData} (h : Rp K F v d) : Rp K G v d := by
  induction h with
  | non => exact .non
  | bl b => exact .bl b
  | int i => exact .int i
  | str x => exact .str x
  | lst h n e ih => exact .lst (sqL_sub s h) n ih
  | tup h n e ih => exact .tup (sqT_sub s h) n ih
  | dic h => exact .dic (s _ _ h)
  | exc h hc => exact .exc (s _ _ h) hc
theorem RpA.sub {K : PySem.W.Frag} {F G : Hp} (s : Sub F G) {xs : List V} {ds : List PyData} (h : RpA K F xs ds) : RpA K G xs ds :=
  ⟨h.n, fun i v d a b => (h.e i v d a b).sub s⟩

section
variable {K : PySem.W.Frag} {F G : Hp} {xs ys : List V} {ds es : List PyData} {v : V} {d : PyData}
theorem RpA.nil : RpA K F [] [] := ⟨rfl, fun i v d h _ => by simp at h⟩
theorem RpA.cons (h : Rp K F v d) (t : RpA K F xs ds) : RpA K F (v :: xs) (d :: ds) := by
  refine ⟨by simp [t.n], fun i w e h1 h2 => ?_⟩
  cases i with
  | zero => simp at h1 h2; subst h1; subst h2; exact h
  | succ i => exact t.e i w e (by simpa using h1) (by simpa using h2)
theorem RpA.head (h : RpA K F (v :: xs) (d :: ds)) : Rp K F v d := h.e 0 v d rfl rfl
theorem RpA.tail (h : RpA K F (v :: xs) (d :: ds)) : RpA K F xs ds :=
  ⟨by have := h.n; simpa using this, fun i w e h1 h2 => h.e (i + 1) w e (by simpa using h1) (by simpa using h2)⟩
theorem RpA.ind {motive : List V → List PyData → Prop} (h0 : motive [] []) (h1 : ∀ v d xs ds, Rp K F v d → RpA K F xs ds → motive xs ds → motive (v :: xs) (d :: ds)) :
    ∀ {xs : List V} {ds : List PyData}, RpA K F xs ds → motive xs ds
  | [], [], _ => h0
  | [], _ :: _, h => by have := h.n; simp at this
  | _ :: _, [], h => by have := h.n; simp at this
  | v :: xs, d :: ds, h => h1 v d xs ds h.head h.tail (RpA.ind h0 h1 h.tail)
theorem RpA.append (h : RpA K F xs ds) (t : RpA K F ys es) : RpA K F (xs ++ ys) (ds ++ es) := by
  refine ⟨by simp [h.n, t.n], fun i w e h1 h2 => ?_⟩
  have hn := h.n
  by_cases hi : i < xs.length
  · rw [List.getElem?_append_left hi] at h1
    rw [List.getElem?_append_left (by omega)] at h2
    exact h.e i w e h1 h2
  · rw [List.getElem?_append_right (by omega)] at h1
    rw [List.getElem?_append_right (by omega)] at h2
    rw [hn] at h1
    exact t.e _ w e h1 h2
theorem RpA.take (h : RpA K F xs ds) (k : Nat) : RpA K F (xs.take k) (ds.take k) := by
  refine ⟨by simp [h.n], fun i w e h1 h2 => ?_⟩
  rw [List.getElem?_take] at h1 h2
  split at h1
  · rename_i hk
    rw [if_pos hk] at h2
    exact h.e i w e h1 h2
  · cases h1
theorem RpA.drop (h : RpA K F xs ds) (k : Nat) : RpA K F (xs.drop k) (ds.drop k) := by
  refine ⟨by simp [h.n], fun i w e h1 h2 => ?_⟩
  rw [List.getElem?_drop] at h1 h2
  exact h.e _ w e h1 h2
theorem RpA.set (h : RpA K F xs ds) (r : Rp K F v d) (k : Nat) : RpA K F (xs.set k v) (ds.set k d) := by
  have hn := h.n
  refine ⟨by simp [h.n], fun i w e h1 h2 => ?_⟩
  by_cases hi : k = i
  · subst hi
    by_cases hk : k < xs.length
    · rw [List.getElem?_set_self hk] at h1
      rw [List.getElem?_set_self (by omega)] at h2
      cases h1; cases h2; exact r
    · rw [List.getElem?_eq_none (by simp; omega)] at h1; cases h1
  · rw [List.getElem?_set_ne hi] at h1 h2
    exact h.e i w e h1 h2
theorem RpA.eraseIdx (h : RpA K F xs ds) (k : Nat) : RpA K F (xs.eraseIdx k) (ds.eraseIdx k) := by
  have hn := h.n
  refine ⟨by simp [List.length_eraseIdx, hn], fun i w e h1 h2 => ?_⟩
  rw [List.getElem?_eraseIdx] at h1 h2
  split at h1
  · rename_i hk; rw [if_pos hk] at h2; exact h.e i w e h1 h2
  · rename_i hk; rw [if_neg hk] at h2; exact h.e _ w e h1 h2
theorem RpA.reverse (h : RpA K F xs ds) : RpA K F xs.reverse ds.reverse := by
  have hn := h.n
  refine ⟨by simp [hn], fun i w e h1 h2 => ?_⟩
  by_cases hi : i < xs.length
  · rw [List.getElem?_reverse hi] at h1
    rw [List.getElem?_reverse (by omega)] at h2
    rw [hn] at h1
    exact h.e _ w e h1 h2
  · rw [List.getElem?_eq_none (by simp; omega)] at h1; cases h1
theorem RpA.rep (h : RpA K F xs ds) : ∀ k : Nat, RpA K F (List.replicate k xs).flatten (List.replicate k ds).flatten
  | 0 => .nil
  | k + 1 => by
    rw [List.replicate_succ, List.replicate_succ, List.flatten_cons, List.flatten_cons]
    exact h.append (h.rep k)
theorem RpA.get (h : RpA K F xs ds) {i : Nat} (hd : ds[i]? = some d) : ∃ v, xs[i]? = some v ∧ Rp K F v d := by
  have hn := h.n
  have hi : i < ds.length := by
    rcases Nat.lt_or_ge i ds.length with q | q
    · exact q
    · rw [List.getElem?_eq_none q] at hd; cases hd
  have hx : i < xs.length := by omega
  exact ⟨xs[i], List.getElem?_eq_getElem hx, h.e i _ d (List.getElem?_eq_getElem hx) hd⟩
theorem RpA.getV (h : RpA K F xs ds) {i : Nat} (hv : xs[i]? = some v) : ∃ d, ds[i]? = some d ∧ Rp K F v d := by
  have hn := h.n
  have hi : i < xs.length := by
    rcases Nat.lt_or_ge i xs.length with q | q
    · exact q
    · rw [List.getElem?_eq_none q] at hv; cases hv
  have hx : i < ds.length := by omega
  exact ⟨ds[i], List.getElem?_eq_getElem hx, h.e i v _ hv (List.getElem?_eq_getElem hx)⟩
theorem RpA.ints : ∀ {ns : List Int} {xs : List V}, RpA K F xs (ns.map .int) → xs = ns.map V.int
  | [], xs, h => by have := h.n; simp at this; simp [this]
  | n :: ns, [], h => by have := h.n; simp at this
  | n :: ns, v :: xs, h => by
    have h1 : Rp K F v (.int n) := RpA.head h
    have h2 : xs = ns.map V.int := RpA.ints (RpA.tail h)
    cases h1
    rw [h2]; rfl
theorem RpA.strs : ∀ {ns : List Str} {xs : List V}, RpA K F xs (ns.map .str) → xs = ns.map V.str
  | [], xs, h => by have := h.n; simp at this; simp [this]
  | n :: ns, [], h => by have := h.n; simp at this
  | n :: ns, v :: xs, h => by
    have h1 : Rp K F v (.str n) := RpA.head h
    have h2 : xs = ns.map V.str := RpA.strs (RpA.tail h)
    cases h1
    rw [h2]; rfl
theorem Rp.lst' {a : Addr} (h : SqL K F a xs) (r : RpA K F xs ds) : Rp K F (.ref a) (.list ds) := .lst h r.n r.e
theorem Rp.tup' {a : Addr} (h : SqT K F a xs) (r : RpA K F xs ds) : Rp K F (.ref a) (.tuple ds) := .tup h r.n r.e
end

/-! the library's own readings -/
mutual
theorem Rp.dp {K : PySem.W.Frag} {F : Hp} : ∀ (d : PyData) (v : V), d.canLay0 = true → Rp K F v d → Dp K F v d
  | .none, _, _, h => by cases h; exact .non
  | .bool b, _, _, h => by cases h; exact .bl b
  | .int i, _, _, h => by cases h; exact .int i
  | .str x, _, _, h => by cases h; exact .str x
  | .list ds, _, c, h => by
    cases h with
    | lst hs n e => exact .lst hs (RpA.dp ds _ (by simpa [PyData.canLay0] using c) ⟨n, e⟩)
  | .tuple ds, _, c, h => by
    cases h with
    | tup hs n e => exact .tup hs (RpA.dp ds _ (by simpa [PyData.canLay0] using c) ⟨n, e⟩)
  | .dict kvs, _, c, h => by simp [PyData.canLay0] at c
theorem RpA.dp {K : PySem.W.Frag} {F : Hp} : ∀ (ds : List PyData) (xs : List V), PyData.canLayAll0 ds = true → RpA K F xs ds → DpAll K F xs ds
  | [], xs, _, h => by
    have := h.n
    cases xs with
    | nil => exact .nil
    | cons _ _ => simp at this
  | d :: ds, xs, c, h => by
    cases xs with
    | nil => have := h.n; simp at this
    | cons v xs =>
      have c' : d.canLay0 = true ∧ PyData.canLayAll0 ds = true := by simpa [PyData.canLayAll0] using c
      exact .cons (Rp.dp d v c'.1 h.head) (RpA.dp ds xs c'.2 h.tail)
end
end Vl
set_option maxHeartbeats 200000
namespace Vl
open PySem PySem.Spec PyProof.Rows L2

/-! slots: forgotten, a frozen datum, an owned list of frozen items -/
inductive Sl where
  | un
  | fz (d : PyData)
  | ol (ds : List PyData)

def Sl.dat : Sl → Option PyData
  | .un => none
  | .fz d => some d
  | .ol ds => some (.list ds)
def own (sl : Sl) (v : V) (a : Addr) : Prop := match sl with
  | .ol _ => v = .ref a
  | _ => False
/-- a slot's content -/
def SlOk (K : PySem.W.Frag) (F H : Hp) (sl : Sl) (v : V) : Prop := match sl with
  | .un => True
  | .fz d => Rp K F v d
  | .ol ds => ∃ a xs, v = .ref a ∧ F a = none ∧ H a = some (.lst xs) ∧ RpA K F xs ds
abbrev Env' := List Sl
def Ow (env : Env') (σ : L2.St) (a : Addr) : Prop := ∃ (i : Nat) (sl : Sl) (v : V), env[i]? = some sl ∧ σ[i]? = some (some v) ∧ own sl v a

structure EnvOk (K : PySem.W.Frag) (F H : Hp) (env : Env') (σ : L2.St) : Prop where
  sub : Sub F H
  len : env.length = σ.length
  ok : ∀ (i : Nat) (sl : Sl), env[i]? = some sl → sl ≠ .un → ∃ v, σ[i]? = some (some v) ∧ SlOk K F H sl v
  inj : ∀ (i j : Nat) (sl tl : Sl) (v w : V) (a : Addr), env[i]? = some sl → env[j]? = some tl → σ[i]? = some (some v) → σ[j]? = some (some w) → own sl v a → own tl w a → i = j

/-- from one heap to a later one; O: what may be changed, O': what is owned behind it -/
structure Step (F H : Hp) (O : Addr → Prop) (F' H' : Hp) (O' : Addr → Prop) : Prop where
  fz : Sub F F'
  keep : ∀ a o, H a = some o → ¬ O a → H' a = some o
  new : ∀ a, F' a ≠ none → F a ≠ none ∨ H a = none ∨ O a
  own : ∀ a, O' a → O a ∨ H a = none

theorem Step.refl (F H : Hp) (O : Addr → Prop) : Step F H O F H O := ⟨fun _ _ h => h, fun _ _ h _ => h, fun _ h => .inl h, fun _ h => .inl h⟩
theorem Step.trans {F H F1 H1 F2 H2 : Hp} {O O1 O2 : Addr → Prop} (s : Step F H O F1 H1 O1) (t : Step F1 H1 O1 F2 H2 O2) : Step F H O F2 H2 O2 := by
  have up : ∀ a, H1 a = none → O a ∨ H a = none := fun a h => by
    by_cases ho : O a
    · exact .inl ho
    · cases e : H a with
      | none => exact .inr rfl
      | some o => rw [s.keep a o e ho] at h; cases h
  refine ⟨fun a o h => t.fz _ _ (s.fz _ _ h), fun a o h n => t.keep a o (s.keep a o h n) fun z => ?_, fun a h => ?_, fun a h => ?_⟩
  · rcases s.own a z with z | z
    · exact n z
    · rw [h] at z; cases z
  · rcases t.new a h with h | h | h
    · exact s.new a h
    · rcases up a h with h | h
      · exact .inr (.inr h)
      · exact .inr (.inl h)
    · rcases s.own a h with h | h
      · exact .inr (.inr h)
      · exact .inr (.inl h)
  · rcases t.own a h with h | h
    · exact s.own a h
    · exact up a h
theorem Step.weak {F H F1 H1 : Hp} {O O1 O2 : Addr → Prop} (s : Step F H O F1 H1 O1) (h : ∀ a, O2 a → O1 a) : Step F H O F1 H1 O2 := ⟨s.fz, s.keep, s.new, fun a q => s.own a (h a q)⟩

section
variable {K : PySem.W.Frag} {F H F' H' : Hp} {env env' : Env'} {σ : L2.St} {sl : Sl} {v : V}
theorem EnvOk.owH (E : EnvOk K F H env σ) {a : Addr} (h : Ow env σ a) : F a = none ∧ ∃ xs, H a = some (.lst xs) := by
  obtain ⟨i, sl, v, e1, e2, o⟩ := h
  cases sl with
  | un => exact o.elim
  | fz d => exact o.elim
  | ol ds =>
    obtain ⟨w, e3, b, xs, ew, f, hh, _⟩ := E.ok i _ e1 (by simp)
    rw [e2] at e3; cases e3
    have o : v = .ref a := o
    rw [o] at ew; cases ew
    exact ⟨f, xs, hh⟩
theorem SlOk.sub (s : Sub F F') (h : SlOk K F H sl v) (kp : ∀ a, Vl.own sl v a → F' a = none ∧ H' a = H a) : SlOk K F' H' sl v := by
  cases sl with
  | un => trivial
  | fz d => exact Rp.sub s h
  | ol ds =>
    obtain ⟨a, xs, e, f, hh, r⟩ := h
    obtain ⟨k1, k2⟩ := kp a e
    exact ⟨a, xs, e, k1, k2.trans hh, r.sub s⟩
/-- what is held aside stays -/
theorem SlOk.stay (h : SlOk K F H sl v) {O O' : Addr → Prop} (st : Step F H O F' H' O') (no : ∀ a, Vl.own sl v a → ¬ O a) : SlOk K F' H' sl v := by
  cases sl with
  | un => trivial
  | fz d => exact Rp.sub st.fz h
  | ol ds =>
    obtain ⟨a, xs, e, f, hh, r⟩ := h
    have na := no a e
    refine ⟨a, xs, e, ?_, st.keep a _ hh na, r.sub st.fz⟩
    cases q : F' a with
    | none => rfl
    | some o =>
      rcases st.new a (by rw [q]; simp) with z | z | z
      · exact absurd f z
      · rw [hh] at z; cases z
      · exact absurd z na
theorem SlOk.there (h : SlOk K F H sl v) {a : Addr} (o : Vl.own sl v a) : F a = none ∧ ∃ xs, H a = some (.lst xs) := by
  cases sl with
  | un => exact o.elim
  | fz d => exact o.elim
  | ol ds =>
    obtain ⟨b, xs, e, f, hh, r⟩ := h
    have o : v = .ref a := o
    rw [o] at e; cases e
    exact ⟨f, xs, hh⟩
/-- not owned by the slots, behind a step too -/
theorem Step.notOw {O O' : Addr → Prop} (st : Step F H O F' H' O') {a : Addr} (n : ¬ O a) (h : H a ≠ none) : ¬ O' a := fun z => by
  rcases st.own a z with z | z
  · exact n z
  · exact h z

/-- something new that the slots don't hold -/
theorem EnvOk.lay (E : EnvOk K F H env σ) {p : Addr} {o : HO} (hp : H p = none) : EnvOk K F (upd H p o) env σ := by
  refine ⟨fun a u h => ?_, E.len, fun i sl e n => ?_, E.inj⟩
  · have := E.sub a u h
    rw [upd_ne (ne_of_none this hp)]; exact this
  · obtain ⟨v, e1, h⟩ := E.ok i sl e n
    refine ⟨v, e1, h.sub (fun _ _ z => z) fun a oa => ?_⟩
    obtain ⟨f, xs, hh⟩ := h.there oa
    exact ⟨f, by rw [upd_ne (ne_of_none hh hp)]⟩
theorem Step.lay (O : Addr → Prop) {p : Addr} {o : HO} (hp : H p = none) : Step F H O F (upd H p o) O :=
  ⟨fun _ _ h => h, fun a u h _ => by rw [upd_ne (ne_of_none h hp)]; exact h, fun _ h => .inl h, fun _ h => .inl h⟩
theorem EnvOk.layF (E : EnvOk K F H env σ) {p : Addr} {o : HO} (hp : H p = none) : EnvOk K (upd F p o) (upd H p o) env σ := by
  have fp : F p = none := by
    cases q : F p with
    | none => rfl
    | some u => rw [E.sub _ _ q] at hp; cases hp
  refine ⟨fun a u h => ?_, E.len, fun i sl e n => ?_, E.inj⟩
  · by_cases q : a = p
    · subst q; rw [upd_same] at h ⊢; exact h
    · rw [upd_ne q] at h ⊢; exact E.sub a u h
  · obtain ⟨v, e1, h⟩ := E.ok i sl e n
    refine ⟨v, e1, h.sub (fun a u z => by rw [upd_ne (ne_of_none z fp)]; exact z) fun a oa => ?_⟩
    obtain ⟨f, xs, hh⟩ := h.there oa
    have ne := ne_of_none hh hp
    exact ⟨by rw [upd_ne ne]; exact f, by rw [upd_ne ne]⟩
theorem EnvOk.noF (E : EnvOk K F H env σ) {p : Addr} (hp : H p = none) : F p = none := by
  cases q : F p with
  | none => rfl
  | some u => rw [E.sub _ _ q] at hp; cases hp
theorem Step.layF (E : EnvOk K F H env σ) (O : Addr → Prop) {p : Addr} {o : HO} (hp : H p = none) : Step F H O (upd F p o) (upd H p o) O := by
  have fp := E.noF hp
  refine ⟨fun a u z => by rw [upd_ne (ne_of_none z fp)]; exact z, fun a u h _ => by rw [upd_ne (ne_of_none h hp)]; exact h, fun a h => ?_, fun _ h => .inl h⟩
  by_cases q : a = p
  · subst q; exact .inr (.inl hp)
  · rw [upd_ne q] at h; exact .inl h
/-- a cell that no slot owns is frozen -/
theorem EnvOk.freeze (E : EnvOk K F H env σ) {p : Addr} {o : HO} (hp : H p = some o) (fp : F p = none) (no : ¬ Ow env σ p) : EnvOk K (upd F p o) H env σ := by
  refine ⟨fun a u h => ?_, E.len, fun i sl e n => ?_, E.inj⟩
  · by_cases q : a = p
    · subst q; rw [upd_same] at h; rw [hp]; exact h
    · rw [upd_ne q] at h; exact E.sub a u h
  · obtain ⟨v, e1, h⟩ := E.ok i sl e n
    refine ⟨v, e1, h.sub (fun a u z => by rw [upd_ne (ne_of_none z fp)]; exact z) fun a oa => ?_⟩
    have ne : a ≠ p := fun q => no (by subst q; exact ⟨i, sl, v, e, e1, oa⟩)
    exact ⟨by rw [upd_ne ne]; exact (h.there oa).1, rfl⟩
theorem sub_upd {p : Addr} {o : HO} (fp : F p = none) : Sub F (upd F p o) := fun a u z => by rw [upd_ne (ne_of_none z fp)]; exact z
end

/-- what an expression hands back: a datum, or a list of its own that no slot holds -/
structure Tmp (K : PySem.W.Frag) (F H : Hp) (O : Addr → Prop) (H₀ : Hp) (O₀ : Addr → Prop) (sl : Sl) (v : V) : Prop where
  ok : SlOk K F H sl v
  no : ∀ a, own sl v a → ¬ O a
  fr : ∀ a, own sl v a → O₀ a ∨ H₀ a = none
theorem Tmp.fz {K : PySem.W.Frag} {F H : Hp} {O : Addr → Prop} {H₀ : Hp} {O₀ : Addr → Prop} {d : PyData} {v : V} (h : Rp K F v d) : Tmp K F H O H₀ O₀ (.fz d) v := ⟨h, fun _ z => z.elim, fun _ z => z.elim⟩
/-- what is behind an expression -/
def Kt (K : PySem.W.Frag) (F H : Hp) (env : Env') (σ : L2.St) (env' : Env') (sl : Sl) (Q : VK) : Prop :=
  ∀ v F' H', EnvOk K F' H' env' σ → Step F H (Ow env σ) F' H' (Ow env' σ) → Tmp K F' H' (Ow env' σ) H (Ow env σ) sl v → Q v H'
theorem Tmp.up {K : PySem.W.Frag} {F H F1 H1 F2 H2 : Hp} {O O1 O2 : Addr → Prop} {sl : Sl} {v : V} (s : Step F H O F1 H1 O1) (t : Tmp K F2 H2 O2 H1 O1 sl v) : Tmp K F2 H2 O2 H O sl v := by
  refine ⟨t.ok, t.no, fun a o => ?_⟩
  rcases t.fr a o with h | h
  · exact s.own a h
  · by_cases ho : O a
    · exact .inl ho
    · cases e : H a with
      | none => exact .inr rfl
      | some u => rw [s.keep a u e ho] at h; cases h
theorem Kt.after {K : PySem.W.Frag} {F H F1 H1 : Hp} {env env1 env2 : Env'} {σ : L2.St} {sl : Sl} {Q : VK} (k : Kt K F H env σ env2 sl Q) (s : Step F H (Ow env σ) F1 H1 (Ow env1 σ)) : Kt K F1 H1 env1 σ env2 sl Q :=
  fun v F' H' e t m => k v F' H' e (s.trans t) (m.up s)
/-- a datum that is there -/
theorem Kt.dat {K : PySem.W.Frag} {F H : Hp} {env : Env'} {σ : L2.St} {d : PyData} {v : V} {Q : VK} (k : Kt K F H env σ env (.fz d) Q) (E : EnvOk K F H env σ) (r : Rp K F v d) : Q v H :=
  k v F H E (Step.refl _ _ _) (.fz r)
theorem Kt.newL {K : PySem.W.Frag} {F H : Hp} {env : Env'} {σ : L2.St} {ds : List PyData} {xs : List V} {Q : VK} (k : Kt K F H env σ env (.ol ds) Q) (E : EnvOk K F H env σ) (r : RpA K F xs ds) {p : Addr} (hp : H p = none) :
    Q (.ref p) (upd H p (.lst xs)) := by
  refine k _ F _ (E.lay hp) (Step.lay _ hp) ⟨⟨p, xs, rfl, E.noF hp, upd_same, r⟩, fun a h z => ?_, fun a h => ?_⟩
  · have h : V.ref p = V.ref a := h
    cases h
    obtain ⟨_, ys, e⟩ := E.owH z
    rw [hp] at e; cases e
  · have h : V.ref p = V.ref a := h
    cases h
    exact .inr hp
theorem Kt.newT {K : PySem.W.Frag} {F H : Hp} {env : Env'} {σ : L2.St} {ds : List PyData} {xs : List V} {Q : VK} (k : Kt K F H env σ env (.fz (.tuple ds)) Q) (E : EnvOk K F H env σ) (r : RpA K F xs ds) {p : Addr} (hp : H p = none) :
    Q (.ref p) (upd H p (.tup xs)) :=
  k _ (upd F p (.tup xs)) _ (E.layF hp) (Step.layF E _ hp) (.fz (.tup' (.inl (.inl upd_same)) (r.sub (sub_upd (E.noF hp)))))

/-- what may be read: a datum, or a list that is owned by someone -/
def Vw (K : PySem.W.Frag) (F H : Hp) (v : V) (d : PyData) : Prop := Rp K F v d ∨ ∃ a xs ds, v = .ref a ∧ d = .list ds ∧ H a = some (.lst xs) ∧ RpA K F xs ds
section
variable {K : PySem.W.Frag} {F H : Hp} {v : V}
theorem Vw.list (s : Sub F H) {ds : List PyData} (h : Vw K F H v (.list ds)) : ∃ a xs, v = .ref a ∧ SqL K H a xs ∧ RpA K F xs ds := by
  rcases h with h | ⟨a, xs, ds', rfl, e, hh, r⟩
  · cases h with
    | lst h n e => exact ⟨_, _, rfl, sqL_sub s h, n, e⟩
  · cases e
    exact ⟨a, xs, rfl, .inl (.inl hh), r⟩
theorem Vw.rp {d : PyData} (h : Vw K F H v d) (n : ∀ ds, d ≠ .list ds) : Rp K F v d := by
  rcases h with h | ⟨a, xs, ds', rfl, e, hh, r⟩
  · exact h
  · exact absurd e (n _)
theorem Vw.tup (s : Sub F H) {ds : List PyData} (h : Vw K F H v (.tuple ds)) : ∃ a xs, v = .ref a ∧ SqT K H a xs ∧ RpA K F xs ds := by
  have h' := h.rp (fun _ z => by cases z)
  cases h' with
  | tup h1 n e => exact ⟨_, _, rfl, sqT_sub s h1, n, e⟩
theorem Vw.int {i : Int} (h : Vw K F H v (.int i)) : v = .int i := by have h := h.rp (fun _ z => by cases z); cases h; rfl
theorem Vw.bl {i : Bool} (h : Vw K F H v (.bool i)) : v = .bl i := by have h := h.rp (fun _ z => by cases z); cases h; rfl
theorem Vw.str {i : Str} (h : Vw K F H v (.str i)) : v = .str i := by have h := h.rp (fun _ z => by cases z); cases h; rfl
theorem Vw.non (h : Vw K F H v .none) : v = .non := by have h := h.rp (fun _ z => by cases z); cases h; rfl
/-- as the library's data over the whole heap -/
theorem Vw.all (s : Sub F H) {d : PyData} (h : Vw K F H v d) : Rp K H v d := by
  rcases h with h | ⟨a, xs, ds', rfl, rfl, hh, r⟩
  · exact h.sub s
  · exact .lst' (.inl (.inl hh)) (r.sub s)
theorem Vw.of {sl : Sl} {d : PyData} (h : SlOk K F H sl v) (e : sl.dat = some d) : Vw K F H v d := by
  cases sl with
  | un => cases e
  | fz d' => cases e; exact .inl h
  | ol ds => cases e; obtain ⟨a, xs, e1, f, hh, r⟩ := h; exact .inr ⟨a, xs, ds, e1, rfl, hh, r⟩
end
end Vl
set_option maxHeartbeats 200000
namespace Vl
open PySem PySem.Spec PyProof.Rows L2

/-! results -/
inductive Res (α : Type) where
  | ok (a : α) | exc (c : Str) | no
def Res.bind {α β : Type} (r : Res α) (f : α → Res β) : Res β := match r with
  | .ok a => f a
  | .exc c => .exc c
  | .no => .no
def Res.of {α : Type} : Option α → Res α
  | some a => .ok a
  | none => .no
def OnR {α : Type} (r : Res α) (p : α → Prop) (x : Str → Prop) : Prop := match r with
  | .ok a => p a
  | .exc c => x c
  | .no => False
theorem OnR.bind {α β : Type} {r : Res α} {f : α → Res β} {p : β → Prop} {x : Str → Prop} (h : OnR (r.bind f) p x) : OnR r (fun a => OnR (f a) p x) x := by
  cases r with
  | ok a => exact h
  | exc c => exact h
  | no => exact h.elim
theorem OnR.mono {α : Type} {r : Res α} {p q : α → Prop} {x y : Str → Prop} (h : OnR r p x) (f : ∀ a, r = .ok a → p a → q a) (g : ∀ c, x c → y c) : OnR r q y := by
  cases r with
  | ok a => exact f a rfl h
  | exc c => exact g c h
  | no => exact h.elim
theorem OnR.of {α : Type} {o : Option α} {p : α → Prop} {x : Str → Prop} (h : OnR (Res.of o) p x) : ∃ a, o = some a ∧ p a := by
  cases o with
  | none => exact h.elim
  | some a => exact ⟨a, rfl, h⟩

/-! resolved code -/
inductive BO where | add | sub | mul | fdiv | mod | pow | shl | shr | band
  deriving DecidableEq
inductive CO where | lt | le | gt | ge | eq | ne | inn | nin
  deriving DecidableEq
/-- built-in functions of one value; of two -/
inductive B1 where | len | rep | sum | tuple | list | min | max | str | sorted | isqrt | int
  deriving DecidableEq
inductive B2 where | min | max
  deriving DecidableEq
inductive Tg where
  | loc (i : Nat) | tup (r : Tg) | nil | cons (a r : Tg)
  deriving DecidableEq
inductive CE where
  | int (i : Int) | bl (b : Bool) | non | str (s : Str)
  | loc (i : Nat) | gl (x : Str) (d : Sum Int Str)
  | neg (a : CE) | bin (o : BO) (a b : CE) | cmp (o : CO) (a b : CE) | chn (o o' : CO) (a b c : CE)
  | isn (neg : Bool) (a : CE) | isty (neg : Bool) (a : CE) (t : String)
  | nt (a : CE) | and (a b : CE) | or (a b : CE) | ite (t a b : CE)
  | ix (a i : CE) | sl (a lo hi : CE) | rev (a : CE) | nop
  | lst (as : CE) | tup (as : CE) | dic | nil | cons (a r : CE)
  | consO (a r : CE) | tru (a : CE)
  | isi (a : CE) (t : String) | b1 (f : B1) (a : CE) | b2 (f : B2) (a b : CE) | join (a b : CE)
  | call (k : Nat) (as : CE) | callk (k : Nat) (a b : CE)
  | lc (own : List Nat) (tg : Tg) (it c e : CE)
  | fbn (a : CE) | spl (a : CE) (z : Str) | sqr (a : CE) | isx (a : CE) (rs cs : List Str) | lmt (ix : Bool) (i : Nat) (b : CE)
  | rng1 (a : CE) | rng2 (a b : CE) | rng3 (a b c : CE) | enu (a : CE) | zp (a b : CE) | rvd (a : CE)

/-! what a def is worth -/
structure Fn where
  modes : List Bool
  run : List Sl → Res (Sl × List Sl)

/-! operands: what was reckoned, or a slot's list that is read when all is reckoned -/
inductive Arg where
  | tmp (sl : Sl) | slot (i : Nat)
def Arg.view (env : Env') : Arg → Option PyData
  | .tmp sl => sl.dat
  | .slot i => (env[i]?).bind Sl.dat

/-! operations on data -/
def line : Nat := 16777216
def fitL (ds : List PyData) : Option (List PyData) := if ds.length ≤ line then some ds else none
def wide (i : Int) : Bool := decide (i.natAbs < 2 ^ 64)
def addD : PyData → PyData → Option Sl
  | .int i, .int j => some (.fz (.int (i + j)))
  | .list a, .list b => (fitL (a ++ b)).map .ol
  | .tuple a, .tuple b => (fitL (a ++ b)).map fun z => .fz (.tuple z)
  | .str a, .str b => if a.length + b.length ≤ line then some (.fz (.str (a ++ b))) else none
  | _, _ => none
def mulD : PyData → PyData → Option Sl
  | .int i, .int j => if wide i || wide j || decide (i.natAbs.log2 + j.natAbs.log2 < 1000000) then some (.fz (.int (i * j))) else none
  | .list a, .int k => if -(2 ^ 63) ≤ k ∧ k < 2 ^ 63 ∧ a.length * k.toNat ≤ line then some (.ol (List.replicate k.toNat a).flatten) else none
  | .tuple a, .int k => if k = 1 then some (.fz (.tuple a)) else if a ≠ [] ∧ k ≤ 0 ∧ -(2 ^ 63) ≤ k then some (.fz (.tuple [])) else if a ≠ [] ∧ 2 ≤ k ∧ k ≤ 1000 ∧ a.length ≤ 1000 then some (.fz (.tuple (List.replicate k.toNat a).flatten)) else none
  | .str a, .int k => if 2 ≤ k ∧ k ≤ 100000 ∧ a.length = 1 then some (.fz (.str (Txt.mul a k))) else none
  | _, _ => none
def intD (c : Int → Int → Bool) (g : Int → Int → Int) : PyData → PyData → Option Sl
  | .int i, .int j => if c i j then some (.fz (.int (g i j))) else none
  | _, _ => none
def cDiv (_ j : Int) : Bool := decide (0 < j ∧ j.natAbs.log2 < 9000)
def cMod (_ j : Int) : Bool := decide (0 < j)
def cPow (i j : Int) : Bool := decide (0 ≤ j ∧ j ≤ 1000000 ∧ i.natAbs < 2 ^ 64)
def cPowW (i j : Int) : Bool := decide ((0 ≤ j ∧ j ≤ 1000000 ∧ i.natAbs < 2 ^ 64) ∨ (0 ≤ j ∧ j ≤ 4 ∧ i.natAbs.log2 < 20000))
def cShlW (i j : Int) : Bool := decide (0 ≤ j ∧ j ≤ 1000000 ∧ i.natAbs.log2 < 1000000)
def cShr (_ j : Int) : Bool := decide (0 ≤ j)
def opD : BO → PyData → PyData → Option Sl
  | .add => addD
  | .sub => intD (fun _ _ => true) (fun i j => i - j)
  | .mul => mulD
  | .fdiv => intD cDiv (fun i j => i / j)
  | .mod => intD cMod (fun i j => i % j)
  | .pow => intD cPowW (fun i j => i ^ j.toNat)
  | .shl => intD cShlW (fun i j => i * 2 ^ j.toNat)
  | .shr => intD cShr (fun i j => i / 2 ^ j.toNat)
  | .band => intD (fun _ _ => true) Builtin.bitAnd
def flatD : PyData → Bool
  | .none => true | .bool _ => true | .int _ => true | .str _ => true | _ => false
def seqD : PyData → Option (List PyData)
  | .list a => some a
  | .tuple a => some a
  | _ => none
/-- == as it is answered -/
def eqD (d e : PyData) : Option Bool :=
  if SeqAt.shaped d && SeqAt.shaped e then some (PyData.eqv d e) else
    match d, e with
    | .list a, .list b => if a.length ≠ b.length then some false else none
    | .tuple a, .tuple b => if a.isEmpty || b.isEmpty then some (a.isEmpty && b.isEmpty) else none
    | .str a, .str b => some (decide (a = b))
    | _, _ => none
def intsD : List PyData → Option (List Int)
  | [] => some []
  | .int i :: r => (intsD r).map (i :: ·)
  | _ :: _ => none
def strsD : List PyData → Option (List Str)
  | [] => some []
  | .str i :: r => (strsD r).map (i :: ·)
  | _ :: _ => none
def relD (c : Int → Int → Bool) : PyData → PyData → Option Bool
  | .int i, .int j => some (c i j)
  | _, _ => none
def ltD : PyData → PyData → Option Bool
  | .int i, .int j => some (decide (i < j))
  | .tuple a, .tuple b => (intsD a).bind fun x => (intsD b).map fun y => HT.lexLt x y
  | _, _ => none
def inD (d e : PyData) : Option Bool := (seqD e).bind fun xs => if flatD d && xs.all flatD then some (xs.any fun y => PyData.eqv y d) else none
def cmpD : CO → PyData → PyData → Option Bool
  | .lt => ltD
  | .le => relD fun i j => decide (i ≤ j)
  | .gt => relD fun i j => decide (j < i)
  | .ge => relD fun i j => decide (j ≤ i)
  | .eq => eqD
  | .ne => fun d e => (eqD d e).map (!·)
  | .inn => inD
  | .nin => fun d e => (inD d e).map (!·)
def truD : PyData → Option Bool
  | .none => some false
  | .bool b => some b
  | .int i => some (i != 0)
  | .str s => if s.length ≤ line then some ((s.length : Int) != 0) else none
  | .list a => some (!a.isEmpty)
  | .tuple a => some (!a.isEmpty)
  | .dict _ => none
def ixD (d : PyData) (i : PyData) : Option PyData := match i with
  | .int i => (seqD d).bind fun xs => atI xs i
  | _ => none
def cutD (xs : List PyData) (lo hi : Option Int) : List PyData := (xs.drop (HT.sIx xs.length 0 lo)).take (HT.sIx xs.length xs.length hi - HT.sIx xs.length 0 lo)
def slD (d : PyData) (lo hi : Option Int) : Option Sl := match d with
  | .list xs => some (.ol (cutD xs lo hi))
  | .tuple xs => some (.fz (.tuple (cutD xs lo hi)))
  | .str z => if z.length ≤ line then some (.fz (.str (L2.cutS z lo hi))) else none
  | _ => none
def minL : List Int → Option Int
  | [] => none
  | x :: r => some (r.foldl min x)
def maxL : List Int → Option Int
  | [] => none
  | x :: r => some (r.foldl max x)
/-- what repr is served for: no dict, or an empty one, alone or in a tuple of plain things -/
def repOk (d : PyData) : Bool := d.canLay0 || (match d with
  | .dict [] => true
  | .tuple xs => xs.all fun x => match x with
    | .dict [] => true
    | x => flatD x
  | _ => false)
def insI (x : Int) : List Int → List Int
  | [] => [x]
  | y :: r => if x ≤ y then x :: y :: r else y :: insI x r
/-- sorted -/
def srtI : List Int → List Int
  | [] => []
  | x :: r => insI x (srtI r)
def b1D : B1 → PyData → Option Sl
  | .len, .str s => if s.length ≤ line then some (.fz (.int s.length)) else none
  | .len, .list a => some (.fz (.int a.length))
  | .len, .tuple a => some (.fz (.int a.length))
  | .rep, d => if d.showable && repOk d && decide (d.depth ≤ 64) && decide (d.shown.length ≤ line) then some (.fz (.str d.shown)) else none
  | .sum, .list a => (intsD a).map fun ns => .fz (.int ns.sum)
  | .sum, .tuple a => (intsD a).map fun ns => .fz (.int ns.sum)
  | .sorted, .list a => (intsD a).bind fun ns => if ns.length < 64 then some (.ol ((srtI ns).map .int)) else none
  | .tuple, .list a => some (.fz (.tuple a))
  | .tuple, .tuple a => some (.fz (.tuple a))
  | .list, .list a => some (.ol a)
  | .list, .tuple a => some (.ol a)
  | .min, .list a => ((intsD a).bind minL).map fun n => .fz (.int n)
  | .min, .tuple a => ((intsD a).bind minL).map fun n => .fz (.int n)
  | .max, .list a => ((intsD a).bind maxL).map fun n => .fz (.int n)
  | .max, .tuple a => ((intsD a).bind maxL).map fun n => .fz (.int n)
  | .str, .int i => if i.natAbs.log2 < 1920 then some (.fz (.str (toString i))) else none
  | .int, .int i => some (.fz (.int i))
  | .int, .bool b => some (.fz (.int (if b then 1 else 0)))
  | _, _ => none
def b2D : B2 → PyData → PyData → Option Sl
  | .min, .int i, .int j => some (.fz (.int (if j < i then j else i)))
  | .max, .int i, .int j => some (.fz (.int (if j > i then j else i)))
  | _, _, _ => none
def tyD : PyData → String
  | .none => "NoneType" | .bool _ => "bool" | .int _ => "int" | .str _ => "str" | .list _ => "list" | .tuple _ => "tuple" | .dict _ => "dict"
/-- isinstance, for the classes that the programs ask -/
def isiT (t ty : String) : Option Bool :=
  if t = "int" then some (decide (ty = "int" ∨ ty = "bool")) else if t = "bool" ∨ t = "tuple" ∨ t = "list" ∨ t = "str" then some (decide (ty = t)) else none
/-- an exception -/
def excD : PyData → Bool
  | .dict (_ :: _) => true
  | _ => false
def isiD (t : String) (d : PyData) : Option Bool := if excD d then none else isiT t (tyD d)
def istyD (neg : Bool) (t : String) (d : PyData) : Option Sl := if excD d then none else some (.fz (.bool (if tyD d = t then !neg else neg)))
/-- an exception of the class c is one of the class d: all classes of errors of the program are direct sons of RowError -/
def subX (c d : Str) : Bool := decide (c = d) || decide (d = ("RowError" : Str)) || decide (d = ("ValueError" : Str))
def isxD (rs ds : List Str) : PyData → Option Bool
  | .dict [(.str c, .none)] => if c ∈ rs then some (ds.any (subX c)) else none
  | _ => none
/-- xs.count(x), xs.index(x) of flat things -/
def lmtD (ix : Bool) (xs : List PyData) (e : PyData) : Option Nat :=
  if flatD e && xs.all flatD then (if ix then (if xs.any (fun y => PyData.eqv y e) then some (xs.findIdx (fun y => PyData.eqv y e)) else none) else some (xs.countP (fun y => PyData.eqv y e))) else none
def olD : Option Sl → Option (List PyData)
  | some (.ol ds) => some ds
  | _ => none
/-- x[::-1] -/
def revD : PyData → Option Sl
  | .tuple xs => some (.fz (.tuple xs.reverse))
  | .list xs => some (.ol xs.reverse)
  | _ => none
/-- binary digits -/
def binText (a : Int) : Str := ⟨((Nat.toDigits 2 a.natAbs).map Char.toNat).toArray⟩
def fbnD : PyData → Option Sl
  | .int i => if ¬ i < 0 ∧ (binText i).length ≤ line then some (.fz (.str (binText i))) else none
  | _ => none
def splD (z : Str) : PyData → Option Sl
  | .str x => if (z.length == 0) = false ∧ x.length + 2 ≤ line then some (.ol ((Txt.split x z).map .str)) else none
  | _ => none
def sqrD : PyData → Option Sl
  | .int i => if 0 ≤ i ∧ i < 2 ^ 64 then some (.fz (.int (Float64.isqrt i.toNat : Nat))) else none
  | _ => none
/-- range(a, b, -1) and the like -/
def rngC (lo c : Int) (n : Nat) : List PyData := (List.range n).map fun (k : Nat) => PyData.int (lo + (k : Int) * c)
def joinD : PyData → PyData → Option PyData
  | .str a, e => (seqD e).bind fun xs => (strsD xs).bind fun ys => if (ys.map (·.length)).sum + ys.length * a.length ≤ 16777216 then some (.str (Txt.join a ys)) else none
  | _, _ => none
def rngL (lo : Int) (n : Nat) : List PyData := (List.range n).map fun (k : Nat) => PyData.int (lo + (k : Int))
def inR (i : Int) : Bool := decide (-(2 ^ 62) ≤ i ∧ i < 2 ^ 62)

mutual
def bindT : Tg → PyData → Env' → Option Env'
  | .loc i, d, env => if i < env.length then some (env.set i (.fz d)) else none
  | .tup r, d, env => (match d with | .tuple ds => bindR r ds env | _ => none)
  | _, _, _ => none
def bindR : Tg → List PyData → Env' → Option Env'
  | .nil, [], env => some env
  | .cons a r, d :: ds, env => (bindT a d env).bind fun env' => bindR r ds env'
  | _, _, _ => none
end
mutual
def tgHas : Tg → Nat → Bool
  | .loc i, j => i == j
  | .tup r, j => tgHasR r j
  | _, _ => false
def tgHasR : Tg → Nat → Bool
  | .cons a r, j => tgHas a j || tgHasR r j
  | _, _ => false
end

/-- the slots of a comprehension's own names -/
def wipeE (env : Env') : List Nat → Env'
  | [] => env
  | v :: vs => (wipeE env vs).set v .un
/-- .. given back -/
def backE (old : Env') (env : Env') : List Nat → Env'
  | [] => env
  | v :: vs => (backE old env vs).set v (old[v]?.getD .un)

def lcLoop (f : PyData → Env' → Res (Option PyData × Env')) : List PyData → Env' → List PyData → Res (List PyData × Env')
  | [], env, acc => .ok (acc, env)
  | d :: ds, env, acc => (f d env).bind fun p => lcLoop f ds p.2 (match p.1 with | some x => acc ++ [x] | none => acc)

def loc? : CE → Option Nat
  | .loc i => some i
  | _ => none
def owned? (env : Env') (i : Nat) : Bool := match env[i]? with
  | some (.ol _) => true
  | _ => false
def Sl.item : Sl → Option PyData
  | .fz d => some d
  | .ol ds => some (.list ds)
  | .un => none

/-- an operand: r is what its code does -/
def opnd (e : CE) (r : Env' → Res (Sl × Env')) (env : Env') : Res (Arg × Env') := match loc? e with
  | some i => if owned? env i then .ok (.slot i, env) else (r env).bind fun p => .ok (.tmp p.1, p.2)
  | none => (r env).bind fun p => .ok (.tmp p.1, p.2)
def un1 (e : CE) (r : Env' → Res (Sl × Env')) (f : PyData → Option Sl) (env : Env') : Res (Sl × Env') :=
  (opnd e r env).bind fun p => (Res.of (p.1.view p.2)).bind fun d => (Res.of (f d)).bind fun s => .ok (s, p.2)
def un2 (e : CE) (r : Env' → Res (Sl × Env')) (e' : CE) (r' : Env' → Res (Sl × Env')) (f : PyData → PyData → Option Sl) (env : Env') : Res (Sl × Env') :=
  (opnd e r env).bind fun p => (opnd e' r' p.2).bind fun q => (Res.of (p.1.view q.2)).bind fun d => (Res.of (q.1.view q.2)).bind fun d' => (Res.of (f d d')).bind fun s => .ok (s, q.2)
def blD : Sl → Option Bool
  | .fz (.bool b) => some b
  | _ => none
def partD : Sl → Option (Option Int)
  | .fz .none => some none
  | .fz (.int i) => some (some i)
  | _ => none
def fzOf : Sl → Option PyData
  | .fz d => some d
  | _ => none
def itemsOf : List Arg → Option (List PyData)
  | [] => some []
  | .tmp (.fz d) :: r => (itemsOf r).map (d :: ·)
  | _ :: _ => none
def bo (o : Option Bool) : Option Sl := o.map fun b => .fz (.bool b)
def zipD : PyData → PyData → Option PyData
  | .list xs, .list ys => some (.list ((List.zip xs ys).map fun z => .tuple [z.1, z.2]))
  | _, _ => none
def enuL (xs : List PyData) : List PyData := (List.range xs.length).map fun (i : Nat) => PyData.tuple [PyData.int (i : Int), xs.getD i .none]
def enuD : PyData → Option PyData
  | .list xs => some (.list (enuL xs))
  | .tuple xs => some (.list (enuL xs))
  | _ => none
def rvdD : PyData → Option PyData
  | .list xs => some (.list xs.reverse)
  | _ => none
def argsOf : List Arg → Env' → Option (List Sl)
  | [], _ => some []
  | .tmp sl :: r, env => (argsOf r env).map (sl :: ·)
  | .slot i :: r, env => (match env[i]? with | some (.ol ds) => (argsOf r env).map (.ol ds :: ·) | _ => none)
def slotsOf : List Arg → List Nat
  | [] => []
  | .slot i :: r => i :: slotsOf r
  | .tmp _ :: r => slotsOf r
def callOf (as : List Arg) (env : Env') : Option (List Sl) := if (slotsOf as).Nodup then argsOf as env else none
def putBack : List Arg → List Sl → Env' → Env'
  | .slot i :: r, o :: os, env => putBack r os (env.set i o)
  | .tmp _ :: r, _ :: os, env => putBack r os env
  | _, _, env => env
/-- what a walk goes over -/
def itR (r : Env' → Res (Sl × Env')) (env : Env') : Res (List PyData × Env') := (r env).bind fun p => (Res.of (p.1.item.bind seqD)).bind fun xs => .ok (xs, p.2)
def lcTurn (own : List Nat) (tg : Tg) (c e : Env' → Res (Sl × Env')) (d : PyData) (env : Env') : Res (Option PyData × Env') :=
  (Res.of (bindT tg d (wipeE env own))).bind fun env2 => (c env2).bind fun q => (Res.of (blD q.1)).bind fun b =>
    if b then (e q.2).bind fun s => (Res.of s.1.item).bind fun x => .ok (some x, s.2) else .ok (none, q.2)

def lcRes (own : List Nat) (f : PyData → Env' → Res (Option PyData × Env')) (xs : List PyData) (env : Env') : Res (Sl × Env') := match lcLoop f xs env [] with
  | .ok r => if r.1.length ≤ line then .ok (.ol r.1, backE env r.2 own) else .no
  | _ => .no

mutual
def dE (Φ : Nat → Fn) : CE → Env' → Res (Sl × Env')
  | .int i, env => .ok (.fz (.int i), env)
  | .bl b, env => .ok (.fz (.bool b), env)
  | .non, env => .ok (.fz .none, env)
  | .nop, env => .ok (.fz .none, env)
  | .str s, env => .ok (.fz (.str s), env)
  | .gl _ (.inl i), env => .ok (.fz (.int i), env)
  | .gl _ (.inr s), env => .ok (.fz (.str s), env)
  | .loc i, env => (match env[i]? with
    | some (.fz d) => .ok (.fz d, env)
    | some (.ol ds) => .ok (.fz (.list ds), env.set i (.fz (.list ds)))
    | _ => .no)
  | .neg a, env => un1 a (dE Φ a) (fun d => match d with | .int i => some (.fz (.int (-i))) | _ => none) env
  | .bin o a b, env => un2 a (dE Φ a) b (dE Φ b) (opD o) env
  | .cmp o a b, env => un2 a (dE Φ a) b (dE Φ b) (fun d e => bo (cmpD o d e)) env
  | .chn o o' a b c, env => (opnd a (dE Φ a) env).bind fun p => (opnd b (dE Φ b) p.2).bind fun q => (Res.of (p.1.view q.2)).bind fun d => (Res.of (q.1.view q.2)).bind fun e => (Res.of (cmpD o d e)).bind fun r =>
      if r then (opnd c (dE Φ c) q.2).bind fun s => (Res.of (q.1.view s.2)).bind fun e' => (Res.of (s.1.view s.2)).bind fun f => (Res.of (cmpD o' e' f)).bind fun r' => .ok (.fz (.bool r'), s.2) else .ok (.fz (.bool false), q.2)
  | .isn neg a, env => un1 a (dE Φ a) (fun d => some (.fz (.bool (match d with | .none => !neg | _ => neg)))) env
  | .isty neg a t, env => un1 a (dE Φ a) (istyD neg t) env
  | .tru a, env => un1 a (dE Φ a) (fun d => bo (truD d)) env
  | .nt a, env => (dE Φ a env).bind fun p => (Res.of (blD p.1)).bind fun b => .ok (.fz (.bool (!b)), p.2)
  | .and a b, env => (dE Φ a env).bind fun p => (Res.of (blD p.1)).bind fun r => if r then dE Φ b p.2 else .ok (.fz (.bool false), p.2)
  | .or a b, env => (dE Φ a env).bind fun p => (Res.of (blD p.1)).bind fun r => if r then .ok (.fz (.bool true), p.2) else dE Φ b p.2
  | .ite t a b, env => (dE Φ t env).bind fun p => (Res.of (blD p.1)).bind fun r => if r then dE Φ a p.2 else dE Φ b p.2
  | .ix a i, env => un2 a (dE Φ a) i (dE Φ i) (fun d e => (ixD d e).map .fz) env
  | .sl a lo hi, env => (opnd a (dE Φ a) env).bind fun p => (dE Φ lo p.2).bind fun q => (Res.of (partD q.1)).bind fun l => (dE Φ hi q.2).bind fun r => (Res.of (partD r.1)).bind fun h => (Res.of (p.1.view r.2)).bind fun d => (Res.of (slD d l h)).bind fun s => .ok (s, r.2)
  | .rev a, env => un1 a (dE Φ a) revD env
  | .lst as, env => (dA Φ as env).bind fun p => (Res.of (itemsOf p.1)).bind fun xs => (Res.of (fitL xs)).bind fun xs => .ok (.ol xs, p.2)
  | .tup as, env => (dA Φ as env).bind fun p => (Res.of (itemsOf p.1)).bind fun xs => (Res.of (fitL xs)).bind fun xs => .ok (.fz (.tuple xs), p.2)
  | .dic, env => .ok (.fz (.dict []), env)
  | .isi a t, env => un1 a (dE Φ a) (fun d => bo (isiD t d)) env
  | .b1 f a, env => un1 a (dE Φ a) (b1D f) env
  | .b2 f a b, env => un2 a (dE Φ a) b (dE Φ b) (b2D f) env
  | .join a b, env => un2 a (dE Φ a) b (dE Φ b) (fun d e => (joinD d e).map .fz) env
  | .callk k a b, env => (dE Φ a env).bind fun p => (Res.of (fzOf p.1)).bind fun d => (dE Φ b p.2).bind fun q => (Res.of (fzOf q.1)).bind fun d' => ((Φ k).run [.fz d, .fz d']).bind fun r => .ok (r.1, q.2)
  | .call k as, env => (dA Φ as env).bind fun p => (Res.of (callOf p.1 p.2)).bind fun sls => ((Φ k).run sls).bind fun r => .ok (r.1, putBack p.1 r.2 p.2)
  | .lc own tg it c e, env => (itR (dE Φ it) env).bind fun p => lcRes own (lcTurn own tg (dE Φ c) (dE Φ e)) p.1 p.2
  | .fbn a, env => un1 a (dE Φ a) fbnD env
  | .spl a z, env => un1 a (dE Φ a) (splD z) env
  | .sqr a, env => un1 a (dE Φ a) sqrD env
  | .isx a rs cs, env => un1 a (dE Φ a) (fun d => bo (isxD rs cs d)) env
  | .lmt o i b, env => (Res.of (olD env[i]?)).bind fun _ => (opnd b (dE Φ b) env).bind fun p => (Res.of (p.1.view p.2)).bind fun d => (Res.of (olD p.2[i]?)).bind fun ds => (Res.of (lmtD o ds d)).bind fun n => .ok (.fz (.int (n : Nat)), p.2)
  | .rng1 a, env => (dE Φ a env).bind fun p => (match p.1 with | .fz (.int i) => if inR i then .ok (.fz (.list (rngL 0 i.toNat)), p.2) else .no | _ => .no)
  | .rng2 a b, env => (dE Φ a env).bind fun p => (dE Φ b p.2).bind fun q => (match p.1, q.1 with | .fz (.int i), .fz (.int j) => if inR i && inR j then .ok (.fz (.list (rngL i (j - i).toNat)), q.2) else .no | _, _ => .no)
  | .rng3 a b (.neg (.int 1)), env => (dE Φ a env).bind fun p => (dE Φ b p.2).bind fun q => (match p.1, q.1 with | .fz (.int i), .fz (.int j) => if inR i && inR j then .ok (.fz (.list (rngC i (-1) (i - j).toNat)), q.2) else .no | _, _ => .no)
  | .enu a, env => (dE Φ a env).bind fun p => (Res.of (p.1.item.bind enuD)).bind fun d => .ok (.fz d, p.2)
  | .rvd a, env => (dE Φ a env).bind fun p => (Res.of (p.1.item.bind rvdD)).bind fun d => .ok (.fz d, p.2)
  | .zp a b, env => (dE Φ a env).bind fun p => (Res.of p.1.item).bind fun d => (dE Φ b p.2).bind fun q => (Res.of (q.1.item.bind (zipD d))).bind fun d => .ok (.fz d, q.2)
  | _, _ => .no
/-- arguments; consO: the list itself is handed over (a slot's, or a new one) -/
def dA (Φ : Nat → Fn) : CE → Env' → Res (List Arg × Env')
  | .nil, env => .ok ([], env)
  | .cons a r, env => (dE Φ a env).bind fun p => (Res.of p.1.item).bind fun d => (dA Φ r p.2).bind fun q => .ok (.tmp (.fz d) :: q.1, q.2)
  | .consO a r, env => (opnd a (dE Φ a) env).bind fun p => (dA Φ r p.2).bind fun q => .ok (p.1 :: q.1, q.2)
  | _, _ => .no
end
end Vl
set_option maxHeartbeats 200000
namespace Vl
open PySem PySem.Spec PyProof.Rows L2

/-- what is wanted of an exception of the class named c -/
def Xk (exA : Str → Option Addr) (W : WX) (F H : Hp) (O : Addr → Prop) (c : Str) : Prop :=
  ∃ C, exA c = some C ∧ ∀ σ F' H', Sub F F' → Sub F' H' → (∀ a o, H a = some o → ¬ O a → H' a = some o) → W (.ref C) none σ H'
theorem Xk.after {exA : Str → Option Addr} {W : WX} {F H F1 H1 : Hp} {O O1 : Addr → Prop} {c : Str} (x : Xk exA W F H O c) (s : Step F H O F1 H1 O1) : Xk exA W F1 H1 O1 c := by
  obtain ⟨C, e, x⟩ := x
  refine ⟨C, e, fun σ F' H' h1 h2 h3 => x σ F' H' (fun a o h => h1 _ _ (s.fz _ _ h)) h2 fun a o h n => h3 a o (s.keep a o h n) ?_⟩
  exact s.notOw n (by rw [h]; simp)

section
variable {X : Cx} {exA : Str → Option Addr} {W : WX} {e a b c : Expr} {pos : Pos}
theorem PE.imp {t t' : TE} (h : PE X e t) (f : ∀ σ H Q, t' σ H Q → t σ H Q) : PE X e t' := ⟨fun pins s σ H Q I q => h.run pins s σ H Q I (f σ H Q q)⟩
theorem PT.imp {t t' : TT} (h : PT X e t) (f : ∀ σ H Q, t' σ H Q → t σ H Q) : PT X e t' := ⟨fun pins s σ H Q I q => h.run pins s σ H Q I (f σ H Q q)⟩
theorem PW.imp {t t' : TT} (h : PW X e t) (f : ∀ σ H Q, t' σ H Q → t σ H Q) : PW X e t' := ⟨fun w pins s σ H Q I q => h.run w pins s σ H Q I (f σ H Q q)⟩
theorem PA.imp {es : List Expr} {t t' : TA} (h : PA X es t) (f : ∀ σ H Q, t' σ H Q → t σ H Q) : PA X es t' := ⟨fun p pins s σ H Q I q => h.run p pins s σ H Q I (f σ H Q q)⟩
theorem PI.imp {tg : Expr} {t t' : TI} (h : PI X tg e t) (f : ∀ σ H Q, t' σ H Q → t σ H Q) : PI X tg e t' := ⟨fun pins s σ H Q I q => h.run pins s σ H Q I (f σ H Q q)⟩

/-- an expression by what it is worth -/
def tEx (K : PySem.W.Frag) (exA : Str → Option Addr) (W : WX) (r : Env' → Res (Sl × Env')) : TE := fun σ H Q => ∃ F env, EnvOk K F H env σ ∧ OnR (r env) (fun p => Kt K F H env σ p.2 p.1 Q) (Xk exA W F H (Ow env σ))
/-- an operand's hold -/
def ArgOk (K : PySem.W.Frag) (F H : Hp) (env : Env') (σ : L2.St) (a : Arg) (v : V) : Prop := match a with
  | .tmp sl => SlOk K F H sl v ∧ ∀ x, own sl v x → ¬ Ow env σ x
  | .slot i => σ[i]? = some (some v)
def ownA (a : Arg) (v : V) (x : Addr) : Prop := match a with
  | .tmp sl => own sl v x
  | .slot _ => False
def Ka (K : PySem.W.Frag) (F H : Hp) (env : Env') (σ : L2.St) (env' : Env') (a : Arg) (Q : VK) : Prop :=
  ∀ v F' H', EnvOk K F' H' env' σ → Step F H (Ow env σ) F' H' (Ow env' σ) → ArgOk K F' H' env' σ a v → (∀ x, ownA a v x → Ow env σ x ∨ H x = none) → Q v H'
def tOx (K : PySem.W.Frag) (exA : Str → Option Addr) (W : WX) (c : CE) (r : Env' → Res (Sl × Env')) : TE := fun σ H Q => ∃ F env, EnvOk K F H env σ ∧ OnR (opnd c r env) (fun p => Ka K F H env σ p.2 p.1 Q) (Xk exA W F H (Ow env σ))
section
variable {K : PySem.W.Frag} {F H F1 H1 : Hp} {env env1 : Env'} {σ : L2.St} {v : V}
theorem ArgOk.stay {ar : Arg} (h : ArgOk K F H env σ ar v) (s : Step F H (Ow env σ) F1 H1 (Ow env1 σ)) : ArgOk K F1 H1 env1 σ ar v := by
  cases ar with
  | slot i => exact h
  | tmp sl =>
    obtain ⟨h1, h2⟩ := h
    refine ⟨h1.stay s h2, fun x o => s.notOw (h2 x o) ?_⟩
    obtain ⟨_, xs, e⟩ := h1.there o
    rw [e]; simp
theorem ArgOk.view {ar : Arg} (h : ArgOk K F H env σ ar v) (E : EnvOk K F H env σ) {d : PyData} (e : ar.view env = some d) : Vw K F H v d := by
  cases ar with
  | tmp sl => exact Vw.of h.1 e
  | slot i =>
    have e : (env[i]?).bind Sl.dat = some d := e
    cases q : env[i]? with
    | none => rw [q] at e; cases e
    | some sl =>
      rw [q] at e
      obtain ⟨w, e1, ok⟩ := E.ok i sl q (by rintro rfl; cases e)
      have h : σ[i]? = some (some v) := h
      rw [h] at e1; cases e1
      exact Vw.of ok e
end
/-- from an expression to an operand; a name's slot is read when all is reckoned -/
theorem pe_opnd {cd : CE} {r : Env' → Res (Sl × Env')} (h : PE X e (tEx X.K exA W r)) (hv : ∀ i, loc? cd = some i → PE X e (tVar i)) : PE X e (tOx X.K exA W cd r) := by
  refine ⟨fun pins s σ H Q I q => ?_⟩
  obtain ⟨F, env, E, q⟩ := q
  unfold opnd at q
  have other : OnR ((r env).bind fun p => Res.ok (Arg.tmp p.1, p.2)) (fun p => Ka X.K F H env σ p.2 p.1 Q) (Xk exA W F H (Ow env σ)) → wpAny (model X.prog X.w) X.A (eval e X.env) (EP X pins σ Q) X.xe s := fun q =>
    h.run pins s σ H Q I ⟨F, env, E, q.bind.mono (fun p _ h1 => fun v F' H' E' st t => h1 v F' H' E' st ⟨t.ok, t.no⟩ t.fr) fun _ x => x⟩
  cases hc : loc? cd with
  | none => rw [hc] at q; exact other q
  | some i =>
    rw [hc] at q
    simp only at q
    split at q
    · rename_i ho
      unfold owned? at ho
      split at ho
      · rename_i ds hs
        obtain ⟨v, e1, ok⟩ := E.ok i _ hs (by simp)
        exact (hv i hc).run pins s σ H Q I ⟨v, e1, q v F H E (Step.refl _ _ _) e1 fun _ z => z.elim⟩
      · cases ho
    · exact other q

/-- an operation on two values, told by data -/
def Op2 (X : Cx) (r : R2) (f : PyData → PyData → Option Sl) : Prop := ∀ F H env σ x y d d' sl Q, EnvOk X.K F H env σ → Vw X.K F H x d → Vw X.K F H y d' → f d d' = some sl → Kt X.K F H env σ env sl Q → r x y H Q
def Op1 (X : Cx) (r : V → Hp → VK → Prop) (f : PyData → Option Sl) : Prop := ∀ F H env σ x d sl Q, EnvOk X.K F H env σ → Vw X.K F H x d → f d = some sl → Kt X.K F H env σ env sl Q → r x H Q
variable {ca cb : CE} {ra rb : Env' → Res (Sl × Env')}
theorem pe_un2 {r : R2} {f : PyData → PyData → Option Sl} (ha : PE X a (tOx X.K exA W ca ra)) (hb : PE X b (tOx X.K exA W cb rb)) (rule : ∀ ta tb, PE X a ta → PE X b tb → PE X e (tOp r ta tb)) (sp : Op2 X r f) :
    PE X e (tEx X.K exA W (un2 ca ra cb rb f)) := by
  refine PE.imp (rule _ _ ha hb) fun σ H Q q => ?_
  obtain ⟨F, env, E, q⟩ := q
  refine ⟨F, env, E, q.bind.mono (fun p _ h1 => ?_) fun _ x => x⟩
  intro v1 F1 H1 E1 s1 m1 _
  refine ⟨F1, p.2, E1, h1.bind.mono (fun p2 _ h2 => ?_) fun _ x => x.after s1⟩
  intro v2 F2 H2 E2 s2 m2 _
  obtain ⟨d, e1, h3⟩ := h2.bind.of
  obtain ⟨d', e2, h4⟩ := h3.bind.of
  obtain ⟨sl, e3, h5⟩ := h4.bind.of
  exact sp F2 H2 _ σ v1 v2 d d' sl Q E2 ((m1.stay s2).view E2 e1) (m2.view E2 e2) e3 (Kt.after (Kt.after h5 s1) s2)
theorem pe_un1 {r : V → Hp → VK → Prop} {f : PyData → Option Sl} (ha : PE X a (tOx X.K exA W ca ra)) (rule : ∀ ta, PE X a ta → PE X e (tUn r ta)) (sp : Op1 X r f) :
    PE X e (tEx X.K exA W (un1 ca ra f)) := by
  refine PE.imp (rule _ ha) fun σ H Q q => ?_
  obtain ⟨F, env, E, q⟩ := q
  refine ⟨F, env, E, q.bind.mono (fun p _ h1 => ?_) fun _ x => x⟩
  intro v1 F1 H1 E1 s1 m1 _
  obtain ⟨d, e1, h3⟩ := h1.bind.of
  obtain ⟨sl, e3, h5⟩ := h3.bind.of
  exact sp F1 H1 _ σ v1 d sl Q E1 (m1.view E1 e1) e3 (Kt.after h5 s1)

/-! constants and names -/
theorem pe_cst {d : PyData} {v : V} (h : PE X e (tC v)) (hr : ∀ F, Rp X.K F v d) : PE X e (tEx X.K exA W fun env => .ok (.fz d, env)) := by
  refine PE.imp h fun σ H Q q => ?_
  obtain ⟨F, env, E, q⟩ := q
  have q : Kt X.K F H env σ env (.fz d) Q := q
  exact q.dat E (hr F)
theorem pe_loc {i : Nat} {Φ : Nat → Fn} (h : PE X e (tVar i)) : PE X e (tEx X.K exA W (dE Φ (.loc i))) := by
  refine PE.imp h fun σ H Q q => ?_
  obtain ⟨F, env, E, q⟩ := q
  have q : OnR (match env[i]? with
    | some (.fz d) => Res.ok (Sl.fz d, env)
    | some (.ol ds) => Res.ok (Sl.fz (.list ds), env.set i (.fz (.list ds)))
    | _ => Res.no) (fun p => Kt X.K F H env σ p.2 p.1 Q) (Xk exA W F H (Ow env σ)) := by
      have := q
      unfold dE at this
      exact this
  cases hs : env[i]? with
  | none => rw [hs] at q; exact q.elim
  | some sl =>
    rw [hs] at q
    cases sl with
    | un => exact q.elim
    | fz d =>
      have q : Kt X.K F H env σ env (.fz d) Q := q
      obtain ⟨v, e1, ok⟩ := E.ok i _ hs (by simp)
      exact ⟨v, e1, q.dat E ok⟩
    | ol ds =>
      have q : Kt X.K F H env σ (env.set i (.fz (.list ds))) (.fz (.list ds)) Q := q
      obtain ⟨v, e1, a, xs, rfl, f, hh, r⟩ := E.ok i _ hs (by simp)
      have hi : i < env.length := by
        rcases Nat.lt_or_ge i env.length with z | z
        · exact z
        · rw [List.getElem?_eq_none z] at hs; cases hs
      have su : Sub F (upd F a (.lst xs)) := sub_upd f
      have get : ∀ (j : Nat) (tl : Sl), (env.set i (.fz (.list ds)))[j]? = some tl → (j = i ∧ tl = .fz (.list ds)) ∨ (j ≠ i ∧ env[j]? = some tl) := fun j tl h => by
        by_cases z : j = i
        · subst z; rw [List.getElem?_set_self hi] at h; cases h; exact .inl ⟨rfl, rfl⟩
        · rw [List.getElem?_set_ne (Ne.symm z)] at h; exact .inr ⟨z, h⟩
      have ow : ∀ x, Ow (env.set i (.fz (.list ds))) σ x → Ow env σ x ∧ x ≠ a := fun x ⟨j, tl, w, h1, h2, h3⟩ => by
        rcases get j tl h1 with ⟨_, rfl⟩ | ⟨ne, h1⟩
        · exact h3.elim
        · refine ⟨⟨j, tl, w, h1, h2, h3⟩, fun z => ne ?_⟩
          subst z
          exact E.inj j i _ _ _ _ _ h1 hs h2 e1 h3 rfl
      have E' : EnvOk X.K (upd F a (.lst xs)) H (env.set i (.fz (.list ds))) σ := by
        refine ⟨fun x u h => ?_, by rw [List.length_set]; exact E.len, fun j tl h n => ?_, fun j k sl tl v w x h1 h2 h3 h4 h5 h6 => ?_⟩
        · by_cases z : x = a
          · subst z; rw [upd_same] at h; rw [hh]; exact h
          · rw [upd_ne z] at h; exact E.sub _ _ h
        · rcases get j tl h with ⟨rfl, rfl⟩ | ⟨ne, h⟩
          · exact ⟨_, e1, .lst' (.inl (.inl upd_same)) (r.sub su)⟩
          · obtain ⟨w, e2, ok⟩ := E.ok j tl h n
            refine ⟨w, e2, ok.sub su fun x o => ?_⟩
            have nx : x ≠ a := fun z => ne (by subst z; exact E.inj j i _ _ _ _ _ h hs e2 e1 o rfl)
            exact ⟨by rw [upd_ne nx]; exact (ok.there o).1, rfl⟩
        · rcases get j sl h1 with ⟨rfl, rfl⟩ | ⟨n1, h1⟩
          · exact h5.elim
          · rcases get k tl h2 with ⟨rfl, rfl⟩ | ⟨n2, h2⟩
            · exact h6.elim
            · exact E.inj j k sl tl v w x h1 h2 h3 h4 h5 h6
      refine ⟨_, e1, q _ (upd F a (.lst xs)) H E' ⟨su, fun _ _ h _ => h, fun x h => ?_, fun x h => .inl (ow x h).1⟩ (.fz (.lst' (.inl (.inl upd_same)) (r.sub su)))⟩
      by_cases z : x = a
      · subst z; exact .inr (.inr ⟨i, _, _, hs, e1, rfl⟩)
      · rw [upd_ne z] at h; exact .inl h
end
end Vl
set_option maxHeartbeats 2000000
namespace Vl
open PySem PySem.Spec PyProof.Rows L2

theorem line_eq : sizeLine = line := by rw [sizeLine_eq]; rfl
section
variable {X : Cx}
/-! lists and tuples joined, wherever they stand -/
def rCatS (K : PySem.W.Frag) : R2 := fun x y H Q => ∃ l b xs zs, x = .ref l ∧ y = .ref b ∧ SqL K H l xs ∧ SqL K H b zs ∧ xs.length + zs.length ≤ sizeLine ∧ ∀ p, H p = none → Q (.ref p) (upd H p (.lst (xs ++ zs)))
theorem op_catS : OpR X (binaryOp .Add) (rCatS X.K) := by
  intro pins s σ H x y v u Q I rx ry h
  obtain ⟨l, b, xs, zs, rfl, rfl, hl, hb, hz, q⟩ := h
  cases rx
  cases ry
  obtain ⟨its, r1, p1, _⟩ := I.list hl
  obtain ⟨jts, r2, p2, _⟩ := I.list hb
  obtain ⟨⟨c1, d1, e1, s1⟩, n1, o1, k1, k2, k3⟩ := p1
  obtain ⟨⟨c2, d2, e2, s2⟩, n2, o2, m1, m2, m3⟩ := p2
  simp only at k1 k2 k3 m1 m2 m3
  subst k1 k2 k3 m1 m2 m3
  have h1 := r1.length
  have h2 := r2.length
  have sz : its.toArray.size + jts.toArray.size ≤ sizeLine := by rw [List.size_toArray, List.size_toArray, ← h1, ← h2]; exact hz
  refine concat_meets ⟨_, o1, rfl⟩ ⟨_, o2, rfl⟩ noFill_list_add seq_list_add PySem.F.slot_list_add PySem.F.entry_list_add (PySem.F.args_list_add_2 _ _) (list_addW l b its.toArray jts.toArray n1 n2 none none s1 s2 sz) ⟨o1, o2, ?_⟩
  have e : its.toArray ++ jts.toArray = (its ++ jts).toArray := by simp
  rw [e]
  exact ⟨.ref _, _, I.lnew (t' := s.toks) (r1.append r2) (by rw [List.length_append]; omega), rfl, q _ I.fresh⟩
/-- t + u, whatever is empty -/
def rCatU (K : PySem.W.Frag) : R2 := fun x y H Q => ∃ a b xs ys, x = .ref a ∧ y = .ref b ∧ SqT K H a xs ∧ SqT K H b ys ∧ xs.length + ys.length ≤ sizeLine ∧
  (xs = [] → Q (.ref b) H) ∧ (xs ≠ [] → ys = [] → Q (.ref a) H) ∧ (xs ≠ [] → ys ≠ [] → ∀ p, H p = none → Q (.ref p) (upd H p (.tup (xs ++ ys))))
theorem op_catU : OpR X (binaryOp .Add) (rCatU X.K) := by
  intro pins s σ H x y v u Q I rx ry h
  obtain ⟨a, b, xs, ys, rfl, rfl, ha, hb, hz, q0, q1, q2⟩ := h
  by_cases hx : xs = []
  · cases rx
    cases ry
    obtain ⟨its, r1, p1, _⟩ := I.tuple ha
    obtain ⟨jts, r2, p2, _⟩ := I.tuple hb
    obtain ⟨⟨c1, d1, e1, s1⟩, o1, k1, n1, k3⟩ := p1
    obtain ⟨⟨c2, d2, e2, s2⟩, o2, m1, n2, m3⟩ := p2
    simp only at k1 k3 m1 m3
    subst k1 k3 m1 m3
    have hi : its = [] := r1.nil_iff.mpr hx
    exact concat_meets ⟨_, o1, rfl⟩ ⟨_, o2, rfl⟩ noFill_tuple_add seq_tuple_add PySem.F.slot_tuple_add PySem.F.entry_tuple_add (PySem.F.args_tuple_add_2 _ _)
      (tuple_addW0 a b its.toArray jts.toArray n1 n2 d1 d2 s1 s2 (by simp [hi])) ⟨o1, o2, ⟨.ref b, H, I, rfl, q0 hx⟩⟩
  · exact op_catT pins s σ H (.ref a) (.ref b) v u Q I rx ry ⟨a, b, xs, ys, rfl, rfl, ha, hb, hx, hz, q1 hx, q2 hx⟩

/-- xs * k -/
theorem int_rmul_listW (a : Int) (t : Tok) (l : Addr) (items : Array Value) (n : Nat) (dd : Option Addr) (sl : Array (Option Value)) :
    Meets (Builtin.«int.__rmul__» ⟨[.int a t, .ref l], []⟩) (fun _ R s => s.heap.get? l = some { cls := .type "list", dict := dd, data := .seq items n, slots := sl } ∧ R (.ok (.ret Value.notImplemented)) s) :=
  .of_wp fun prog w A R s h => by
    obtain ⟨hp, g, d, tk, os⟩ := s
    obtain ⟨hl, h⟩ := h
    wp_walk using wpAny_loadPart' hl
    exact ⟨_, rfl, h⟩
theorem list_mulW (l : Addr) (items : Array Value) (n : Nat) (dd : Option Addr) (sl : Array (Option Value)) (x : Int) (u : Tok) (c0 : ¬(!Builtin.List.listFitsIndex x) = true) (c1 : ¬items.size * x.toNat > (2 ^ 63 - 1) / 8) (c2 : ¬Builtin.List.listTooLong (items.size * x.toNat) = true) :
    Meets (Builtin.«list.__mul__» ⟨[.ref l, .int x u], []⟩) (fun _ R s => s.heap.get? l = some { cls := .type "list", dict := dd, data := .seq items n, slots := sl } ∧
      R (.ok (.ret (Value.ref s.heap.objs.size))) { s with heap := s.heap.push { cls := Value.type "list", data := Data.seq (List.foldl (fun x1 x2 => x1 ++ x2) #[] (List.replicate (if items.isEmpty = true then 0 else x.toNat) items)) }, toks := s.toks }) :=
  .of_wp fun prog w A R s h => by
    obtain ⟨hp, g, d, tk, os⟩ := s
    obtain ⟨hl, h⟩ := h
    have hsz := AutoListH.joined_fits c2
    wp_walk using wpAny_loadPart' hl
    refine wpAny_ite_false (decide_eq_false (Nat.not_lt.mpr hsz)) ?_
    wp_walk using wpAny_loadPart' hl
    exact ⟨_, rfl, h⟩
def rRepS (K : PySem.W.Frag) : R2 := fun x y H Q => ∃ l k xs, x = .ref l ∧ y = .int k ∧ SqL K H l xs ∧ -(2 ^ 63) ≤ k ∧ k < 2 ^ 63 ∧ xs.length * k.toNat ≤ sizeLine ∧
  ∀ p, H p = none → Q (.ref p) (upd H p (.lst (List.replicate k.toNat xs).flatten))
theorem op_repS : OpR X (binaryOp .Mult) (rRepS X.K) := by
  intro pins s σ H x y v u Q I rx ry h
  obtain ⟨l, k, xs, rfl, rfl, hl, h1, h2, hz, q⟩ := h
  cases rx
  obtain ⟨t, rfl⟩ := ry
  obtain ⟨its, r, ⟨⟨c1, d1, e1, sl⟩, n, e, k1, k2, k3⟩, _⟩ := I.list hl
  simp only at k1 k2 k3
  subst k1 k2 k3
  have hl := r.length
  have hlen : its.toArray.size * k.toNat ≤ sizeLine := by rw [List.size_toArray, ← hl]; exact hz
  have hcap : ¬ its.toArray.size * k.toNat > (2 ^ 63 - 1) / 8 := by
    have z : (sizeLine : Nat) ≤ (2 ^ 63 - 1) / 8 := by decide
    exact Nat.not_lt.mpr (Nat.le_trans hlen z)
  have hfit : ¬ (!Builtin.List.listFitsIndex k) = true := by
    rw [fitsIndex_both h1 h2]; decide
  have hlong : ¬ Builtin.List.listTooLong (its.toArray.size * k.toNat) = true := by
    rw [notLongL hlen]; decide
  have hnew : List.foldl (fun x1 x2 => x1 ++ x2) #[] (List.replicate (if its.toArray.isEmpty = true then 0 else k.toNat) its.toArray) = (List.replicate k.toNat its).flatten.toArray := by
    rw [size_rep]
    cases its with
    | nil => simp
    | cons a r' => rw [if_neg (by simp)]
  refine wpAny_binaryOp_repeat_ref (T := "list") (U := "int") (by decide) ⟨_, e, rfl⟩ (fun s' => typeIs_int s' k t) noFill_list_mul F.fills_int_mul F.slot_int_rmul repeat_list F.slot_int_index.lookup
    (call_meets F.slot_int_rmul (typeIs_int s k t) F.entry_int_rmul (F.args_int_rmul_2 _ _) (int_rmul_listW k t l its.toArray n none sl)
      ⟨e, rfl, ⟨_, e, rfl⟩, call_meets F.slot_list_mul ⟨_, e, rfl⟩ F.entry_list_mul (F.args_list_mul_2 _ _) (list_mulW l its.toArray n none sl k t hfit hcap hlong) ⟨e, ?_⟩⟩)
  rw [hnew]
  exact ⟨.ref _, _, I.lnew (t' := s.toks) (r.rep k.toNat) (by rw [PyProof.Rows.lm_len_rep_flat, Nat.mul_comm]; exact hz), rfl, q _ I.fresh⟩
end
end Vl
set_option maxHeartbeats 2000000
namespace Vl
open PySem PySem.Spec PyProof.Rows L2

theorem OpR.mono {X : Cx} {f : Value → Value → Sem Value} {r r' : R2} (h : OpR X f r) (m : ∀ x y H Q, r' x y H Q → r x y H Q) : OpR X f r' := fun pins s σ H x y v u Q I rx ry q => h pins s σ H x y v u Q I rx ry (m _ _ _ _ q)
/-- the reading that a data operation has by its meaning -/
def rOf (X : Cx) (f : PyData → PyData → Option Sl) : R2 := fun x y H Q => ∃ F env σ d d' sl, EnvOk X.K F H env σ ∧ Vw X.K F H x d ∧ Vw X.K F H y d' ∧ f d d' = some sl ∧ Kt X.K F H env σ env sl Q
theorem rOf_op2 (X : Cx) (f : PyData → PyData → Option Sl) : Op2 X (rOf X f) f := fun F H env σ x y d d' sl Q E h1 h2 e k => ⟨F, env, σ, d, d', sl, E, h1, h2, e, k⟩
def uOf (X : Cx) (f : PyData → Option Sl) : V → Hp → VK → Prop := fun x H Q => ∃ F env σ d sl, EnvOk X.K F H env σ ∧ Vw X.K F H x d ∧ f d = some sl ∧ Kt X.K F H env σ env sl Q
theorem uOf_op1 (X : Cx) (f : PyData → Option Sl) : Op1 X (uOf X f) f := fun F H env σ x d sl Q E h1 e k => ⟨F, env, σ, d, sl, E, h1, e, k⟩

/-! a tuple times 1, times 0 and less -/
theorem tmul_one (l : Addr) (items : Array Value) (n : Nat) (sl : Array (Option Value)) (u : Tok) (dd : Option Addr) :
    Meets (Builtin.«tuple.__mul__» ⟨[.ref l, .int 1 u], []⟩) (fun _ R s => s.heap.get? l = some { cls := .type "tuple", dict := dd, data := .seq items n, slots := sl } ∧ R (.ok (.ret (Value.ref l))) s) :=
  .of_wp fun prog w A R s h => by
    obtain ⟨hp, g, d, tk, os⟩ := s
    obtain ⟨hl, h⟩ := h
    have f1 := AutoSeq1.idx_int
    have c1 : (items.isEmpty || (1 : Int) == 1) = true := by rw [show ((1 : Int) == 1) = true from rfl, Bool.or_true]
    wp_walk using wpAny_loadPart' hl
    exact ⟨_, rfl, h⟩
theorem tmul_none (l : Addr) (items : Array Value) (n : Nat) (sl : Array (Option Value)) (x : Int) (u : Tok) (dd : Option Addr) (c0 : (decide (x < -(2 ^ 63)) || decide (x ≥ 2 ^ 63)) = false) (c1 : (items.isEmpty || x == 1) = false) (c2 : (decide (x ≤ 0) || items.isEmpty) = true) :
    Meets (Builtin.«tuple.__mul__» ⟨[.ref l, .int x u], []⟩) (fun _ R s => s.heap.get? l = some { cls := .type "tuple", dict := dd, data := .seq items n, slots := sl } ∧
      R (.ok (.ret (Value.ref s.heap.objs.size))) { s with heap := s.heap.push { cls := Value.type "tuple", data := Data.seq #[] }, toks := s.toks }) :=
  .of_wp fun prog w A R s h => by
    obtain ⟨hp, g, d, tk, os⟩ := s
    obtain ⟨hl, h⟩ := h
    have f1 := AutoSeq1.idx_int
    wp_walk using wpAny_loadPart' hl
    repeat (first
      | (refine wpAny_ite_false (decide_eq_false (by rw [c0]; exact Bool.false_ne_true)) ?_; wp_walk using wpAny_loadPart' hl)
      | (refine wpAny_ite_false (decide_eq_false (by rw [c1]; exact Bool.false_ne_true)) ?_; wp_walk using wpAny_loadPart' hl)
      | (refine wpAny_ite_true (decide_eq_true c2) ?_; wp_walk using wpAny_loadPart' hl))
    exact ⟨_, rfl, h⟩
def rRepX (K : PySem.W.Frag) : R2 := fun x y H Q => ∃ l k xs, x = .ref l ∧ y = .int k ∧ SqT K H l xs ∧ ((k = 1 ∧ Q (.ref l) H) ∨ (xs ≠ [] ∧ -(2 ^ 63) ≤ k ∧ k ≤ 0 ∧ ∀ p, H p = none → Q (.ref p) (upd H p (.tup []))))
theorem op_repX {X : Cx} : OpR X (binaryOp .Mult) (rRepX X.K) := by
  intro pins s σ H x y v u Q I rx ry h
  obtain ⟨l, k, xs, rfl, rfl, hT, h⟩ := h
  cases rx
  obtain ⟨t, rfl⟩ := ry
  obtain ⟨its, r, ⟨⟨cls, dd, data, sl⟩, ho, hc, n, hd⟩, hs⟩ := I.tuple hT
  simp only at hc hd
  subst hc hd
  have len : its.length = xs.length := r.length.symm
  refine wpAny_binaryOp_repeat_ref (T := "tuple") (U := "int") (by decide) ⟨_, ho, rfl⟩ (fun s' => typeIs_int s' k t) noFill_tuple_mul F.fills_int_mul F.slot_int_rmul repeat_tuple F.slot_int_index.lookup
    (call_meets F.slot_int_rmul (typeIs_int s k t) F.entry_int_rmul (F.args_int_rmul_2 _ _) (int_rmul_tuple k t l its.toArray n dd sl) ⟨ho, rfl, ⟨_, ho, rfl⟩, ?_⟩)
  rcases h with ⟨rfl, q⟩ | ⟨hne, h1, h2, q⟩
  · exact call_meets F.slot_tuple_mul ⟨_, ho, rfl⟩ F.entry_tuple_mul (F.args_tuple_mul_2 _ _) (tmul_one l its.toArray n sl t dd) ⟨ho, ⟨.ref l, H, I, rfl, q⟩⟩
  · have emp : its.toArray.isEmpty = false := by
      cases its with
      | nil => exact absurd (List.eq_nil_of_length_eq_zero (by rw [← len]; rfl)) hne
      | cons a b => rfl
    have c0 : (decide (k < -(2 ^ 63)) || decide (k ≥ 2 ^ 63)) = false := by
      rw [decide_eq_false (by omega), decide_eq_false (by omega)]; rfl
    have c1 : (its.toArray.isEmpty || k == 1) = false := by
      rw [emp, Bool.false_or]
      exact beq_eq_false_iff_ne.mpr (by omega)
    have c2 : (decide (k ≤ 0) || its.toArray.isEmpty) = true := by rw [decide_eq_true h2]; rfl
    refine call_meets F.slot_tuple_mul ⟨_, ho, rfl⟩ F.entry_tuple_mul (F.args_tuple_mul_2 _ _) (tmul_none l its.toArray n sl k t dd c0 c1 c2) ⟨ho, ?_⟩
    refine ⟨.ref s.heap.objs.size, _, I.laid (t' := s.toks) (o := .tup []) (fun b ob q => Heap.get?_push_of_some _ q) (Nat.le_refl _) ?_, rfl, q _ (I.hok.fresh (Nat.le_refl _))⟩
    exact ⟨Nat.zero_le _, _, .nil, IsTup.new _ _⟩
def CPowW (i j : Int) : Prop := (0 ≤ j ∧ j ≤ 1000000 ∧ i.natAbs < 2 ^ 64) ∨ (0 ≤ j ∧ j ≤ 4 ∧ i.natAbs.log2 < 20000)
theorem op_powW {X : Cx} : OpR X (binaryOp .Pow) (rI CPowW fun i j => .int (i ^ j.toNat)) := opI fun i j _ _ _ _ _ hc q => by
  rcases hc with h | h
  · exact pow_int_small h.1 h.2.1 h.2.2 q
  · refine pow_int h.1 ?_ q
    have hb : Builtin.Int.intBits i ≤ 20000 := by
      unfold Builtin.Int.intBits
      split
      · exact Nat.zero_le _
      · omega
    have h1 : (Builtin.Int.intBits i : Int) * j ≤ 20000 * j := Int.mul_le_mul_of_nonneg_right (by omega) h.1
    omega
theorem fitL_some {ds es : List PyData} (h : fitL ds = some es) : es = ds ∧ ds.length ≤ line := by
  unfold fitL at h
  split at h
  · cases h; exact ⟨rfl, by assumption⟩
  · cases h
theorem wide_lt {i : Int} (h : wide i = true) : -(2 ^ 64) < i ∧ i < 2 ^ 64 := by
  have := of_decide_eq_true h
  omega
section
variable {X : Cx}
theorem add_ok : OpR X (binaryOp .Add) (rOf X (opD .add)) := by
  intro pins s σ H x y v u Q I rx ry h
  obtain ⟨F, env, σ', d, d', sl, E, h1, h2, e, k⟩ := h
  replace e : addD d d' = some sl := e
  unfold addD at e
  split at e <;> first | cases e | skip
  · rename_i i j
    have h1 := h1.int; have h2 := h2.int; subst h1 h2
    exact op_add pins s σ H _ _ v u Q I rx ry ⟨i, j, rfl, rfl, k.dat E (.int _)⟩
  · rename_i a b
    obtain ⟨p, xs, rfl, q1, r1⟩ := h1.list E.sub
    obtain ⟨p', ys, rfl, q2, r2⟩ := h2.list E.sub
    rw [Option.map_eq_some_iff] at e
    obtain ⟨z, ez, rfl⟩ := e
    obtain ⟨rfl, hz⟩ := fitL_some ez
    refine op_catS pins s σ H _ _ v u Q I rx ry ⟨p, p', xs, ys, rfl, rfl, q1, q2, ?_, fun l hl => k.newL E (r1.append r2) hl⟩
    rw [r1.n, r2.n, line_eq, ← List.length_append]; exact hz
  · rename_i a b
    obtain ⟨p, xs, rfl, q1, r1⟩ := h1.tup E.sub
    obtain ⟨p', ys, rfl, q2, r2⟩ := h2.tup E.sub
    rw [Option.map_eq_some_iff] at e
    obtain ⟨z, ez, rfl⟩ := e
    obtain ⟨rfl, hz⟩ := fitL_some ez
    have g1 : xs = [] → a = [] := fun z => by have := r1.n; rw [z] at this; exact List.eq_nil_of_length_eq_zero this.symm
    have g2 : ys = [] → b = [] := fun z => by have := r2.n; rw [z] at this; exact List.eq_nil_of_length_eq_zero this.symm
    refine op_catU pins s σ H _ _ v u Q I rx ry ⟨p, p', xs, ys, rfl, rfl, q1, q2, ?_, fun z => ?_, fun _ z => ?_, fun _ _ l hl => k.newT E (r1.append r2) hl⟩
    · rw [r1.n, r2.n, line_eq, ← List.length_append]; exact hz
    · have := g1 z; subst this
      exact k.dat E (h2.rp (fun _ z => by cases z))
    · have := g2 z; subst this
      rw [List.append_nil] at k
      exact k.dat E (h1.rp (fun _ z => by cases z))
  · rename_i a b
    have h1 := h1.str; have h2 := h2.str; subst h1 h2
    split at e
    · rename_i hz
      cases e
      exact op_add_str pins s σ H _ _ v u Q I rx ry ⟨a, b, rfl, rfl, by rw [line_eq]; exact hz, k.dat E (.str _)⟩
    · cases e
theorem mul_ok : OpR X (binaryOp .Mult) (rOf X (opD .mul)) := by
  intro pins s σ H x y v u Q I rx ry h
  obtain ⟨F, env, σ', d, d', sl, E, h1, h2, e, k⟩ := h
  replace e : mulD d d' = some sl := e
  unfold mulD at e
  split at e <;> first | cases e | skip
  · rename_i i j
    have h1 := h1.int; have h2 := h2.int; subst h1 h2
    split at e
    · rename_i hw
      cases e
      rw [Bool.or_eq_true, Bool.or_eq_true] at hw
      rcases hw with (hw | hw) | hw
      · exact op_mul pins s σ H _ _ v u Q I rx ry ⟨i, j, rfl, rfl, .inl (wide_lt hw), k.dat E (.int _)⟩
      · exact op_mul pins s σ H _ _ v u Q I rx ry ⟨i, j, rfl, rfl, .inr (wide_lt hw), k.dat E (.int _)⟩
      · exact op_mulW pins s σ H _ _ v u Q I rx ry ⟨i, j, rfl, rfl, show CMulW i j from of_decide_eq_true (p := i.natAbs.log2 + j.natAbs.log2 < 1000000) hw, k.dat E (.int _)⟩
    · cases e
  · rename_i a j
    obtain ⟨p, xs, rfl, q1, r1⟩ := h1.list E.sub
    have h2 := h2.int; subst h2
    split at e
    · rename_i hz
      cases e
      exact op_repS pins s σ H _ _ v u Q I rx ry ⟨p, j, xs, rfl, rfl, q1, hz.1, hz.2.1, by rw [r1.n, line_eq]; exact hz.2.2, fun l hl => k.newL E (r1.rep _) hl⟩
    · cases e
  · rename_i a j
    obtain ⟨p, xs, rfl, q1, r1⟩ := h1.tup E.sub
    have h2 := h2.int; subst h2
    split at e
    · rename_i hz
      cases e
      subst hz
      exact op_repX pins s σ H _ _ v u Q I rx ry ⟨p, 1, xs, rfl, rfl, q1, .inl ⟨rfl, k.dat E (h1.rp fun _ z => by cases z)⟩⟩
    split at e
    · rename_i hz
      cases e
      refine op_repX pins s σ H _ _ v u Q I rx ry ⟨p, j, xs, rfl, rfl, q1, .inr ⟨fun z => ?_, hz.2.2, hz.2.1, fun l hl => k.newT E .nil hl⟩⟩
      have := r1.n; rw [z] at this; exact hz.1 (List.eq_nil_of_length_eq_zero this.symm)
    split at e
    · rename_i hz
      cases e
      refine op_repT pins s σ H _ _ v u Q I rx ry ⟨p, j, xs, rfl, rfl, q1, fun z => ?_, hz.2.1, hz.2.2.1, by rw [r1.n]; exact hz.2.2.2, fun l hl => k.newT E (r1.rep _) hl⟩
      have := r1.n; rw [z] at this; exact hz.1 (List.eq_nil_of_length_eq_zero this.symm)
    · cases e
  · rename_i a j
    have h1 := h1.str; have h2 := h2.int; subst h1 h2
    split at e
    · rename_i hz
      cases e
      obtain ⟨t, rfl⟩ := rx
      obtain ⟨t', rfl⟩ := ry
      have hmz : MulOk a j := by
        refine ⟨?_, fun _ _ => ?_, fun _ _ => ?_⟩
        · have e1 : ¬ j < -(2 ^ 63 : Int) := by omega
          have e2 : ¬ j ≥ 2 ^ 63 := by omega
          rw [decide_eq_false e1, decide_eq_false e2]; rfl
        · rw [hz.2.2]
          have : (1 : Int) ≤ (2 ^ 63 - 1) / j := by
            rw [Int.le_ediv_iff_mul_le (by omega)]
            omega
          omega
        · rw [hz.2.2]
          show decide (1 * j.toNat > sizeLine) = false
          rw [sizeLine_eq]
          exact decide_eq_false (by omega)
      exact SB.mul hmz fun t' tk => ⟨.str (Txt.mul a j), H, I.tok _, ⟨_, rfl⟩, k.dat E (.str _)⟩
    · cases e
theorem int_ok {op : Operator} {c : Int → Int → Bool} {C : Int → Int → Prop} {g : Int → Int → Int} (h : OpR X (binaryOp op) (rI C fun i j => .int (g i j))) (hc : ∀ i j, c i j = true → C i j) : OpR X (binaryOp op) (rOf X (intD c g)) := by
  intro pins s σ H x y v u Q I rx ry q
  obtain ⟨F, env, σ', d, d', sl, E, h1, h2, e, k⟩ := q
  unfold intD at e
  split at e <;> first | cases e | skip
  rename_i i j
  have h1 := h1.int; have h2 := h2.int; subst h1 h2
  split at e
  · rename_i hz
    cases e
    exact h pins s σ H _ _ v u Q I rx ry ⟨i, j, rfl, rfl, hc _ _ hz, k.dat E (.int _)⟩
  · cases e
theorem rI_of {f : Value → Value → Sem Value} {g : Int → Int → V} (h : OpR X f (rI0 g)) : OpR X f (rI (fun _ _ => True) g) :=
  OpR.mono h fun x y H Q q => by obtain ⟨i, j, e1, e2, _, q⟩ := q; exact ⟨i, j, e1, e2, q⟩
def boA : BO → Operator
  | .add => .Add | .sub => .Sub | .mul => .Mult | .fdiv => .FloorDiv | .mod => .Mod | .pow => .Pow | .shl => .LShift | .shr => .RShift | .band => .BitAnd
theorem bin_ok : ∀ o : BO, OpR X (binaryOp (boA o)) (rOf X (opD o))
  | .add => add_ok
  | .sub => int_ok (rI_of op_sub) fun _ _ _ => trivial
  | .mul => mul_ok
  | .fdiv => int_ok op_fdivW fun i j h => show CDivW i j from of_decide_eq_true (p := 0 < j ∧ j.natAbs.log2 < 9000) h
  | .mod => int_ok op_mod fun _ _ h => of_decide_eq_true h
  | .pow => int_ok op_powW fun i j h => show CPowW i j from of_decide_eq_true (p := (0 ≤ j ∧ j ≤ 1000000 ∧ i.natAbs < 2 ^ 64) ∨ (0 ≤ j ∧ j ≤ 4 ∧ i.natAbs.log2 < 20000)) h
  | .shl => int_ok op_shlW fun i j h => by
    have h := of_decide_eq_true (p := 0 ≤ j ∧ j ≤ 1000000 ∧ i.natAbs.log2 < 1000000) h
    refine ⟨h.1, ?_⟩
    have : Builtin.Int.intBits i ≤ i.natAbs.log2 + 1 := by unfold Builtin.Int.intBits; split <;> omega
    omega
  | .shr => int_ok op_shr fun _ _ h => of_decide_eq_true h
  | .band => int_ok (rI_of op_and) fun _ _ _ => trivial


/-! comparisons -/
def rB (X : Cx) (f : PyData → PyData → Option Bool) : R2 := fun x y H Q => ∃ F d d' b, Sub F H ∧ Vw X.K F H x d ∧ Vw X.K F H y d' ∧ f d d' = some b ∧ Q (.bl b) H
theorem rB_op2 {f : PyData → PyData → Option Bool} : Op2 X (rB X f) (fun d e => bo (f d e)) := fun F H env σ x y d d' sl Q E h1 h2 e k => by
  replace e : (f d d').map (fun b => Sl.fz (.bool b)) = some sl := e
  rw [Option.map_eq_some_iff] at e
  obtain ⟨b, e, rfl⟩ := e
  exact ⟨F, d, d', b, E.sub, h1, h2, e, k.dat E (.bl b)⟩
theorem relD_ok {op : CmpOp} {c : Int → Int → Bool} (h : OpR X (compareOp op) (rI0 fun i j => .bl (c i j))) : OpR X (compareOp op) (rB X (relD c)) := by
  intro pins s σ H x y v u Q I rx ry q
  obtain ⟨F, d, d', b, S, h1, h2, e, k⟩ := q
  unfold relD at e
  split at e <;> first | cases e | skip
  rename_i i j
  have h1 := h1.int; have h2 := h2.int; subst h1 h2
  exact h pins s σ H _ _ v u Q I rx ry ⟨i, j, rfl, rfl, k⟩
theorem intsD_map : ∀ (ds : List PyData) {ns : List Int}, intsD ds = some ns → ds = ns.map .int
  | [], _, h => by cases h; rfl
  | d :: r, ns, h => by
    cases d <;> first | cases h | skip
    rename_i i
    replace h : (intsD r).map (i :: ·) = some ns := h
    rw [Option.map_eq_some_iff] at h
    obtain ⟨z, h, rfl⟩ := h
    have := intsD_map r h
    rw [this]; rfl
theorem strsD_map : ∀ (ds : List PyData) {ns : List Str}, strsD ds = some ns → ds = ns.map .str
  | [], _, h => by cases h; rfl
  | d :: r, ns, h => by
    cases d <;> first | cases h | skip
    rename_i i
    replace h : (strsD r).map (i :: ·) = some ns := h
    rw [Option.map_eq_some_iff] at h
    obtain ⟨z, h, rfl⟩ := h
    have := strsD_map r h
    rw [this]; rfl
theorem lt_ok (hu : X.A.units < cLine) : OpR X (compareOp .Lt) (rB X ltD) := by
  intro pins s σ H x y v u Q I rx ry q
  obtain ⟨F, d, d', b, S, h1, h2, e, k⟩ := q
  unfold ltD at e
  split at e <;> first | cases e | skip
  · rename_i i j
    have h1 := h1.int; have h2 := h2.int; subst h1 h2
    exact op_lt pins s σ H _ _ v u Q I rx ry ⟨i, j, rfl, rfl, k⟩
  · rename_i xs ys
    rw [Option.bind_eq_some_iff] at e
    obtain ⟨ns, e1, e⟩ := e
    rw [Option.map_eq_some_iff] at e
    obtain ⟨ms, e2, rfl⟩ := e
    obtain ⟨p, xs, rfl, q1, r1⟩ := h1.tup S
    obtain ⟨p', ys, rfl, q2, r2⟩ := h2.tup S
    rw [intsD_map _ e1] at r1
    rw [intsD_map _ e2] at r2
    rw [r1.ints] at q1
    rw [r2.ints] at q2
    exact op_ltT hu pins s σ H _ _ v u Q I rx ry ⟨p, p', ns, ms, rfl, rfl, q1, q2, k⟩

/-- two lists of unlike lengths -/
theorem ne_len {pins : List (Addr × Obj)} {s : Shared} {σ : L2.St} {H : Hp} {a b : Addr} {xs ys : List V} (I : Inv X pins σ H s) (h1 : SqL X.K H a xs) (h2 : SqL X.K H b ys) (hn : xs.length ≠ ys.length) (hu : X.A.units < cLine) {Q E : Value → Shared → Prop} (q : Q (.bool false) s) :
    wpAny (model X.prog X.w) X.A (compareOp .Eq (.ref a) (.ref b)) Q E s := by
  obtain ⟨its, r1, p1, _⟩ := I.list h1
  obtain ⟨jts, r2, p2, _⟩ := I.list h2
  obtain ⟨⟨c1, d1, e1, s1⟩, n1, o1, k1, k2, k3⟩ := p1
  obtain ⟨⟨c2, d2, e2, s2⟩, n2, o2, m1, m2, m3⟩ := p2
  simp only at k1 k2 k3 m1 m2 m3
  subst k1 k2 k3 m1 m2 m3
  have g1 := r1.length
  have g2 := r2.length
  have hc : (its.toArray.size != jts.toArray.size) = true := by
    rw [List.size_toArray, List.size_toArray, ← g1, ← g2]
    simpa using hn
  have ta : s.TypeIs (.ref a) "list" := ⟨_, o1, rfl⟩
  have tb : s.TypeIs (.ref b) "list" := ⟨_, o2, rfl⟩
  exact wpAny_richCompare_same_room (op := .Eq) ta tb F.slot_list_eq (call_meets F.slot_list_eq ta F.entry_list_eq (F.args_list_eq_2 _ _) (SeqAt.list_eq_lengthsAt a b its.toArray jts.toArray n1 n2 none none s1 s2 hc)
    ⟨o1, o2, show Value.bool false ≠ Value.notImplemented ∧ Q (.bool false) s from ⟨(fun x => nomatch x), q⟩⟩) hu
theorem ne_lenN {pins : List (Addr × Obj)} {s : Shared} {σ : L2.St} {H : Hp} {a b : Addr} {xs ys : List V} (I : Inv X pins σ H s) (h1 : SqL X.K H a xs) (h2 : SqL X.K H b ys) (hn : xs.length ≠ ys.length) (hu : X.A.units < cLine) {Q E : Value → Shared → Prop} (q : Q (.bool true) s) :
    wpAny (model X.prog X.w) X.A (compareOp .NotEq (.ref a) (.ref b)) Q E s := by
  obtain ⟨its, r1, p1, _⟩ := I.list h1
  obtain ⟨jts, r2, p2, _⟩ := I.list h2
  obtain ⟨⟨c1, d1, e1, s1⟩, n1, o1, k1, k2, k3⟩ := p1
  obtain ⟨⟨c2, d2, e2, s2⟩, n2, o2, m1, m2, m3⟩ := p2
  simp only at k1 k2 k3 m1 m2 m3
  subst k1 k2 k3 m1 m2 m3
  have g1 := r1.length
  have g2 := r2.length
  have hc : (its.toArray.size != jts.toArray.size) = true := by
    rw [List.size_toArray, List.size_toArray, ← g1, ← g2]
    simpa using hn
  have ta : s.TypeIs (.ref a) "list" := ⟨_, o1, rfl⟩
  have tb : s.TypeIs (.ref b) "list" := ⟨_, o2, rfl⟩
  exact wpAny_richCompare_same_room (op := .NotEq) ta tb F.slot_list_ne (call_meets F.slot_list_ne ta F.entry_list_ne (F.args_list_ne_2 _ _) (SeqAt.list_ne_lengthsAt a b its.toArray jts.toArray n1 n2 none none s1 s2 hc)
    ⟨o1, o2, show Value.bool true ≠ Value.notImplemented ∧ Q (.bool true) s from ⟨(fun x => nomatch x), q⟩⟩) hu
theorem emp_all {xs ys : List V} {us ws : List Value} (r1 : Vals xs us) (r2 : Vals ys ws) (h : (xs.isEmpty || ys.isEmpty) = true) {e : Nat → Bool} : ((List.range (min us.toArray.size ws.toArray.size)).all e && us.toArray.size == ws.toArray.size) = (xs.isEmpty && ys.isEmpty) := by
  cases r1 <;> cases r2 <;> first | rfl | (exfalso; exact Bool.false_ne_true h) | skip
  all_goals simp
theorem emp_no {xs ys : List V} {us ws : List Value} (r1 : Vals xs us) (r2 : Vals ys ws) (h : (xs.isEmpty || ys.isEmpty) = true) {j : Nat} (h1 : j < us.toArray.size) (h2 : j < ws.toArray.size) : False := by
  cases r1 with
  | nil => exact absurd h1 (by simp)
  | cons _ _ =>
    cases r2 with
    | nil => exact absurd h2 (by simp)
    | cons _ _ => exact Bool.false_ne_true h
theorem emp_of {F : Hp} {xs : List V} {ds : List PyData} (r : RpA X.K F xs ds) : xs.isEmpty = ds.isEmpty := by
  have := r.n
  cases xs <;> cases ds <;> first | rfl | simp at this
theorem dp_of {F H : Hp} {x : V} {d : PyData} (S : Sub F H) (h : Vw X.K F H x d) (c : SeqAt.shaped d = true) : Dp X.K H x d := Rp.dp d x (SeqAt.canLay_of_shaped c) (h.all S)
theorem eq_ok (hu : X.A.units + 64 < cLine) : OpR X (compareOp .Eq) (rB X eqD) := by
  intro pins s σ H x y v u Q I rx ry q
  obtain ⟨F, d, d', b, S, h1, h2, e, k⟩ := q
  unfold eqD at e
  split at e
  · rename_i hs
    cases e
    rw [Bool.and_eq_true] at hs
    exact op_eqD hu pins s σ H x y v u Q I rx ry ⟨d, d', dp_of S h1 hs.1, dp_of S h2 hs.2, hs.1, hs.2, k⟩
  · split at e
    · split at e <;> first | cases e | skip
      rename_i as bs hn
      obtain ⟨p, xs, rfl, q1, r1⟩ := h1.list S
      obtain ⟨p', ys, rfl, q2, r2⟩ := h2.list S
      cases rx
      cases ry
      exact ne_len I q1 q2 (by rw [r1.n, r2.n]; exact hn) (by omega) ⟨.bl false, H, I, rfl, k⟩
    · rename_i as bs _ _ _
      split at e
      · rename_i hemp
        cases e
        obtain ⟨p, xs, rfl, q1, r1⟩ := h1.tup S
        obtain ⟨p', ys, rfl, q2, r2⟩ := h2.tup S
        cases rx
        cases ry
        obtain ⟨its, v1, t1, _⟩ := I.tuple q1
        obtain ⟨jts, v2, t2, _⟩ := I.tuple q2
        have he : (xs.isEmpty || ys.isEmpty) = true := by rw [emp_of r1, emp_of r2]; exact hemp
        refine SeqAt.eq_tupleAt (e := fun _ => true) t1 t2 (by omega) (fun j g1 g2 => (emp_no v1 v2 he g1 g2).elim) ?_
        rw [emp_all v1 v2 he, emp_of r1, emp_of r2]
        exact ⟨.bl _, H, I, rfl, k⟩
      · cases e
    · cases e
      obtain rfl := h1.str
      obtain rfl := h2.str
      have k' := k
      exact op_eq pins s σ H _ _ v u Q I rx ry ⟨rfl, by simpa using k⟩
    · cases e
theorem neq_ok (hu : X.A.units + 64 < cLine) : OpR X (compareOp .NotEq) (rB X fun d e => (eqD d e).map (!·)) := by
  intro pins s σ H x y v u Q I rx ry q
  obtain ⟨F, d, d', b, S, h1, h2, e, k⟩ := q
  rw [Option.map_eq_some_iff] at e
  obtain ⟨b', e, rfl⟩ := e
  unfold eqD at e
  split at e
  · rename_i hs
    cases e
    rw [Bool.and_eq_true] at hs
    exact op_neD hu pins s σ H x y v u Q I rx ry ⟨d, d', dp_of S h1 hs.1, dp_of S h2 hs.2, hs.1, hs.2, k⟩
  · split at e
    · split at e <;> first | cases e | skip
      rename_i as bs hn
      obtain ⟨p, xs, rfl, q1, r1⟩ := h1.list S
      obtain ⟨p', ys, rfl, q2, r2⟩ := h2.list S
      cases rx
      cases ry
      exact ne_lenN I q1 q2 (by rw [r1.n, r2.n]; exact hn) (by omega) ⟨.bl true, H, I, rfl, k⟩
    · rename_i as bs _ _ _
      split at e
      · rename_i hemp
        cases e
        obtain ⟨p, xs, rfl, q1, r1⟩ := h1.tup S
        obtain ⟨p', ys, rfl, q2, r2⟩ := h2.tup S
        cases rx
        cases ry
        obtain ⟨its, v1, t1, _⟩ := I.tuple q1
        obtain ⟨jts, v2, t2, _⟩ := I.tuple q2
        have he : (xs.isEmpty || ys.isEmpty) = true := by rw [emp_of r1, emp_of r2]; exact hemp
        refine SeqAt.RcNeAt.tuples (e := fun _ => true) t1 t2 (by omega) (fun j g1 g2 => (emp_no v1 v2 he g1 g2).elim) X.prog X.w X.xe _ ?_
        rw [emp_all v1 v2 he, emp_of r1, emp_of r2]
        exact ⟨.bl _, H, I, rfl, k⟩
      · cases e
    · cases e
      obtain rfl := h1.str
      obtain rfl := h2.str
      exact op_ne pins s σ H _ _ v u Q I rx ry ⟨rfl, by simpa using k⟩
    · cases e
end
end Vl
set_option maxHeartbeats 2000000
namespace Vl
open PySem PySem.Spec PyProof.Rows L2
section
variable {X : Cx} {pins : List (Addr × Obj)} {σ : L2.St} {H : Hp} {s : Shared}
/-! the library's readings -/
theorem dic_reads (I : Inv X pins σ H s) {a : Addr} (hd : H a = some (.dK [])) : Reads s.heap (.ref a) (.dict []) [a] ∧ a ≠ sysModules := by
  obtain ⟨_, hy, vs, rv, o, es, ep, h1, h2, h3, h4, h5, _⟩ := (show ObjOk X.prog X.w H s.heap a (.dK []) from I.hok a _ hd)
  have e0 : vs = [] := by
    cases rv
    rfl
  subst e0
  have e1 : es.toList = [] := by
    generalize es.toList = l at h5
    cases h5
    rfl
  have q : Reads s.heap (.ref a) (.dict []) (a :: [] ++ []) := Reads.dict h1 h2.1 h3 (by rw [e1]; exact .nil) (by rw [e1]; exact .nil)
  exact ⟨q, by rintro rfl; simp at hy⟩
theorem flat_reads (I : Inv X pins σ H s) : ∀ (ds : List PyData) (xs : List V) (us : List Value), RpA X.K H xs ds → Vals xs us →
    (ds.all fun x => match x with | .dict [] => true | x => flatD x) = true → ∃ as, ReadsAll s.heap us ds as ∧ sysModules ∉ as
  | [], xs, us, h, r, _ => by
    cases r with
    | nil => exact ⟨_, .nil, by simp⟩
    | cons _ _ => have := h.n; simp at this
  | d :: ds, xs, us, h, r, c => by
    cases r with
    | nil => have := h.n; simp at this
    | @cons _ u0 _ _ r1 r2 =>
      rw [List.all_cons, Bool.and_eq_true] at c
      obtain ⟨bs, q2, z2⟩ := flat_reads I ds _ _ h.tail r2 c.2
      have q1 : ∃ as, Reads s.heap u0 d as ∧ sysModules ∉ as := by
        have hd := h.head
        cases hd with
        | non => cases r1; exact ⟨_, Reads.none, by simp⟩
        | bl b => cases r1; exact ⟨_, Reads.bool b, by simp⟩
        | int i => obtain ⟨t, rfl⟩ := r1; exact ⟨_, Reads.int i t, by simp⟩
        | str x => obtain ⟨t, rfl⟩ := r1; exact ⟨_, Reads.str x t, by simp⟩
        | lst _ _ _ => exact absurd c.1 (by simp [flatD])
        | tup _ _ _ => exact absurd c.1 (by simp [flatD])
        | dic q => cases r1; obtain ⟨g1, g2⟩ := dic_reads I q; exact ⟨_, g1, by simpa using g2.symm⟩
        | exc _ _ => exact absurd c.1 (by simp [flatD])
      obtain ⟨as, q1, z1⟩ := q1
      exact ⟨_, .cons q1 q2, by simp only [List.mem_append, not_or]; exact ⟨z1, z2⟩⟩
theorem Rp.reads (I : Inv X pins σ H s) {d : PyData} {v : V} {u : Value} (h : Rp X.K H v d) (r : RelV v u) (c : repOk d = true) : ∃ as, Reads s.heap u d as ∧ (d.hasDict = true → sysModules ∉ as) := by
  unfold repOk at c
  rw [Bool.or_eq_true] at c
  rcases c with c | c
  · obtain ⟨as, q⟩ := Dp.reads I d v u (h.dp d v c) r
    exact ⟨as, q, fun z => by rw [PyData.hasDict_of_canLay d c] at z; cases z⟩
  · cases h <;> first | cases c | skip
    · rename_i a xs ds hs n e
      cases r
      obtain ⟨its, rv, ⟨o, h1, h2, k, h3⟩, _⟩ := I.tuple hs
      obtain ⟨as, q, z⟩ := flat_reads I ds _ its ⟨n, e⟩ rv c
      exact ⟨_, Reads.tuple h1 h2 h3 q, fun _ => z⟩
    · rename_i a q
      cases r
      obtain ⟨g1, g2⟩ := dic_reads I q
      exact ⟨_, g1, fun _ => by simpa using g2.symm⟩

/-- repr -/
theorem repr_of_str {A : Around} {E : Value → Shared → Prop} {P : Program} {w : World} {x : Str} {t : Tok} {Q : Value → Shared → Prop} (h : Q (.str (reprText x) s.toks) { s with toks := s.toks + 1 }) (hx : (reprText x).length ≤ sizeLine) : wpAny (model P w) A (call (.builtin "repr") [.str x t]) Q E s :=
  call_repr_gives (typeIs_str s x t) F.slot_str_repr F.entry_str_repr (F.args_str_repr_1 _) (gives_str_repr x t) h (hx := hx)
def repD (d : PyData) : Option Sl := b1D .rep d
theorem rep_ok (hg : X.A.guards = some []) (hu : X.A.units + 66 < cLine) : CallR X (.builtin "repr") (fun vs H Q => ∃ x, vs = [x] ∧ uOf X (b1D .rep) x H Q) := by
  intro pins s σ H xs us Q I r h
  obtain ⟨x, rfl, F, env, σ', d, sl, E, h1, e, k⟩ := h
  obtain ⟨u, rfl, rx⟩ := vals1 r
  have e : (if (d.showable && repOk d && decide (d.depth ≤ 64) && decide (d.shown.length ≤ line)) = true then some (Sl.fz (.str d.shown)) else none) = some sl := by
    unfold b1D at e
    cases d <;> exact e
  split at e
  · rename_i hc
    cases e
    rw [Bool.and_eq_true, Bool.and_eq_true, Bool.and_eq_true] at hc
    obtain ⟨⟨⟨c1, c2⟩, c3⟩, c4⟩ := hc
    have c3 := of_decide_eq_true c3
    have c4 := of_decide_eq_true c4
    rw [← line_eq] at c4
    have h2 := h1.all E.sub
    have fin : ∀ h' tk t, (∀ b o, s.heap.get? b = some o → h'.get? b = some o) → EP X pins σ Q (.str d.shown t) { s with heap := h', toks := tk } := fun h' tk t hk => ⟨.str d.shown, H, I.kept hk, ⟨_, rfl⟩, k.dat E (.str _)⟩
    obtain ⟨as, q, z⟩ := h2.reads I rx c2
    cases q with
    | none => exact PySem.P.repr_of_none (fin _ _ _ fun _ _ h => h)
    | bool b => exact PySem.P.repr_of_bool (fin _ _ _ fun _ _ h => h)
    | int i t => exact PySem.P.repr_of_int (by simpa [PyData.showable] using c1) (fin _ _ _ fun _ _ h => h)
    | str x t => exact repr_of_str (fin _ _ _ fun _ _ h => h) c4
    | list a1 a2 a3 a4 => exact repr_of_reads' (.list a1 a2 a3 a4) c1 z hg (by omega) (fun _ _ h => h) (fun h' u tk hk => fin h' tk u hk) c4
    | tuple a1 a2 a3 a4 => exact repr_of_reads' (.tuple a1 a2 a3 a4) c1 z hg (by omega) (fun _ _ h => h) (fun h' u tk hk => fin h' tk u hk) c4
    | dict a1 a2 a3 a4 a5 => exact repr_of_reads' (.dict a1 a2 a3 a4 a5) c1 z hg (by omega) (fun _ _ h => h) (fun h' u tk hk => fin h' tk u hk) c4
  · cases e
end
end Vl
set_option maxHeartbeats 2000000
namespace Vl
open PySem PySem.Spec PyProof.Rows L2
section
variable {X : Cx} {pins : List (Addr × Obj)} {σ : L2.St} {H : Hp} {s : Shared}

/-! in -/
theorem flat_V {K : PySem.W.Frag} {F : Hp} {v : V} {d : PyData} (h : Rp K F v d) (f : flatD d = true) : flatV v = true := by
  cases h <;> first | rfl | exact absurd f (by simp [flatD])
theorem flat_eqv {K : PySem.W.Frag} {F : Hp} {x y : V} {d e : PyData} (hy : Rp K F y e) (hx : Rp K F x d) (fy : flatD e = true) (fx : flatD d = true) : eqV y x = PyData.eqv e d := by
  cases hy <;> cases hx <;> first | (simp [eqV, PyData.eqv]; done) | exact absurd fy (by simp [flatD]) | exact absurd fx (by simp [flatD])
theorem flat_all {K : PySem.W.Frag} {F : Hp} : ∀ {xs : List V} {ds : List PyData}, RpA K F xs ds → ds.all flatD = true → xs.all flatV = true
  | [], [], _, _ => rfl
  | [], _ :: _, h, _ => by have := h.n; simp at this
  | _ :: _, [], h, _ => by have := h.n; simp at this
  | v :: xs, d :: ds, h, f => by
    rw [List.all_cons, Bool.and_eq_true] at f ⊢
    exact ⟨flat_V h.head f.1, flat_all h.tail f.2⟩
theorem flat_any {K : PySem.W.Frag} {F : Hp} {x : V} {d : PyData} (hx : Rp K F x d) (fx : flatD d = true) : ∀ {xs : List V} {ds : List PyData}, RpA K F xs ds → ds.all flatD = true → inV x xs = ds.any fun y => PyData.eqv y d
  | [], [], _, _ => rfl
  | [], _ :: _, h, _ => by have := h.n; simp at this
  | _ :: _, [], h, _ => by have := h.n; simp at this
  | v :: xs, e :: ds, h, f => by
    rw [List.all_cons, Bool.and_eq_true] at f
    have ih := flat_any hx fx h.tail f.2
    unfold inV at ih ⊢
    rw [List.any_cons, List.any_cons, ih, flat_eqv h.head hx f.1 fx]
theorem flat_ne {d : PyData} (f : flatD d = true) : ∀ ds, d ≠ .list ds := fun ds e => by subst e; cases f
theorem in_core {F : Hp} {x y : V} {d d' : PyData} {b : Bool} (S : Sub F H) (h1 : Vw X.K F H x d) (h2 : Vw X.K F H y d') (e : inD d d' = some b) :
    ∃ p xs, y = .ref p ∧ (SqL X.K H p xs ∨ SqT X.K H p xs) ∧ flatV x = true ∧ xs.all flatV = true ∧ inV x xs = b := by
  unfold inD at e
  rw [Option.bind_eq_some_iff] at e
  obtain ⟨zs, e1, e⟩ := e
  split at e
  · rename_i hc
    cases e
    rw [Bool.and_eq_true] at hc
    have hx := h1.rp (flat_ne hc.1)
    unfold seqD at e1
    split at e1 <;> first | cases e1 | skip
    · obtain ⟨p, xs, rfl, q, r⟩ := h2.list S
      exact ⟨p, xs, rfl, .inl q, flat_V hx hc.1, flat_all r hc.2, flat_any hx hc.1 r hc.2⟩
    · obtain ⟨p, xs, rfl, q, r⟩ := h2.tup S
      exact ⟨p, xs, rfl, .inr q, flat_V hx hc.1, flat_all r hc.2, flat_any hx hc.1 r hc.2⟩
  · cases e
theorem in_ok : OpR X (compareOp .In) (rB X inD) := by
  intro pins s σ H x y v u Q I rx ry q
  obtain ⟨F, d, d', b, S, h1, h2, e, k⟩ := q
  obtain ⟨p, xs, rfl, q, f1, f2, rfl⟩ := in_core S h1 h2 e
  exact op_in_seq pins s σ H _ _ v u Q I rx ry ⟨p, xs, rfl, q, f1, f2, k⟩
theorem nin_ok : OpR X (compareOp .NotIn) (rB X fun d e => (inD d e).map (!·)) := by
  intro pins s σ H x y v u Q I rx ry q
  obtain ⟨F, d, d', b, S, h1, h2, e, k⟩ := q
  rw [Option.map_eq_some_iff] at e
  obtain ⟨b, e, rfl⟩ := e
  obtain ⟨p, xs, rfl, q, f1, f2, rfl⟩ := in_core S h1 h2 e
  exact op_notIn_seq pins s σ H _ _ v u Q I rx ry ⟨p, xs, rfl, q, f1, f2, k⟩
def coA : CO → CmpOp
  | .lt => .Lt | .le => .LtE | .gt => .Gt | .ge => .GtE | .eq => .Eq | .ne => .NotEq | .inn => .In | .nin => .NotIn
theorem cmp_ok (hu : X.A.units + 64 < cLine) : ∀ o : CO, OpR X (compareOp (coA o)) (rB X (cmpD o))
  | .lt => lt_ok (by omega)
  | .le => relD_ok op_le
  | .gt => relD_ok op_gt
  | .ge => relD_ok op_ge
  | .eq => eq_ok hu
  | .ne => neq_ok hu
  | .inn => in_ok
  | .nin => nin_ok

/-! items -/
def rIxD (X : Cx) : R2 := fun x y H Q => ∃ F d d' e, Sub F H ∧ Vw X.K F H x d ∧ Vw X.K F H y d' ∧ ixD d d' = some e ∧ ∀ v, Rp X.K F v e → Q v H
theorem ix_op2 : Op2 X (rIxD X) (fun d e => (ixD d e).map .fz) := fun F H env σ x y d d' sl Q E h1 h2 e k => by
  replace e : (ixD d d').map Sl.fz = some sl := e
  rw [Option.map_eq_some_iff] at e
  obtain ⟨b, e, rfl⟩ := e
  exact ⟨F, d, d', b, E.sub, h1, h2, e, fun v r => k.dat E r⟩
theorem atI_rp {K : PySem.W.Frag} {F : Hp} {xs : List V} {ds : List PyData} {i : Int} {e : PyData} (r : RpA K F xs ds) (h : atI ds i = some e) : ∃ v, atI xs i = some v ∧ Rp K F v e := by
  unfold atI at h ⊢
  rw [Option.bind_eq_some_iff] at h
  obtain ⟨j, e1, e2⟩ := h
  obtain ⟨v, e3, q⟩ := r.get e2
  refine ⟨v, ?_, q⟩
  rw [r.n, e1]
  exact e3
theorem ix_ok : IxR X (rIxD X) := by
  intro value slice pins s σ H x y v u Q I rx ry h hsub
  obtain ⟨F, d, d', e, S, h1, h2, q, k⟩ := h
  unfold ixD at q
  split at q <;> first | cases q | skip
  rename_i i
  have h2 := h2.int
  subst h2
  rw [Option.bind_eq_some_iff] at q
  obtain ⟨zs, q1, q2⟩ := q
  unfold seqD at q1
  split at q1 <;> first | cases q1 | skip
  · obtain ⟨p, xs, rfl, g, r⟩ := h1.list S
    obtain ⟨w, e1, e2⟩ := atI_rp r q2
    exact ix_list value slice pins s σ H _ _ v u Q I rx ry ⟨p, xs, i, w, rfl, rfl, g, e1, k w e2⟩ hsub
  · obtain ⟨p, xs, rfl, g, r⟩ := h1.tup S
    obtain ⟨w, e1, e2⟩ := atI_rp r q2
    exact ix_tup value slice pins s σ H _ _ v u Q I rx ry ⟨p, xs, i, w, rfl, rfl, g, e1, k w e2⟩ hsub
end
end Vl
set_option maxHeartbeats 2000000
namespace Vl
open PySem PySem.Spec PyProof.Rows L2
section
variable {X : Cx} {pins : List (Addr × Obj)} {σ : L2.St} {H : Hp} {s : Shared}
def cOf (X : Cx) (f : PyData → Option Sl) : List V → Hp → VK → Prop := fun vs H Q => ∃ x, vs = [x] ∧ uOf X f x H Q
theorem len_ok : CallR X (.builtin "len") (cOf X (b1D .len)) := by
  intro pins s σ H xs us Q I r h
  obtain ⟨x, rfl, F, env, σ', d, sl, E, h1, e, k⟩ := h
  cases d <;> first | cases e | skip
  · rename_i z
    have h1 := h1.str; subst h1
    replace e : (if z.length ≤ line then some (Sl.fz (.int z.length)) else none) = some sl := e
    split at e
    · rename_i hz
      cases e
      exact call_len_str pins s σ H _ us Q I r ⟨z, rfl, by rw [line_eq]; exact hz, k.dat E (.int _)⟩
    · cases e
  · rename_i a
    obtain ⟨p, xs, rfl, g, r1⟩ := h1.list E.sub
    exact call_len_seq pins s σ H _ us Q I r ⟨p, xs, rfl, .inl g, by rw [r1.n]; exact k.dat E (.int _)⟩
  · rename_i a
    obtain ⟨p, xs, rfl, g, r1⟩ := h1.tup E.sub
    exact call_len_seq pins s σ H _ us Q I r ⟨p, xs, rfl, .inr g, by rw [r1.n]; exact k.dat E (.int _)⟩
theorem tuple_ok : CallR X (.type "tuple") (cOf X (b1D .tuple)) := by
  intro pins s σ H xs us Q I r h
  obtain ⟨x, rfl, F, env, σ', d, sl, E, h1, e, k⟩ := h
  cases d <;> first | cases e | skip
  · obtain ⟨p, xs, rfl, g, r1⟩ := h1.list E.sub
    exact call_tuple_of pins s σ H _ us Q I r ⟨p, xs, rfl, .inl ⟨g, fun l hl => k.newT E r1 hl⟩⟩
  · have h2 := h1
    obtain ⟨p, xs, rfl, g, r1⟩ := h1.tup E.sub
    exact call_tuple_of pins s σ H _ us Q I r ⟨p, xs, rfl, .inr ⟨g, k.dat E (h2.rp (fun _ z => by cases z))⟩⟩
theorem list_ok : CallR X (.type "list") (cOf X (b1D .list)) := by
  intro pins s σ H xs us Q I r h
  obtain ⟨x, rfl, F, env, σ', d, sl, E, h1, e, k⟩ := h
  cases d <;> first | cases e | skip
  · obtain ⟨p, xs, rfl, g, r1⟩ := h1.list E.sub
    exact call_list_of pins s σ H _ us Q I r ⟨p, xs, rfl, .inl g, fun l hl => k.newL E r1 hl⟩
  · obtain ⟨p, xs, rfl, g, r1⟩ := h1.tup E.sub
    exact call_list_of pins s σ H _ us Q I r ⟨p, xs, rfl, .inr g, fun l hl => k.newL E r1 hl⟩
theorem str_ok : CallR X (.type "str") (cOf X (b1D .str)) := by
  intro pins s σ H xs us Q I r h
  obtain ⟨x, rfl, F, env, σ', d, sl, E, h1, e, k⟩ := h
  cases d <;> first | cases e | skip
  rename_i i
  have h1 := h1.int; subst h1
  replace e : (if i.natAbs.log2 < 1920 then some (Sl.fz (.str (toString i))) else none) = some sl := e
  split at e
  · rename_i hz
    cases e
    exact call_str_int pins s σ H _ us Q I r ⟨i, rfl, hz, k.dat E (.str _)⟩
  · cases e
theorem int_okc : CallR X (.type "int") (cOf X (b1D .int)) := by
  intro pins s σ H xs us Q I r h
  obtain ⟨x, rfl, F, env, σ', d, sl, E, h1, e, k⟩ := h
  cases d <;> first | cases e | skip
  · rename_i b
    have h1 := h1.bl; subst h1
    exact call_int1 pins s σ H _ us Q I r (.inr ⟨b, rfl, k.dat E (.int _)⟩)
  · rename_i i
    have h1 := h1.int; subst h1
    exact call_int1 pins s σ H _ us Q I r (.inl ⟨i, rfl, k.dat E (.int _)⟩)

/-! sum, min, max of ints, in a list or a tuple -/
theorem ints_reads {h : Heap} : ∀ {us : List Value} {ns : List Int}, IntsAre us ns → ∃ as, ReadsAll h us (ns.map .int) as
  | _, _, .nil => ⟨_, .nil⟩
  | _, _, .cons n t r => by
    obtain ⟨as, q⟩ := ints_reads (h := h) r
    exact ⟨_, .cons (.int n t) q⟩
theorem alike_ints (n : Int) (ns : List Int) : PySem.W.AlikeAll (PyData.int n :: ns.map .int) := by
  have q : ∀ x ∈ (PyData.int n :: ns.map .int), ∃ i, x = .int i := fun x hx => by
    rcases List.mem_cons.mp hx with rfl | hx
    · exact ⟨_, rfl⟩
    · obtain ⟨i, _, rfl⟩ := List.mem_map.mp hx
      exact ⟨i, rfl⟩
  refine ⟨fun x hx y hy => ?_, fun x hx z => ?_⟩
  · obtain ⟨i, rfl⟩ := q x hx
    obtain ⟨j, rfl⟩ := q y hy
    rfl
  · obtain ⟨i, rfl⟩ := q x hx
    cases z
theorem depth_ints : ∀ ns : List Int, PyData.depthAll (ns.map .int) = 0
  | [] => by simp [PyData.depthAll]
  | n :: ns => by simp [PyData.depthAll, PyData.depth, depth_ints ns]
theorem preSum_ints : ∀ (ns : List Int) (k : Nat), k ≤ ns.length → preSum (fun i => ns.getD i 0) k = (ns.take k).sum
  | ns, 0, _ => by simp [preSum]
  | ns, k + 1, h => by
    have ih := preSum_ints ns k (by omega)
    have hk : k < ns.length := by omega
    rw [List.take_add_one, List.sum_append, ← ih, List.getElem?_eq_getElem hk]
    simp [preSum, hk]
theorem ints_at : ∀ {us : List Value} {ns : List Int}, IntsAre us ns → ∀ (i : Nat) (v : Value), us[i]? = some v → ∃ n t, ns[i]? = some n ∧ v = .int n t
  | _, _, .nil, i, v, h => by simp at h
  | _, _, .cons n t r, 0, v, h => by simp at h; exact ⟨n, t, rfl, h.symm⟩
  | _, _, .cons n t r, i + 1, v, h => by
    obtain ⟨m, u, e, q⟩ := ints_at r i v (by simpa using h)
    exact ⟨m, u, by simpa using e, q⟩
theorem insI_perm (x : Int) : ∀ l : List Int, (insI x l).Perm (x :: l)
  | [] => .refl _
  | y :: r => by
    unfold insI
    split
    · exact .refl _
    · exact ((insI_perm x r).cons y).trans (.swap _ _ _)
theorem srtI_perm : ∀ l : List Int, (srtI l).Perm l
  | [] => .refl _
  | x :: r => (insI_perm x (srtI r)).trans ((srtI_perm r).cons x)
theorem insI_sorted (x : Int) : ∀ l : List Int, l.Pairwise (· ≤ ·) → (insI x l).Pairwise (· ≤ ·)
  | [], _ => by unfold insI; exact List.pairwise_singleton _ _
  | y :: r, h => by
    rw [List.pairwise_cons] at h
    unfold insI
    split
    · rename_i hx
      rw [List.pairwise_cons, List.pairwise_cons]
      exact ⟨fun z hz => (List.mem_cons.mp hz).elim (fun e => by rw [e]; exact hx) fun hz => Int.le_trans hx (h.1 z hz), h.1, h.2⟩
    · rename_i hx
      rw [List.pairwise_cons]
      refine ⟨fun z hz => ?_, insI_sorted x r h.2⟩
      rcases List.mem_cons.mp ((insI_perm x r).mem_iff.mp hz) with rfl | hz
      · omega
      · exact h.1 z hz
theorem srtI_sorted : ∀ l : List Int, (srtI l).Pairwise (· ≤ ·)
  | [] => List.Pairwise.nil
  | x :: r => insI_sorted x _ (srtI_sorted r)
theorem srtI_only {l m : List Int} (hp : m.Perm l) (hs : m.Pairwise (· ≤ ·)) : m = srtI l :=
  List.Perm.eq_of_pairwise (fun a b _ _ h1 h2 => Int.le_antisymm h1 h2) hs (srtI_sorted l) (hp.trans (srtI_perm l).symm)
theorem sorted_okc : CallR X (.builtin "sorted") (cOf X (b1D .sorted)) := by
  intro pins s σ H xs us Q I r h
  obtain ⟨x, rfl, F, env, σ', d, sl, E, h1, e, k⟩ := h
  cases d <;> first | cases e | skip
  rename_i a
  obtain ⟨p, xs, rfl, g, r1⟩ := h1.list E.sub
  replace e : ((intsD a).bind fun ns => if ns.length < 64 then some (Sl.ol ((srtI ns).map .int)) else none) = some sl := e
  rw [Option.bind_eq_some_iff] at e
  obtain ⟨ns, e1, e⟩ := e
  split at e
  · rename_i hz
    cases e
    rw [intsD_map _ e1] at r1
    rw [r1.ints] at g
    refine cr_sorted pins s σ H _ us Q I r ⟨p, ns, rfl, g, hz, fun ns' q hp hs hq => ?_⟩
    have e2 := srtI_only hp hs
    subst e2
    refine k.newL E (xs := (srtI ns).map V.int) ⟨by simp, fun i v d e1 e2 => ?_⟩ hq
    rw [List.getElem?_map] at e1 e2
    cases z : (srtI ns)[i]? with
    | none => rw [z] at e1; cases e1
    | some y => rw [z] at e1 e2; cases e1; cases e2; exact .int y
  · cases e
theorem sum_ok (hc : X.calm = true) : CallR X (.builtin "sum") (cOf X (b1D .sum)) := by
  intro pins s σ H xs us Q I r h
  obtain ⟨x, rfl, F, env, σ', d, sl, E, h1, e, k⟩ := h
  cases d <;> first | cases e | skip
  · rename_i a
    obtain ⟨p, xs, rfl, g, r1⟩ := h1.list E.sub
    replace e : (intsD a).map (fun ns => Sl.fz (.int ns.sum)) = some sl := e
    rw [Option.map_eq_some_iff] at e
    obtain ⟨ns, e, rfl⟩ := e
    rw [intsD_map _ e] at r1
    rw [r1.ints] at g
    exact cr_sum hc pins s σ H _ us Q I r ⟨p, ns, rfl, g, k.dat E (.int _)⟩
  · rename_i a
    obtain ⟨p, xs, rfl, g, r1⟩ := h1.tup E.sub
    replace e : (intsD a).map (fun ns => Sl.fz (.int ns.sum)) = some sl := e
    rw [Option.map_eq_some_iff] at e
    obtain ⟨ns, e, rfl⟩ := e
    rw [intsD_map _ e] at r1
    rw [r1.ints] at g
    have eu := r.ref1
    subst eu
    obtain ⟨its, rv, pt, _⟩ := I.tuple g
    have hi := rv.ints
    have hl := hi.length
    have hh : X.A.in1.handled = none := I.ok.hd hc
    obtain ⟨o, o1, o2, m, o3⟩ := pt
    have ht : s.heap.IsTuple p its.toArray := ⟨o, o1, o2, m, o3⟩
    refine call_sum_walkAnyS (PySem.W.iter_tupleW (A := X.A.in1) hh ht fun s₂ e₂ Wk st hfp hw hk => ?_)
    refine ⟨_, _, _, _, _, _, _, (fun i => ns.getD i 0), rfl, Wk, st, hfp, fun i v hv => ?_, fun s' t' hm => ?_⟩
    · have hv : its.toArray[i]? = some v := hv
      have hv : its[i]? = some v := by simpa using hv
      obtain ⟨n, t, e1, rfl⟩ := ints_at hi i v hv
      exact ⟨t, by simp [e1]⟩
    · obtain ⟨h', tk, rfl, hk'⟩ := PySem.W.moved_old e₂ rfl hm
      have e3 : preSum (fun i => ns.getD i 0) its.toArray.size = ns.sum := by
        rw [List.size_toArray, hl, preSum_ints ns _ (Nat.le_refl _), List.take_of_length_le (Nat.le_refl _)]
      rw [e3]
      exact ⟨.int ns.sum, H, I.kept hk', ⟨_, rfl⟩, k.dat E (.int _)⟩
/-- min and max -/
theorem mm_ok {id : String} {f : List Int → Option Int} {op : Int → Int → Int} {mk : PyData → List PyData → PyData} (hc : X.calm = true) (hu : X.A.units + 64 < cLine)
    (hf : ∀ (n : Int) (ns : List Int), f (n :: ns) = some (ns.foldl op n)) (h0 : f [] = none) (hmk : ∀ (n : Int) (ns : List Int), mk (.int n) (ns.map .int) = .int (ns.foldl op n))
    (ruleL : ∀ {s : Shared} {l : Addr} {vs : Array Value} {x : PyData} {xs : List PyData} {as : List Addr} {Q E : Value → Shared → Prop}, s.heap.IsList l vs → ReadsAll s.heap vs.toList (x :: xs) as → PySem.W.AlikeAll (x :: xs) → X.A.units + 1 + PyData.depthAll (x :: xs) < cLine →
      (∀ (i : Nat) v h' tk bs, vs[i]? = some v → Reads h' v (mk x xs) bs → (∀ b o, s.heap.get? b = some o → h'.get? b = some o) → Q v { s with heap := h', toks := tk }) → wpAny (model X.prog X.w) X.A (call (.builtin id) [.ref l]) Q E s)
    (ruleT : ∀ {s : Shared} {l : Addr} {vs : Array Value} {x : PyData} {xs : List PyData} {as : List Addr} {Q E : Value → Shared → Prop}, s.heap.IsTuple l vs → ReadsAll s.heap vs.toList (x :: xs) as → PySem.W.AlikeAll (x :: xs) → X.A.units + 1 + PyData.depthAll (x :: xs) < cLine →
      (∀ (i : Nat) v h' tk bs, vs[i]? = some v → Reads h' v (mk x xs) bs → (∀ b o, s.heap.get? b = some o → h'.get? b = some o) → Q v { s with heap := h', toks := tk }) → wpAny (model X.prog X.w) X.A (call (.builtin id) [.ref l]) Q E s)
    {g : PyData → Option Sl} (hg : ∀ d sl, g d = some sl → ∃ a m, (d = .list a ∨ d = .tuple a) ∧ (intsD a).bind f = some m ∧ sl = .fz (.int m)) : CallR X (.builtin id) (cOf X g) := by
  intro pins s σ H xs us Q I r h
  obtain ⟨x, rfl, F, env, σ', d, sl, E, h1, e, k⟩ := h
  obtain ⟨a, m, hd, e2, rfl⟩ := hg d sl e
  replace e := e2
  clear e2
  rw [Option.bind_eq_some_iff] at e
  obtain ⟨ns, e1, e2⟩ := e
  cases ns with
  | nil => rw [h0] at e2; cases e2
  | cons n ns =>
    rw [hf] at e2
    cases e2
    have ea := intsD_map _ e1
    have fin : ∀ (i : Nat) (v : Value) h' tk bs, Reads h' v (mk (.int n) (ns.map .int)) bs → (∀ b o, s.heap.get? b = some o → h'.get? b = some o) → EP X pins σ Q v { s with heap := h', toks := tk } := fun i v h' tk bs hr hk => by
      rw [hmk] at hr
      cases hr
      exact ⟨.int _, H, I.kept hk, ⟨_, rfl⟩, k.dat E (.int _)⟩
    have hdp : PyData.depthAll (PyData.int n :: ns.map .int) = 0 := depth_ints (n :: ns)
    rcases hd with rfl | rfl
    · obtain ⟨p, xs, rfl, g, r1⟩ := h1.list E.sub
      rw [ea] at r1
      rw [r1.ints] at g
      have eu := r.ref1
      subst eu
      obtain ⟨its, rv, pt, _⟩ := I.list g
      obtain ⟨as, q⟩ := ints_reads (h := s.heap) rv.ints
      exact ruleL pt.isList (by simpa using q) (alike_ints n ns) (by rw [hdp]; omega) fun i v h' tk bs _ hr hk => fin i v h' tk bs hr hk
    · obtain ⟨p, xs, rfl, g, r1⟩ := h1.tup E.sub
      rw [ea] at r1
      rw [r1.ints] at g
      have eu := r.ref1
      subst eu
      obtain ⟨its, rv, pt, _⟩ := I.tuple g
      obtain ⟨as, q⟩ := ints_reads (h := s.heap) rv.ints
      obtain ⟨o, o1, o2, m, o3⟩ := pt
      exact ruleT ⟨o, o1, o2, m, o3⟩ (by simpa using q) (alike_ints n ns) (by rw [hdp]; omega) fun i v h' tk bs _ hr hk => fin i v h' tk bs hr hk
theorem min_okc (hc : X.calm = true) (hu : X.A.units + 64 < cLine) : CallR X (.builtin "min") (cOf X (b1D .min)) := by
  intro pins s σ H xs us Q I
  refine mm_ok (f := minL) (op := min) (mk := PySem.W.minD) hc hu (fun _ _ => rfl) rfl PySem.W.minD_ints (fun h1 h2 h3 h4 h5 => PySem.W.min_list_data (I.ok.hd hc) h1 h2 h3 h4 h5) (fun h1 h2 h3 h4 h5 => PySem.W.min_tuple_data (I.ok.hd hc) h1 h2 h3 h4 h5) (fun d sl e => ?_) pins s σ H xs us Q I
  cases d <;> first | cases e | skip
  · rename_i a
    replace e : ((intsD a).bind minL).map (fun n => Sl.fz (.int n)) = some sl := e
    rw [Option.map_eq_some_iff] at e
    obtain ⟨m, e, rfl⟩ := e
    exact ⟨a, m, .inl rfl, e, rfl⟩
  · rename_i a
    replace e : ((intsD a).bind minL).map (fun n => Sl.fz (.int n)) = some sl := e
    rw [Option.map_eq_some_iff] at e
    obtain ⟨m, e, rfl⟩ := e
    exact ⟨a, m, .inr rfl, e, rfl⟩
theorem max_okc (hc : X.calm = true) (hu : X.A.units + 64 < cLine) : CallR X (.builtin "max") (cOf X (b1D .max)) := by
  intro pins s σ H xs us Q I
  refine mm_ok (f := maxL) (op := max) (mk := PySem.W.maxD) hc hu (fun _ _ => rfl) rfl PySem.W.maxD_ints (fun h1 h2 h3 h4 h5 => PySem.W.max_list_data (I.ok.hd hc) h1 h2 h3 h4 h5) (fun h1 h2 h3 h4 h5 => PySem.W.max_tuple_data (I.ok.hd hc) h1 h2 h3 h4 h5) (fun d sl e => ?_) pins s σ H xs us Q I
  cases d <;> first | cases e | skip
  · rename_i a
    replace e : ((intsD a).bind maxL).map (fun n => Sl.fz (.int n)) = some sl := e
    rw [Option.map_eq_some_iff] at e
    obtain ⟨m, e, rfl⟩ := e
    exact ⟨a, m, .inl rfl, e, rfl⟩
  · rename_i a
    replace e : ((intsD a).bind maxL).map (fun n => Sl.fz (.int n)) = some sl := e
    rw [Option.map_eq_some_iff] at e
    obtain ⟨m, e, rfl⟩ := e
    exact ⟨a, m, .inr rfl, e, rfl⟩
/-- min(a, b), max(a, b) -/
def c2Of (X : Cx) (f : PyData → PyData → Option Sl) : List V → Hp → VK → Prop := fun vs H Q => ∃ x y, vs = [x, y] ∧ rOf X f x y H Q
theorem min2_ok (hc : X.calm = true) : CallR X (.builtin "min") (c2Of X (b2D .min)) := by
  intro pins s σ H xs us Q I r h
  obtain ⟨x, y, rfl, F, env, σ', d, d', sl, E, h1, h2, e, k⟩ := h
  cases d <;> first | cases e | skip
  cases d' <;> first | cases e | skip
  rename_i i j
  have h1 := h1.int; have h2 := h2.int; subst h1 h2
  exact call_min2 hc pins s σ H _ us Q I r ⟨i, j, rfl, k.dat E (.int _)⟩
theorem max2_ok (hc : X.calm = true) : CallR X (.builtin "max") (c2Of X (b2D .max)) := by
  intro pins s σ H xs us Q I r h
  obtain ⟨x, y, rfl, F, env, σ', d, d', sl, E, h1, h2, e, k⟩ := h
  cases d <;> first | cases e | skip
  cases d' <;> first | cases e | skip
  rename_i i j
  have h1 := h1.int; have h2 := h2.int; subst h1 h2
  exact call_max2 hc pins s σ H _ us Q I r ⟨i, j, rfl, k.dat E (.int _)⟩
end
end Vl
set_option maxHeartbeats 2000000
namespace Vl
open PySem PySem.Spec PyProof.Rows L2
section
variable {prog : Program} {w : World} {A : Around} {E : Value → Shared → Prop} {s : Shared}
/-- t[lo:hi] that is all of t -/
theorem tup_whole {t sl : Addr} {its : Array Value} {vl vu : Value} {lo hi : Option Int} {Q : Value → Shared → Prop} (ht : IsTup s.heap t its) (hs : s.heap.IsSliceOf sl vl vu .none)
    (pl : IsPart vl lo) (pu : IsPart vu hi) (hw : HT.sIx its.size 0 lo = 0 ∧ HT.sIx its.size its.size hi = its.size) (h : Q (.ref t) s) : wpAny (model prog w) A (getItem (.ref t) (.ref sl)) Q E s := by
  obtain ⟨os, hos, hcs, hds⟩ := id hs
  have kind : s.TypeIs (.ref sl) "slice" := ⟨os, hos, hcs⟩
  unfold getItem
  try with_reducible refine wpAny_holding ?_
  first | refine wpAny_bind (wpAny_pure ?_) | skip
  refine wpAny_bind (wpAny_sequenceKey ht.typeIs (by decide) ?_)
  refine wpAny_bind (wpAny_callSpecial?_slot (name := Str.ofString "__getitem__") ht.typeIs PyProof.Rows.slot_tuple_getitem (wpAny_call_entry PyProof.Rows.slot_tuple_getitem ht.typeIs entry_tuple_getitem ?_ (args_tuple_getitem _ _)))
  show wpAny _ _ (Builtin.Tuple.tupleItemsOf (.ref t) >>= _) _ _ s
  refine wpAny_bind (tupleItemsOf_ ht (wpAny_bind (wpAny_typeOf kind ?_)))
  rw [if_pos (by decide)]
  refine wpAny_bind (HT.sliceApplied_gen hs pl pu ?_)
  have yes : (((HT.sIx its.size 0 lo : Nat) : Int) == 0 && (1 : Int) == 1 && (HT.sIx its.size its.size hi - HT.sIx its.size 0 lo) == its.size) = true := by
    rw [hw.1, hw.2]; simp
  show wpAny _ _ (if (((HT.sIx its.size 0 lo : Nat) : Int) == 0 && (1 : Int) == 1 && (HT.sIx its.size its.size hi - HT.sIx its.size 0 lo) == its.size) = true then _ else _) _ _ s
  rw [if_pos yes]
  have ex : ∀ {Q : Bool → Shared → Prop}, Q true s → wpAny (model prog w) A.in1 (Builtin.Tuple.tupleIsExact (.ref t)) Q E s := fun q => wpAny_bind (wpAny_typeOf ht.typeIs (wpAny_pure q))
  refine wpAny_bind (ex ?_)
  rw [if_pos rfl]
  first
    | exact wpAny_bind (wpAny_rule (wpAny_pure ⟨_, rfl, wpAny_pure h⟩))
    | exact wpAny_bind (wpAny_rule (wpAny_bind (wpAny_pure (wpAny_pure ⟨_, rfl, wpAny_pure h⟩))))
    | exact wpAny_bind (wpAny_rule (wpAny_pure (wpAny_pure ⟨_, rfl, wpAny_pure h⟩)))
theorem fm_congr {α β : Type} {f g : α → Option β} : ∀ {l : List α}, (∀ x ∈ l, f x = g x) → l.filterMap f = l.filterMap g
  | [], _ => rfl
  | x :: l, h => by
    have h1 := h x List.mem_cons_self
    have h2 := fm_congr (l := l) fun y hy => h y (List.mem_cons_of_mem _ hy)
    rw [List.filterMap_cons, List.filterMap_cons, h1, h2]
/-- t[::-1] -/
theorem rev_pick (its : Array Value) : ((List.range its.size).filterMap fun (k : Nat) => its[(((its.size : Int) - 1) + (k : Int) * (-1)).toNat]?) = its.toList.reverse := by
  have e : ((List.range its.size).filterMap fun (k : Nat) => its[(((its.size : Int) - 1) + (k : Int) * (-1)).toNat]?) = ((List.range its.size).map fun k => its.size - 1 - k).filterMap (its[·]?) := by
    rw [List.filterMap_map]
    refine fm_congr fun k hk => ?_
    have := List.mem_range.mp hk
    show _ = its[its.size - 1 - k]?
    congr 1
    omega
  rw [e, PySem.W.krv_range, List.filterMap_reverse, PySem.W.krv_all]
theorem tup_rev {t sl : Addr} {its : Array Value} {u : Tok} {Q : Value → Shared → Prop} (ht : IsTup s.heap t its) (hs : s.heap.IsSliceOf sl .none .none (.int (-1) u)) (hz : its.size ≤ sizeLine)
    (h : Q (.ref s.heap.objs.size) { s with heap := s.heap.push { cls := .type "tuple", data := .seq its.toList.reverse.toArray } }) : wpAny (model prog w) A (getItem (.ref t) (.ref sl)) Q E s := by
  obtain ⟨os, hos, hcs, hds⟩ := id hs
  have kind : s.TypeIs (.ref sl) "slice" := ⟨os, hos, hcs⟩
  have fit : sizeOk (.seq its.toList.reverse.toArray) := by
    show its.toList.reverse.toArray.size ≤ sizeLine
    rw [List.size_toArray, List.length_reverse, Array.length_toList]
    exact hz
  unfold getItem
  try with_reducible refine wpAny_holding ?_
  first | refine wpAny_bind (wpAny_pure ?_) | skip
  refine wpAny_bind (wpAny_sequenceKey ht.typeIs (by decide) ?_)
  refine wpAny_bind (wpAny_callSpecial?_slot (name := Str.ofString "__getitem__") ht.typeIs PyProof.Rows.slot_tuple_getitem (wpAny_call_entry PyProof.Rows.slot_tuple_getitem ht.typeIs entry_tuple_getitem ?_ (args_tuple_getitem _ _)))
  show wpAny _ _ (Builtin.Tuple.tupleItemsOf (.ref t) >>= _) _ _ s
  refine wpAny_bind (tupleItemsOf_ ht (wpAny_bind (wpAny_typeOf kind ?_)))
  rw [if_pos (by decide)]
  have app : ∀ {Q : Int × Int × Nat → Shared → Prop}, Q (((its.size : Int) - 1), -1, its.size) s → wpAny (model prog w) A.in1 (Builtin.Slice.sliceApplied (.ref sl) (pure (its.size : Int))) Q E s := fun {Q} q => by
    unfold Builtin.Slice.sliceApplied Builtin.Slice.sliceFields
    refine wpAny_bind (wpAny_bind (wpAny_field hos hds (x := .none) rfl (wpAny_bind (wpAny_field hos hds (x := .none) rfl (wpAny_bind (wpAny_field hos hds (x := .int (-1) u) rfl (wpAny_pure ?_)))))))
    refine wpAny_bind (slicePart_int ?_)
    show wpAny _ _ (if ((-1 : Int) == 0) = true then _ else _) _ _ s
    rw [if_neg (by decide)]
    refine wpAny_bind (slicePart_none (wpAny_bind (slicePart_none (wpAny_bind (wpAny_pure ?_)))))
    have e1 : Builtin.Slice.sliceAdjust none none (-1) (its.size : Int) = ((its.size : Int) - 1, -1) := rfl
    have e2 : Builtin.Slice.slicePlaces ((its.size : Int) - 1) (-1) (-1) = its.size := by
      unfold Builtin.Slice.slicePlaces
      rw [if_neg (by decide)]
      by_cases hn : (its.size : Int) - 1 > -1
      · rw [if_pos hn]
        have : ((its.size : Int) - 1 - -1 - 1) / (- -1) + 1 = (its.size : Int) := by
          rw [show (- -1 : Int) = 1 by decide, Int.ediv_one]; omega
        rw [this]; rfl
      · rw [if_neg hn]; omega
    show wpAny _ _ (pure ((Builtin.Slice.sliceAdjust none none (-1) (its.size : Int)).1, (-1 : Int), Builtin.Slice.slicePlaces (Builtin.Slice.sliceAdjust none none (-1) (its.size : Int)).1 (Builtin.Slice.sliceAdjust none none (-1) (its.size : Int)).2 (-1))) _ _ s
    rw [e1, e2]
    exact wpAny_pure q
  refine wpAny_bind (app ?_)
  show wpAny _ _ (if ((((its.size : Int) - 1) == 0) && ((-1 : Int) == 1) && (its.size == its.size)) = true then _ else _) _ _ s
  rw [if_neg (by simp), rev_pick]
  first
    | exact wpAny_bind (m := Builtin.Tuple.tupleExact _) (wpAny_newObj_type (wpAny_pure ⟨_, rfl, wpAny_pure h⟩) fit)
    | exact wpAny_bind (m := Builtin.Tuple.tupleExact _) (wpAny_newObj_type (wpAny_bind (wpAny_pure (wpAny_pure ⟨_, rfl, wpAny_pure h⟩))) fit)
    | exact wpAny_bind (wpAny_bind (m := Builtin.Tuple.tupleExact _) (wpAny_newObj_type (wpAny_pure (wpAny_pure ⟨_, rfl, wpAny_pure h⟩)) fit))
    | exact wpAny_bind (wpAny_bind (m := Builtin.Tuple.tupleExact _) (wpAny_newObj_type (wpAny_pure ⟨_, rfl, wpAny_pure h⟩) fit))
end

section
variable {X : Cx} {pins : List (Addr × Obj)} {σ : L2.St} {H : Hp} {s : Shared}
def rSlD (X : Cx) : V → Option Int → Option Int → Hp → VK → Prop := fun x lo hi H Q => ∃ F env σ d sl, EnvOk X.K F H env σ ∧ Vw X.K F H x d ∧ slD d lo hi = some sl ∧ Kt X.K F H env σ env sl Q
theorem cut_rp {K : PySem.W.Frag} {F : Hp} {xs : List V} {ds : List PyData} (r : RpA K F xs ds) (lo hi : Option Int) : RpA K F (cutV xs lo hi) (cutD ds lo hi) := by
  unfold cutV cutD
  rw [r.n]
  exact (r.drop _).take _
theorem sl_ok : SlR X (rSlD X) := by
  intro pins s σ H x v vl vu lo hi sl Q I rx hs pl pu h
  obtain ⟨F, env, σ', d, t, E, h1, e, k⟩ := h
  unfold slD at e
  split at e <;> first | cases e | skip
  · obtain ⟨p, xs, rfl, g, r⟩ := h1.list E.sub
    exact sl_list pins s σ H _ v vl vu lo hi sl Q I rx hs pl pu ⟨p, xs, rfl, g, fun q hq => k.newL E (cut_rp r lo hi) hq⟩
  · rename_i ds
    have h2 := h1
    obtain ⟨p, xs, rfl, g, r⟩ := h1.tup E.sub
    by_cases hw : HT.sIx xs.length 0 lo = 0 ∧ HT.sIx xs.length xs.length hi = xs.length
    · cases rx
      obtain ⟨its, rv, ht, hz⟩ := I.tuple g
      have hl : its.toArray.size = xs.length := by rw [List.size_toArray]; exact rv.length.symm
      have ec : cutD ds lo hi = ds := by
        unfold cutD
        rw [← r.n, hw.1, hw.2, List.drop_zero, Nat.sub_zero, r.n]
        exact List.take_of_length_le (Nat.le_refl _)
      rw [ec] at k
      refine ⟨"tuple", _, PyProof.Rows.slot_tuple_getitem.lookup, ht.typeIs, tup_whole ht hs pl pu (by rw [hl]; exact hw) ⟨.ref p, H, I, rfl, k.dat E (h2.rp (fun _ z => by cases z))⟩⟩
    · exact sl_tup pins s σ H _ v vl vu lo hi sl Q I rx hs pl pu ⟨p, xs, rfl, g, hw, fun q hq => k.newT E (cut_rp r lo hi) hq⟩
  · have h1 := h1.str
    subst h1
    split at e
    · rename_i hz
      cases e
      exact sl_str pins s σ H _ v vl vu lo hi sl Q I rx hs pl pu ⟨_, rfl, hz, k.dat E (.str _)⟩
    · cases e

/-! kinds -/
theorem ty_of {F : Hp} {x : V} {d : PyData} (S : Sub F H) (h : Vw X.K F H x d) (hx : excD d = false) : TyX X.K H x (.type (tyD d)) := by
  have h := h.all S
  cases h with
  | exc _ _ => cases hx
  | non => exact .base .non
  | bl b => exact .base (.bl b)
  | int i => exact .base (.int i)
  | str x => exact .base (.str x)
  | lst q n e =>
    rcases q with (q | ⟨o, q⟩) | ⟨o, its, n, q1, q2, q3⟩
    · exact .base (.lst q)
    · exact .base (.frz q)
    · exact .kList q1 q2
  | tup q n e =>
    rcases q with (q | ⟨o, q⟩) | ⟨o, its, n, q1, q2, q3⟩
    · exact .base (.tup q)
    · exact .fTuple q
    · exact .kTuple q1 q2
  | dic q => exact .base (.dK q)
theorem isi_kit (d : PyData) (t : String) (b : Bool) (h : isiD t d = some b) : excD d = false ∧ kitB (tyD d) t = some b := by
  unfold isiD at h
  split at h
  · cases h
  rename_i hx
  refine ⟨by simpa using hx, ?_⟩
  clear hx
  rw [← h]
  have ht : t = "int" ∨ t = "bool" ∨ t = "tuple" ∨ t = "list" ∨ t = "str" := by
    unfold isiT at h
    split at h
    · exact .inl (by assumption)
    · split at h
      · exact .inr (by assumption)
      · cases h
  clear h
  rcases ht with rfl | rfl | rfl | rfl | rfl <;> cases d <;> (simp only [tyD]; decide +kernel)
theorem isi_ok (t : String) : CallR X (.builtin "isinstance") (fun vs H Q => ∃ x, vs = [x, .ty t] ∧ uOf X (fun d => bo (isiD t d)) x H Q) := by
  intro pins s σ H xs us Q I r h
  obtain ⟨x, rfl, F, env, σ', d, sl, E, h1, e, k⟩ := h
  replace e : (isiD t d).map (fun b => Sl.fz (.bool b)) = some sl := e
  rw [Option.map_eq_some_iff] at e
  obtain ⟨b, e, rfl⟩ := e
  obtain ⟨hx, e⟩ := isi_kit d t b e
  exact call_isi pins s σ H _ us Q I r ⟨x, .ty t, _, _, b, rfl, .ty t, ty_of E.sub h1 hx, kit_ty e, k.dat E (.bl b)⟩
/-- type(x) -/
theorem ty_ok : CallR X (.type "type") (fun vs H Q => ∃ x F d, vs = [x] ∧ Sub F H ∧ Vw X.K F H x d ∧ excD d = false ∧ Q (.ty (tyD d)) H) := by
  intro pins s σ H xs us Q I r h
  obtain ⟨x, F, d, rfl, S, h1, hx, k⟩ := h
  obtain ⟨u, rfl, rx⟩ := vals1 r
  have h2 := h1.all S
  have fin : EP X pins σ Q (.type (tyD d)) s := ⟨.ty (tyD d), H, I, rfl, k⟩
  cases h2 with
  | exc _ _ => cases hx
  | non => cases rx; exact call_type_of (Tx := "NoneType") rfl (by decide +kernel) fin
  | bl b => cases rx; exact call_type_of (Tx := "bool") rfl (by decide +kernel) fin
  | int i => obtain ⟨t, rfl⟩ := rx; exact call_type_of (Tx := "int") rfl (by decide +kernel) fin
  | str x => obtain ⟨t, rfl⟩ := rx; exact call_type_of (Tx := "str") rfl (by decide +kernel) fin
  | lst q n e =>
    cases rx
    obtain ⟨its, rv, ⟨o, m, o1, o2, _⟩, _⟩ := I.list q
    exact call_type_of (Tx := "list") ⟨o, o1, o2⟩ (by decide +kernel) fin
  | tup q n e =>
    cases rx
    obtain ⟨its, rv, ⟨o, o1, o2, _⟩, _⟩ := I.tuple q
    exact call_type_of (Tx := "tuple") ⟨o, o1, o2⟩ (by decide +kernel) fin
  | @dic a q =>
    cases rx
    obtain ⟨_, _, vs, _, o, es, ep, h1, h2, _⟩ := (show ObjOk X.prog X.w H s.heap a (.dK []) from I.hok a _ q)
    exact call_type_of (Tx := "dict") ⟨o, h1, h2.1⟩ (by decide +kernel) fin
end
end Vl
set_option maxHeartbeats 2000000
namespace Vl
open PySem PySem.Spec PyProof.Rows L2
section
variable {K : PySem.W.Frag} {F H F₀ H₀ : Hp} {env : Env'} {σ : L2.St} {O₀ : Addr → Prop} {sl : Sl} {v : V} {d : PyData}
/-- a list that was just made becomes a datum -/
theorem freezeT (E : EnvOk K F H env σ) (st : Step F₀ H₀ O₀ F H (Ow env σ)) (t : Tmp K F H (Ow env σ) H₀ O₀ sl v) (e : sl.item = some d) :
    ∃ F', EnvOk K F' H env σ ∧ Step F₀ H₀ O₀ F' H (Ow env σ) ∧ Sub F F' ∧ Rp K F' v d := by
  cases sl with
  | un => cases e
  | fz d' => cases e; exact ⟨F, E, st, fun _ _ h => h, t.ok⟩
  | ol ds =>
    cases e
    obtain ⟨a, xs, rfl, f, hh, r⟩ := t.ok
    have no := t.no a rfl
    refine ⟨upd F a (.lst xs), E.freeze hh f no, ⟨fun x u h => sub_upd f _ _ (st.fz _ _ h), st.keep, fun x h => ?_, st.own⟩, sub_upd f, .lst' (.inl (.inl upd_same)) (r.sub (sub_upd f))⟩
    by_cases z : x = a
    · subst z
      rcases t.fr x rfl with q | q
      · exact .inr (.inr q)
      · exact .inr (.inl q)
    · rw [upd_ne z] at h
      exact st.new x h
end
/-- arguments at hand -/
structure ArgsOk (K : PySem.W.Frag) (F H : Hp) (env : Env') (σ : L2.St) (H₀ : Hp) (O₀ : Addr → Prop) (as : List Arg) (vs : List V) : Prop where
  n : as.length = vs.length
  ok : ∀ (i : Nat) (a : Arg) (v : V), as[i]? = some a → vs[i]? = some v → ArgOk K F H env σ a v
  inj : ∀ (i j : Nat) (a b : Arg) (v w : V) (x : Addr), as[i]? = some a → as[j]? = some b → vs[i]? = some v → vs[j]? = some w → ownA a v x → ownA b w x → i = j
  fr : ∀ (i : Nat) (a : Arg) (v : V) (x : Addr), as[i]? = some a → vs[i]? = some v → ownA a v x → O₀ x ∨ H₀ x = none
def Ks (K : PySem.W.Frag) (F H : Hp) (env : Env') (σ : L2.St) (env' : Env') (as : List Arg) (Q : List V → Hp → Prop) : Prop :=
  ∀ vs F' H', EnvOk K F' H' env' σ → Step F H (Ow env σ) F' H' (Ow env' σ) → ArgsOk K F' H' env' σ H (Ow env σ) as vs → Q vs H'
def tAx (K : PySem.W.Frag) (exA : Str → Option Addr) (W : WX) (r : Env' → Res (List Arg × Env')) : TA := fun σ H Q => ∃ F env, EnvOk K F H env σ ∧ OnR (r env) (fun p => Ks K F H env σ p.2 p.1 Q) (Xk exA W F H (Ow env σ))
section
variable {K : PySem.W.Frag} {F H F1 H1 F2 H2 : Hp} {env env1 env2 : Env'} {σ : L2.St}
theorem ArgsOk.nil {H₀ : Hp} {O₀ : Addr → Prop} : ArgsOk K F H env σ H₀ O₀ [] [] := ⟨rfl, fun i a v h => by simp at h, fun i j a b v w x h => by simp at h, fun i a v x h => by simp at h⟩
theorem ArgsOk.cons {a : Arg} {v : V} {as : List Arg} {vs : List V} (st1 : Step F H (Ow env σ) F1 H1 (Ow env1 σ)) (st2 : Step F1 H1 (Ow env1 σ) F2 H2 (Ow env2 σ)) (h : ArgOk K F1 H1 env1 σ a v) (hf : ∀ x, ownA a v x → Ow env σ x ∨ H x = none)
    (t : ArgsOk K F2 H2 env2 σ H1 (Ow env1 σ) as vs) : ArgsOk K F2 H2 env2 σ H (Ow env σ) (a :: as) (v :: vs) := by
  have apart : ∀ x, ownA a v x → ¬ (Ow env1 σ x ∨ H1 x = none) := fun x o z => by
    cases a with
    | slot i => exact o
    | tmp sl =>
      obtain ⟨h1, h2⟩ := h
      rcases z with z | z
      · exact h2 x o z
      · obtain ⟨_, xs, e⟩ := h1.there o
        rw [e] at z; cases z
  have up : ∀ x, (Ow env1 σ x ∨ H1 x = none) → Ow env σ x ∨ H x = none := fun x z => by
    rcases z with z | z
    · exact st1.own x z
    · by_cases ho : Ow env σ x
      · exact .inl ho
      · cases e : H x with
        | none => exact .inr rfl
        | some u => rw [st1.keep x u e ho] at z; cases z
  refine ⟨by simp [t.n], fun i b w e1 e2 => ?_, fun i j b c w u x e1 e2 e3 e4 o1 o2 => ?_, fun i b w x e1 e2 o => ?_⟩
  · cases i with
    | zero => simp at e1 e2; subst e1 e2; exact h.stay st2
    | succ i => exact t.ok i b w (by simpa using e1) (by simpa using e2)
  · cases i with
    | zero =>
      simp at e1 e3; subst e1 e3
      cases j with
      | zero => rfl
      | succ j => exact absurd (t.fr j c u x (by simpa using e2) (by simpa using e4) o2) (apart x o1)
    | succ i =>
      cases j with
      | zero =>
        simp at e2 e4; subst e2 e4
        exact absurd (t.fr i b w x (by simpa using e1) (by simpa using e3) o1) (apart x o2)
      | succ j => exact congrArg (· + 1) (t.inj i j b c w u x (by simpa using e1) (by simpa using e2) (by simpa using e3) (by simpa using e4) o1 o2)
  · cases i with
    | zero => simp at e1 e2; subst e1 e2; exact hf x o
    | succ i => exact up x (t.fr i b w x (by simpa using e1) (by simpa using e2) o)
theorem items_rp {H₀ : Hp} {O₀ : Addr → Prop} : ∀ {as : List Arg} {vs : List V} {ds : List PyData}, ArgsOk K F H env σ H₀ O₀ as vs → itemsOf as = some ds → RpA K F vs ds
  | [], vs, ds, h, e => by
    cases e
    have := h.n
    cases vs with
    | nil => exact .nil
    | cons _ _ => simp at this
  | .slot i :: as, vs, ds, h, e => by cases e
  | .tmp sl :: as, vs, ds, h, e => by
    cases sl with
    | un => cases e
    | ol _ => cases e
    | fz d =>
      replace e : (itemsOf as).map (d :: ·) = some ds := e
      rw [Option.map_eq_some_iff] at e
      obtain ⟨es, e, rfl⟩ := e
      cases vs with
      | nil => have := h.n; simp at this
      | cons v vs =>
        have h1 : ArgOk K F H env σ (.tmp (.fz d)) v := h.ok 0 _ v rfl rfl
        have h2 : ArgsOk K F H env σ H₀ O₀ as vs := ⟨by have := h.n; simpa using this, fun i a w e1 e2 => h.ok (i + 1) a w (by simpa using e1) (by simpa using e2),
          fun i j a b w u x e1 e2 e3 e4 o1 o2 => Nat.succ.inj (h.inj (i + 1) (j + 1) a b w u x (by simpa using e1) (by simpa using e2) (by simpa using e3) (by simpa using e4) o1 o2),
          fun i a w x e1 e2 o => h.fr (i + 1) a w x (by simpa using e1) (by simpa using e2) o⟩
        exact .cons h1.1 (items_rp h2 e)
end
section
variable {X : Cx} {exA : Str → Option Addr} {W : WX} {e : Expr} {es : List Expr} {pos : Pos}
theorem pa_nilx {Φ : Nat → Fn} : PA X [] (tAx X.K exA W (dA Φ .nil)) := by
  refine PA.imp pa_nil fun σ H Q q => ?_
  obtain ⟨F, env, E, q⟩ := q
  have q : Ks X.K F H env σ env [] Q := q
  exact q [] F H E (Step.refl _ _ _) .nil
theorem pa_consx {r : Env' → Res (Sl × Env')} {r' : Env' → Res (List Arg × Env')} (he : PE X e (tEx X.K exA W r)) (hs : PA X es (tAx X.K exA W r')) (hst : starEach (e :: es) X.env = (false, eval e X.env) :: starEach es X.env) :
    PA X (e :: es) (tAx X.K exA W fun env => (r env).bind fun p => (Res.of p.1.item).bind fun d => (r' p.2).bind fun q => .ok (.tmp (.fz d) :: q.1, q.2)) := by
  refine PA.imp (pa_cons he hs hst) fun σ H Q q => ?_
  obtain ⟨F, env, E, q⟩ := q
  refine ⟨F, env, E, q.bind.mono (fun p _ h => ?_) fun _ x => x⟩
  intro v F1 H1 E1 s1 t1
  obtain ⟨d, e1, h⟩ := h.bind.of
  obtain ⟨F', E2, s2, su, rp⟩ := freezeT E1 s1 t1 e1
  refine ⟨F', p.2, E2, h.bind.mono (fun p2 _ h2 => ?_) fun _ x => x.after s2⟩
  intro vs F2 H2 E3 s3 a3
  exact h2 (v :: vs) F2 H2 E3 (s2.trans s3) (.cons s2 s3 ⟨rp, fun _ z => z.elim⟩ (fun _ z => z.elim) a3)
theorem pa_consO {c : CE} {r : Env' → Res (Sl × Env')} {r' : Env' → Res (List Arg × Env')} (he : PE X e (tOx X.K exA W c r)) (hs : PA X es (tAx X.K exA W r')) (hst : starEach (e :: es) X.env = (false, eval e X.env) :: starEach es X.env) :
    PA X (e :: es) (tAx X.K exA W fun env => (opnd c r env).bind fun p => (r' p.2).bind fun q => .ok (p.1 :: q.1, q.2)) := by
  refine PA.imp (pa_cons he hs hst) fun σ H Q q => ?_
  obtain ⟨F, env, E, q⟩ := q
  refine ⟨F, env, E, q.bind.mono (fun p _ h => ?_) fun _ x => x⟩
  intro v F1 H1 E1 s1 m1 f1
  refine ⟨F1, p.2, E1, h.bind.mono (fun p2 _ h2 => ?_) fun _ x => x.after s1⟩
  intro vs F2 H2 E2 s2 a2
  exact h2 (v :: vs) F2 H2 E2 (s1.trans s2) (.cons s1 s2 m1 f1 a2)
/-- displays -/
theorem pe_lstx {r : Env' → Res (List Arg × Env')} (h : PA X es (tAx X.K exA W r)) : PE X (.List es pos) (tEx X.K exA W fun env => (r env).bind fun p => (Res.of (itemsOf p.1)).bind fun xs => (Res.of (fitL xs)).bind fun xs => .ok (.ol xs, p.2)) := by
  refine PE.imp (pe_lst h) fun σ H Q q => ?_
  obtain ⟨F, env, E, q⟩ := q
  refine ⟨F, env, E, q.bind.mono (fun p _ h => ?_) fun _ x => x⟩
  intro vs F1 H1 E1 s1 a1
  obtain ⟨ds, e1, h⟩ := h.bind.of
  obtain ⟨ds', e2, h3⟩ := h.bind.of
  clear h
  obtain ⟨rfl, hz⟩ := fitL_some e2
  have r1 := items_rp a1 e1
  exact ⟨by rw [r1.n, line_eq]; exact hz, fun q hq => (Kt.after h3 s1).newL E1 r1 hq⟩
theorem pe_tupx {k : Nat} {r : Env' → Res (List Arg × Env')} (h : PA X es (tAx X.K exA W r)) : PE X (.Tuple es k pos) (tEx X.K exA W fun env => (r env).bind fun p => (Res.of (itemsOf p.1)).bind fun xs => (Res.of (fitL xs)).bind fun xs => .ok (.fz (.tuple xs), p.2)) := by
  refine PE.imp (pe_tup h) fun σ H Q q => ?_
  obtain ⟨F, env, E, q⟩ := q
  refine ⟨F, env, E, q.bind.mono (fun p _ h => ?_) fun _ x => x⟩
  intro vs F1 H1 E1 s1 a1
  obtain ⟨ds, e1, h⟩ := h.bind.of
  obtain ⟨ds', e2, h3⟩ := h.bind.of
  clear h
  obtain ⟨rfl, hz⟩ := fitL_some e2
  have r1 := items_rp a1 e1
  exact ⟨by rw [r1.n, line_eq]; exact hz, fun q hq => (Kt.after h3 s1).newT E1 r1 hq⟩
end
end Vl
set_option maxHeartbeats 2000000
namespace Vl
open PySem PySem.Spec PyProof.Rows L2

theorem argsOf_get {env : Env'} : ∀ {as : List Arg} {sls : List Sl}, argsOf as env = some sls → sls.length = as.length ∧ ∀ (i : Nat) (a : Arg), as[i]? = some a → ∃ sl, sls[i]? = some sl ∧
    (match a with | .tmp t => sl = t | .slot j => ∃ ds, env[j]? = some (.ol ds) ∧ sl = .ol ds)
  | [], sls, h => by cases h; exact ⟨rfl, fun i a e => by simp at e⟩
  | .tmp t :: as, sls, h => by
    replace h : (argsOf as env).map (t :: ·) = some sls := h
    rw [Option.map_eq_some_iff] at h
    obtain ⟨r, h, rfl⟩ := h
    obtain ⟨h1, h2⟩ := argsOf_get h
    refine ⟨by simp [h1], fun i a e => ?_⟩
    cases i with
    | zero => simp at e; subst e; exact ⟨t, rfl, rfl⟩
    | succ i => exact h2 i a (by simpa using e)
  | .slot j :: as, sls, h => by
    replace h : (match env[j]? with | some (.ol ds) => (argsOf as env).map (Sl.ol ds :: ·) | _ => none) = some sls := h
    cases q : env[j]? with
    | none => rw [q] at h; cases h
    | some t =>
      rw [q] at h
      cases t with
      | un => cases h
      | fz _ => cases h
      | ol ds =>
        replace h : (argsOf as env).map (Sl.ol ds :: ·) = some sls := h
        rw [Option.map_eq_some_iff] at h
        obtain ⟨r, h, rfl⟩ := h
        obtain ⟨h1, h2⟩ := argsOf_get h
        refine ⟨by simp [h1], fun i a e => ?_⟩
        cases i with
        | zero => simp at e; subst e; exact ⟨_, rfl, ds, q, rfl⟩
        | succ i => exact h2 i a (by simpa using e)
theorem mem_slots : ∀ {as : List Arg} {j : Nat}, j ∈ slotsOf as ↔ ∃ i : Nat, as[i]? = some (.slot j)
  | [], j => by simp [slotsOf]
  | .tmp t :: as, j => by
    show j ∈ slotsOf as ↔ _
    rw [mem_slots]
    constructor
    · rintro ⟨i, h⟩; exact ⟨i + 1, by simpa using h⟩
    · rintro ⟨i, h⟩
      cases i with
      | zero => simp at h
      | succ i => exact ⟨i, by simpa using h⟩
  | .slot k :: as, j => by
    show j ∈ k :: slotsOf as ↔ _
    rw [List.mem_cons, mem_slots]
    constructor
    · rintro (rfl | ⟨i, h⟩)
      · exact ⟨0, rfl⟩
      · exact ⟨i + 1, by simpa using h⟩
    · rintro ⟨i, h⟩
      cases i with
      | zero => simp at h; exact .inl h.symm
      | succ i => exact .inr ⟨i, by simpa using h⟩
theorem putBack_get : ∀ {as : List Arg} {outs : List Sl} {env : Env'}, as.length = outs.length → (slotsOf as).Nodup → (putBack as outs env).length = env.length ∧ ∀ j : Nat, j < env.length →
    ((∃ (i : Nat) (o : Sl), as[i]? = some (.slot j) ∧ outs[i]? = some o ∧ (putBack as outs env)[j]? = some o) ∨ ((∀ i : Nat, as[i]? ≠ some (.slot j)) ∧ (putBack as outs env)[j]? = env[j]?))
  | [], outs, env, _, _ => ⟨rfl, fun j _ => .inr ⟨fun i h => by simp at h, rfl⟩⟩
  | .tmp t :: as, [], env, h, _ => by simp at h
  | .tmp t :: as, o :: outs, env, h, n => by
    obtain ⟨h1, h2⟩ := putBack_get (as := as) (outs := outs) (env := env) (by simpa using h) n
    refine ⟨h1, fun j hj => ?_⟩
    rcases h2 j hj with ⟨i, p, e1, e2, e3⟩ | ⟨e1, e2⟩
    · exact .inl ⟨i + 1, p, by simpa using e1, by simpa using e2, e3⟩
    · refine .inr ⟨fun i e => ?_, e2⟩
      cases i with
      | zero => simp at e
      | succ i => exact e1 i (by simpa using e)
  | .slot k :: as, [], env, h, _ => by simp at h
  | .slot k :: as, o :: outs, env, h, n => by
    have n : (k :: slotsOf as).Nodup := n
    obtain ⟨n1, n2⟩ := List.nodup_cons.mp n
    obtain ⟨h1, h2⟩ := putBack_get (as := as) (outs := outs) (env := env.set k o) (by simpa using h) n2
    rw [List.length_set] at h1 h2
    refine ⟨h1, fun j hj => ?_⟩
    rcases h2 j hj with ⟨i, p, e1, e2, e3⟩ | ⟨e1, e2⟩
    · exact .inl ⟨i + 1, p, by simpa using e1, by simpa using e2, e3⟩
    · by_cases hk : j = k
      · subst hk
        refine .inl ⟨0, o, rfl, rfl, ?_⟩
        show (putBack as outs (env.set j o))[j]? = some o
        rw [e2, List.getElem?_set_self hj]
      · refine .inr ⟨fun i e => ?_, ?_⟩
        · cases i with
          | zero => simp at e; exact hk e.symm
          | succ i => exact e1 i (by simpa using e)
        · show (putBack as outs (env.set k o))[j]? = env[j]?
          rw [e2, List.getElem?_set_ne (Ne.symm hk)]

theorem getVs {vs : List V} {i : Nat} {v : V} : (vs.map some)[i]? = some (some v) ↔ vs[i]? = some v := by
  rw [List.getElem?_map]
  cases vs[i]? with
  | none => simp
  | some w => simp

section
variable {K : PySem.W.Frag} {F H F₀ H₀ F' H' : Hp} {env : Env'} {σ : L2.St} {O₀ : Addr → Prop} {as : List Arg} {vs : List V} {sls outs : List Sl}
theorem callOf_some (h : callOf as env = some sls) : (slotsOf as).Nodup ∧ argsOf as env = some sls := by
  unfold callOf at h
  split at h
  · exact ⟨by assumption, h⟩
  · cases h
/-- the same slot is handed over once -/
theorem slot_once : ∀ {as : List Arg}, (slotsOf as).Nodup → ∀ {i j k : Nat}, as[i]? = some (.slot k) → as[j]? = some (.slot k) → i = j
  | [], _, i, j, k, h, _ => by simp at h
  | .tmp t :: as, n, i, j, k, h1, h2 => by
    cases i with
    | zero => simp at h1
    | succ i =>
      cases j with
      | zero => simp at h2
      | succ j => exact congrArg (· + 1) (slot_once (as := as) n (by simpa using h1) (by simpa using h2))
  | .slot q :: as, n, i, j, k, h1, h2 => by
    obtain ⟨n1, n2⟩ := List.nodup_cons.mp (show (q :: slotsOf as).Nodup from n)
    cases i with
    | zero =>
      cases j with
      | zero => rfl
      | succ j =>
        simp at h1 h2; subst h1
        exact absurd (mem_slots.mpr ⟨j, h2⟩) n1
    | succ i =>
      cases j with
      | zero =>
        simp at h1 h2; subst h2
        exact absurd (mem_slots.mpr ⟨i, h1⟩) n1
      | succ j => exact congrArg (· + 1) (slot_once (as := as) n2 (by simpa using h1) (by simpa using h2))
/-- who owns what of the arguments -/
theorem args_own (A : ArgsOk K F H env σ H₀ O₀ as vs) (c : callOf as env = some sls) {i : Nat} {sl : Sl} {v : V} {x : Addr} (e1 : sls[i]? = some sl) (e2 : vs[i]? = some v) (o : own sl v x) :
    (∃ t, as[i]? = some (.tmp t) ∧ ownA (.tmp t) v x) ∨ ∃ j ds, as[i]? = some (.slot j) ∧ env[j]? = some (.ol ds) ∧ σ[j]? = some (some v) ∧ own (.ol ds) v x := by
  obtain ⟨nd, c⟩ := callOf_some c
  obtain ⟨hl, hg⟩ := argsOf_get c
  have hi : i < as.length := by
    rw [← hl]
    rcases Nat.lt_or_ge i sls.length with z | z
    · exact z
    · rw [List.getElem?_eq_none z] at e1; cases e1
  obtain ⟨sl', e3, m⟩ := hg i as[i] (List.getElem?_eq_getElem hi)
  rw [e1] at e3; cases e3
  cases q : as[i] with
  | tmp t =>
    rw [q] at m
    have m : sl = t := m
    subst m
    exact .inl ⟨sl, by rw [List.getElem?_eq_getElem hi, q], o⟩
  | slot j =>
    rw [q] at m
    obtain ⟨ds, m1, m2⟩ := m
    have ea : as[i]? = some (.slot j) := by rw [List.getElem?_eq_getElem hi, q]
    have s : σ[j]? = some (some v) := A.ok i _ v ea e2
    subst m2
    exact .inr ⟨j, ds, ea, m1, s, o⟩
theorem call_env (E : EnvOk K F H env σ) (A : ArgsOk K F H env σ H₀ O₀ as vs) (c : callOf as env = some sls) : EnvOk K F H sls (vs.map some) := by
  obtain ⟨nd, c'⟩ := callOf_some c
  obtain ⟨hl, hg⟩ := argsOf_get c'
  refine ⟨E.sub, by rw [List.length_map, hl, A.n], fun i sl e n => ?_, fun i j sl tl v w x e1 e2 e3 e4 o1 o2 => ?_⟩
  · have hi : i < as.length := by
      rw [← hl]
      rcases Nat.lt_or_ge i sls.length with z | z
      · exact z
      · rw [List.getElem?_eq_none z] at e; cases e
    have hv : i < vs.length := by rw [← A.n]; exact hi
    refine ⟨vs[i], getVs.mpr (List.getElem?_eq_getElem hv), ?_⟩
    obtain ⟨sl', e3, m⟩ := hg i as[i] (List.getElem?_eq_getElem hi)
    rw [e] at e3; cases e3
    have ok := A.ok i as[i] vs[i] (List.getElem?_eq_getElem hi) (List.getElem?_eq_getElem hv)
    cases q : as[i] with
    | tmp t =>
      rw [q] at m ok
      have m : sl = t := m
      subst m
      exact ok.1
    | slot j =>
      rw [q] at m ok
      obtain ⟨ds, m1, m2⟩ := m
      have ok : σ[j]? = some (some vs[i]) := ok
      obtain ⟨w, g1, g2⟩ := E.ok j _ m1 (by simp)
      rw [ok] at g1; cases g1
      subst m2
      exact g2
  · have e3 := getVs.mp e3
    have e4 := getVs.mp e4
    rcases args_own A c e1 e3 o1 with ⟨t, a1, p1⟩ | ⟨k, ds, a1, p1, p2, p3⟩
    · rcases args_own A c e2 e4 o2 with ⟨u, a2, q1⟩ | ⟨m, es, a2, q1, q2, q3⟩
      · exact A.inj i j _ _ v w x a1 a2 e3 e4 p1 q1
      · exact absurd ⟨m, _, w, q1, q2, q3⟩ ((A.ok i _ v a1 e3).2 x p1)
    · rcases args_own A c e2 e4 o2 with ⟨u, a2, q1⟩ | ⟨m, es, a2, q1, q2, q3⟩
      · exact absurd ⟨k, _, v, p1, p2, p3⟩ ((A.ok j _ w a2 e4).2 x q1)
      · have z := E.inj k m _ _ v w x p1 q1 p2 q2 p3 q3
        subst z
        exact slot_once nd a1 a2
/-- owned by an argument: by a slot, or new -/
theorem args_ow (A : ArgsOk K F H env σ H₀ O₀ as vs) (c : callOf as env = some sls) {x : Addr} (h : Ow sls (vs.map some) x) : Ow env σ x ∨ (O₀ x ∨ H₀ x = none) := by
  obtain ⟨i, sl, v, e1, e2, o⟩ := h
  have e2 := getVs.mp e2
  rcases args_own A c e1 e2 o with ⟨t, a1, p1⟩ | ⟨k, ds, a1, p1, p2, p3⟩
  · exact .inr (A.fr i _ v x a1 e2 p1)
  · exact .inl ⟨k, _, v, p1, p2, p3⟩
theorem step_back {F1 H1 : Hp} {O1 : Addr → Prop} (s : Step F H O₀ F1 H1 O1) {x : Addr} (h : H1 x = none) : O₀ x ∨ H x = none := by
  by_cases ho : O₀ x
  · exact .inl ho
  · cases e : H x with
    | none => exact .inr rfl
    | some u => rw [s.keep x u e ho] at h; cases h
/-- behind the call -/
theorem call_back (E : EnvOk K F H env σ) (s0 : Step F₀ H₀ O₀ F H (Ow env σ)) (A : ArgsOk K F H env σ H₀ O₀ as vs) (c : callOf as env = some sls) {r : Sl} {v : V}
    (E' : EnvOk K F' H' outs (vs.map some)) (s1 : Step F H (Ow sls (vs.map some)) F' H' (Ow outs (vs.map some))) (m : Tmp K F' H' (Ow outs (vs.map some)) H (Ow sls (vs.map some)) r v) :
    EnvOk K F' H' (putBack as outs env) σ ∧ Step F₀ H₀ O₀ F' H' (Ow (putBack as outs env) σ) ∧ Tmp K F' H' (Ow (putBack as outs env) σ) H₀ O₀ r v := by
  obtain ⟨nd, c'⟩ := callOf_some c
  obtain ⟨hl, hg⟩ := argsOf_get c'
  have lo : as.length = outs.length := by rw [A.n, ← List.length_map (f := some), ← E'.len]
  obtain ⟨pl, pg⟩ := putBack_get (as := as) (outs := outs) (env := env) lo nd
  -- a slot behind the call: an argument's, or as it was
  have cases_ : ∀ (j : Nat) (sl : Sl), (putBack as outs env)[j]? = some sl → (∃ i : Nat, as[i]? = some (.slot j) ∧ outs[i]? = some sl) ∨ ((∀ i : Nat, as[i]? ≠ some (.slot j)) ∧ env[j]? = some sl) := fun j sl h => by
    have hj : j < env.length := by
      rw [← pl]
      rcases Nat.lt_or_ge j (putBack as outs env).length with z | z
      · exact z
      · rw [List.getElem?_eq_none z] at h; cases h
    rcases pg j hj with ⟨i, o, e1, e2, e3⟩ | ⟨e1, e2⟩
    · rw [e3] at h; cases h; exact .inl ⟨i, e1, e2⟩
    · rw [e2] at h; exact .inr ⟨e1, h⟩
  have val : ∀ {i j : Nat}, as[i]? = some (.slot j) → ∃ v, vs[i]? = some v ∧ σ[j]? = some (some v) := fun {i j} h => by
    have hi : i < as.length := by
      rcases Nat.lt_or_ge i as.length with z | z
      · exact z
      · rw [List.getElem?_eq_none z] at h; cases h
    have hv : i < vs.length := by rw [← A.n]; exact hi
    exact ⟨vs[i], List.getElem?_eq_getElem hv, A.ok i _ _ h (List.getElem?_eq_getElem hv)⟩
  -- a slot that was not handed over is not an argument's
  have apart : ∀ {j : Nat} {sl : Sl} {u : V} {x : Addr}, (∀ i : Nat, as[i]? ≠ some (.slot j)) → env[j]? = some sl → σ[j]? = some (some u) → own sl u x → ¬ Ow sls (vs.map some) x := fun {j sl u x} hn e1 e2 o z => by
    obtain ⟨i, tl, w, g1, g2, g3⟩ := z
    have g2 := getVs.mp g2
    rcases args_own A c g1 g2 g3 with ⟨t, a1, p1⟩ | ⟨k, ds, a1, p1, p2, p3⟩
    · exact (A.ok i _ w a1 g2).2 x p1 ⟨j, sl, u, e1, e2, o⟩
    · have z := E.inj j k _ _ u w x e1 p1 e2 p2 o p3
      subst z
      exact hn i a1
  have up : ∀ x, (Ow sls (vs.map some) x ∨ H x = none) → O₀ x ∨ H₀ x = none := fun x h => by
    rcases h with h | h
    · rcases args_ow A c h with h | h
      · exact s0.own x h
      · exact h
    · exact step_back s0 h
  have ows : ∀ x, Ow (putBack as outs env) σ x → Ow outs (vs.map some) x ∨ (Ow env σ x ∧ ¬ Ow sls (vs.map some) x) := fun x ⟨j, sl, u, e1, e2, o⟩ => by
    rcases cases_ j sl e1 with ⟨i, a1, a2⟩ | ⟨a1, a2⟩
    · obtain ⟨w, b1, b2⟩ := val a1
      rw [e2] at b2; cases b2
      exact .inl ⟨i, sl, u, a2, getVs.mpr b1, o⟩
    · exact .inr ⟨⟨j, sl, u, a2, e2, o⟩, apart a1 a2 e2 o⟩
  refine ⟨⟨E'.sub, by rw [pl, E.len], fun j sl h n => ?_, fun j k sl tl u w x e1 e2 e3 e4 o1 o2 => ?_⟩, ⟨fun a o h => s1.fz _ _ (s0.fz _ _ h), fun a o h n => ?_, fun a h => ?_, fun a h => ?_⟩, ⟨m.ok, fun a o z => ?_, fun a o => up a (m.fr a o)⟩⟩
  · rcases cases_ j sl h with ⟨i, a1, a2⟩ | ⟨a1, a2⟩
    · obtain ⟨w, b1, b2⟩ := val a1
      obtain ⟨w', d1, d2⟩ := E'.ok i sl a2 n
      rw [getVs.mpr b1] at d1; cases d1
      exact ⟨w, b2, d2⟩
    · obtain ⟨w, b1, b2⟩ := E.ok j sl a2 n
      exact ⟨w, b1, b2.stay s1 fun x o => apart a1 a2 b1 o⟩
  · rcases cases_ j sl e1 with ⟨i, a1, a2⟩ | ⟨a1, a2⟩
    · obtain ⟨q1, b1, b2⟩ := val a1
      rw [e3] at b2; cases b2
      rcases cases_ k tl e2 with ⟨i', a3, a4⟩ | ⟨a3, a4⟩
      · obtain ⟨q2, d1, d2⟩ := val a3
        rw [e4] at d2; cases d2
        have z := E'.inj i i' sl tl u w x a2 a4 (getVs.mpr b1) (getVs.mpr d1) o1 o2
        subst z
        rw [a1] at a3; cases a3; rfl
      · exfalso
        have hx : H x ≠ none := by
          obtain ⟨_, ys, g⟩ := E.owH ⟨k, tl, w, a4, e4, o2⟩
          rw [g]; simp
        rcases s1.own x ⟨i, sl, u, a2, getVs.mpr b1, o1⟩ with z | z
        · exact apart a3 a4 e4 o2 z
        · exact hx z
    · rcases cases_ k tl e2 with ⟨i', a3, a4⟩ | ⟨a3, a4⟩
      · exfalso
        obtain ⟨q2, d1, d2⟩ := val a3
        rw [e4] at d2; cases d2
        have hx : H x ≠ none := by
          obtain ⟨_, ys, g⟩ := E.owH ⟨j, sl, u, a2, e3, o1⟩
          rw [g]; simp
        rcases s1.own x ⟨i', tl, w, a4, getVs.mpr d1, o2⟩ with z | z
        · exact apart a1 a2 e3 o1 z
        · exact hx z
      · exact E.inj j k sl tl u w x a2 a4 e3 e4 o1 o2
  · refine s1.keep a o (s0.keep a o h n) fun z => ?_
    rcases up a (.inl z) with z | z
    · exact n z
    · rw [h] at z; cases z
  · rcases s1.new a h with h | h | h
    · exact s0.new a h
    · rcases up a (.inr h) with z | z
      · exact .inr (.inr z)
      · exact .inr (.inl z)
    · rcases up a (.inl h) with z | z
      · exact .inr (.inr z)
      · exact .inr (.inl z)
  · rcases ows a h with h | ⟨h, _⟩
    · exact up a (s1.own a h)
    · exact s0.own a h
  · rcases ows a z with z | ⟨z, z2⟩
    · exact m.no a o z
    · rcases m.fr a o with q | q
      · exact z2 q
      · obtain ⟨_, ys, g⟩ := E.owH z
        rw [g] at q; cases q
end
end Vl
set_option maxHeartbeats 2000000
namespace Vl
open PySem PySem.Spec PyProof.Rows L2

/-- what a def is asked: its arguments as slots of a frame; its end: the same slots, and what is handed back -/
def spFn (K : PySem.W.Frag) (exA : Str → Option Addr) (fn : Fn) : Sp := fun vs H Q E => ∃ F sls, EnvOk K F H sls (vs.map some) ∧
  OnR (fn.run sls) (fun p => Kt K F H sls (vs.map some) p.2 p.1 Q) (Xk exA (fun cls d _ H' => E cls d H') F H (Ow sls (vs.map some)))
/-- the def at f does so; no repr is under way -/
structure FnG (P : Program) (w : World) (K : PySem.W.Frag) (mg : Str → Option Value) (base : Heap) (exA : Str → Option Addr) (L : Nat) (f : Addr) (fd : FuncData) (ps : List Str) (fn : Fn) : Prop where
  run : ∀ (A : Around) (outer : List Env) (s : Shared) (H : Hp) (args : Args) (us : List Value) (vs : List V) (Q : VK) (E : XK), Room L A → A.guards = some [] → Env0 P w K mg base A outer s H → BindsTo s fd args (ps.zip us) → Vals vs us →
    vs.length = ps.length → spFn K exA fn vs H Q E → codeAny (model P w) A (.call (.ref f) args) (CR (L2.CX P w) outer P w H s Q E) s

section
variable {X : Cx} {exA : Str → Option Addr} {W : WX} {pos p : Pos} {x : Str}
theorem run_fnG {pins : List (Addr × Obj)} {σ : L2.St} {H : Hp} {s : Shared} {Q : VK} {L : Nat} {f : Addr} {fd : FuncData} {ps : List Str} {fn : Fn} {us : List Value} {vs : List V} {E : XK} (G : FnG X.prog X.w X.K X.mg X.base exA L f fd ps fn) (hr : Room L X.A) (hg : X.A.guards = some [])
    (hb : Binds X.K fd ps []) (hx : PassesAt (L2.CX X.prog X.w) X σ E) (I : Inv X pins σ H s) (r : Vals vs us) (hl : vs.length = ps.length) (h : spFn X.K exA fn vs H Q E) : wpAny (model X.prog X.w) X.A (call (.ref f) us) (EP X pins σ Q) X.xe s := by
  have b := hb s us I.kIn (by rw [List.append_nil, ← r.length]; exact hl)
  rw [List.append_nil] at b
  refine wpAny_call (codeAny_mono (G.run X.A X.stack s H ⟨us, []⟩ us vs Q E hr hg I.env0 b r hl h) fun res s' hq => ?_)
  cases res with
  | error e => exact hx pins H s e s' I hq
  | ok fl =>
    cases fl with
    | ret u => exact I.after hq
    | next => exact hq.elim
    | brk => exact hq.elim
    | cont => exact hq.elim
/-- f(..) -/
theorem pe_callx {es : List Expr} {L : Nat} {f : Addr} {fd : FuncData} {ps : List Str} {k : Nat} {as : CE} {Φ : Nat → Fn} (G : FnG X.prog X.w X.K X.mg X.base exA L f fd ps (Φ k)) (hr : Room L X.A) (hgu : X.A.guards = some []) (tk : Takes X W)
    (hg : Gl X x) (hm : X.mg x = some (.ref f)) (hk : PySem.W.keepIn X.K (.ref f) = true) (hb : Binds X.K fd ps []) (hn : es.length = ps.length) (ha : PA X es (tAx X.K exA W (dA Φ as))) (hal : ∀ env p, dA Φ as env = .ok p → p.1.length = es.length)
    (h0 : es = [] → as = .nil) (hdb : (x == ("__debug__" : Str)) = false) (hst : ∀ e ∈ es, ∀ r, starEach (e :: r) X.env = (false, eval e X.env) :: starEach r X.env) : PE X (.Call (.Name x p) es [] pos) (tEx X.K exA W (dE Φ (.call k as))) := by
  refine ⟨fun pins s σ H Q I h => ?_⟩
  refine wpAny_Call_Name_kw (ld_glob I hg hm ?_ hdb)
  obtain ⟨F, env, E, q⟩ := h
  have q : OnR ((dA Φ as env).bind fun p => (Res.of (callOf p.1 p.2)).bind fun sls => ((Φ k).run sls).bind fun r => .ok (r.1, putBack p.1 r.2 p.2)) (fun p => Kt X.K F H env σ p.2 p.1 Q) (Xk exA W F H (Ow env σ)) := by
    have := q
    unfold dE at this
    exact this
  -- behind the arguments
  have core : ∀ (pp : List Arg × Env') (us : List Value) (vs : List V) (F1 H1 : Hp) (s1 : Shared), dA Φ as env = .ok pp → EnvOk X.K F1 H1 pp.2 σ → Step F H (Ow env σ) F1 H1 (Ow pp.2 σ) → ArgsOk X.K F1 H1 pp.2 σ H (Ow env σ) pp.1 vs → Inv X pins σ H1 s1 → Vals vs us →
      OnR ((Res.of (callOf pp.1 pp.2)).bind fun sls => ((Φ k).run sls).bind fun r => .ok (r.1, putBack pp.1 r.2 pp.2)) (fun p => Kt X.K F H env σ p.2 p.1 Q) (Xk exA W F H (Ow env σ)) →
      wpAny (model X.prog X.w) X.A (call (.ref f) us) (EP X pins σ Q) X.xe s1 := fun pp us vs F1 H1 s1 e0 E1 st A I1 r h => by
    obtain ⟨sls, e1, h⟩ := h.bind.of
    have h2 := h.bind
    have hl : vs.length = ps.length := by rw [← A.n, hal env pp e0, hn]
    refine run_fnG G hr hgu hb (passAt tk σ) I1 r hl ⟨F1, sls, call_env E1 A e1, h2.mono (fun p3 _ h3 => ?_) fun c h3 => ?_⟩
    · intro v F2 H2 E2 t m
      obtain ⟨b1, b2, b3⟩ := call_back E1 st A e1 E2 t m
      exact h3 v F2 H2 b1 b2 b3
    · obtain ⟨C, e2, h3⟩ := h3
      refine ⟨C, e2, fun _ F2 H2 g1 g2 g3 => h3 σ F2 H2 (fun a o z => g1 _ _ (st.fz _ _ z)) g2 fun a o z n => g3 a o (st.keep a o z n) fun y => ?_⟩
      rcases args_ow A e1 y with y | y
      · exact st.notOw n (by rw [z]; simp) y
      · rcases y with y | y
        · exact n y
        · rw [z] at y; cases y
  cases es with
  | nil =>
    have e1 := h0 rfl
    subst e1
    refine PySem.W.callWith_K0 I.kIn hk ?_
    exact core ([], env) [] [] F H s rfl E (Step.refl _ _ _) .nil I .nil q.bind
  | cons e r =>
    have hpl : (backTo pos (starEach r X.env)).any (·.1) = false := by
      clear ha hal hn
      have all : ∀ (l : List Expr), (∀ e ∈ l, ∀ r, starEach (e :: r) X.env = (false, eval e X.env) :: starEach r X.env) → (backTo pos (starEach l X.env)).any (·.1) = false := by
        intro l
        induction l with
        | nil => intro _; rfl
        | cons a l ih =>
          intro hh
          rw [hh a List.mem_cons_self l]
          show (false || (backTo pos (starEach l X.env)).any (·.1)) = false
          rw [ih fun e he => hh e (List.mem_cons_of_mem _ he)]; rfl
      exact all r fun e he => hst e (List.mem_cons_of_mem _ he)
    refine PySem.W.callWith_K (h₀ := X.base) I.ok.mod.kin hk (thn (ha.run pos pins s σ H (fun vs H1 => ∃ pp F1, dA Φ as env = .ok pp ∧ EnvOk X.K F1 H1 pp.2 σ ∧ Step F H (Ow env σ) F1 H1 (Ow pp.2 σ) ∧ ArgsOk X.K F1 H1 pp.2 σ H (Ow env σ) pp.1 vs ∧
      OnR ((Res.of (callOf pp.1 pp.2)).bind fun sls => ((Φ k).run sls).bind fun r => .ok (r.1, putBack pp.1 r.2 pp.2)) (fun p => Kt X.K F H env σ p.2 p.1 Q) (Xk exA W F H (Ow env σ))) I
        ⟨F, env, E, q.bind.mono (fun p2 e0 h2 => fun vs F1 H1 E1 st A => ⟨p2, F1, e0, E1, st, A, h2⟩) fun _ x => x⟩) fun us s1 ⟨vs, H1, I1, r1, pp, F1, e0, E1, st, A, h⟩ => ⟨I1.kIn, core pp us vs F1 H1 s1 e0 E1 st A I1 r1 h⟩) (hst e List.mem_cons_self r) hpl
/-- how a def is bound: n arguments in their order, or (1002) one and the keyword rounds -/
def BindP (K : PySem.W.Frag) (fd : FuncData) (ps : List Str) (n : Nat) : Prop := if n = 1002 then ∃ r : Str, ps = [r, "rounds"] ∧ ∀ (s : Shared) (u w : Value), K.In s.heap → BindsTo s fd ⟨[u], [("rounds", w)]⟩ (ps.zip [u, w]) else Binds K fd ps [] ∧ ps.length = n
theorem BindP.of {K : PySem.W.Frag} {fd : FuncData} {ps : List Str} (h : Binds K fd ps []) (hn : ps.length ≠ 1002) : BindP K fd ps ps.length := by
  unfold BindP
  rw [if_neg hn]
  exact ⟨h, rfl⟩
theorem BindP.get {K : PySem.W.Frag} {fd : FuncData} {ps : List Str} {n : Nat} (h : BindP K fd ps n) (hn : n ≠ 1002) : Binds K fd ps [] ∧ ps.length = n := by
  unfold BindP at h
  rw [if_neg hn] at h
  exact h
/-- f(a, rounds=b) -/
theorem pe_callk {ea eb : Expr} {L : Nat} {f : Addr} {fd : FuncData} {ps : List Str} {k : Nat} {a b : CE} {Φ : Nat → Fn} {kp : Pos} (G : FnG X.prog X.w X.K X.mg X.base exA L f fd ps (Φ k)) (hr : Room L X.A) (hgu : X.A.guards = some []) (tk : Takes X W)
    (hg : Gl X x) (hm : X.mg x = some (.ref f)) (hk : PySem.W.keepIn X.K (.ref f) = true) (hb : BindP X.K fd ps 1002) (ha : PE X ea (tEx X.K exA W (dE Φ a))) (he : PE X eb (tEx X.K exA W (dE Φ b))) (hdb : (x == ("__debug__" : Str)) = false)
    (hst : starEach [ea] X.env = (false, eval ea X.env) :: starEach [] X.env) : PE X (.Call (.Name x p) [ea] [⟨some "rounds", eb, kp⟩] pos) (tEx X.K exA W (dE Φ (.callk k a b))) := by
  refine ⟨fun pins s σ H Q I h => ?_⟩
  refine wpAny_Call_Name_kw (ld_glob I hg hm ?_ hdb)
  obtain ⟨F, env, E, q⟩ := h
  have q : OnR ((dE Φ a env).bind fun p => (Res.of (fzOf p.1)).bind fun d => (dE Φ b p.2).bind fun q => (Res.of (fzOf q.1)).bind fun d' => ((Φ k).run [.fz d, .fz d']).bind fun r => .ok (r.1, q.2)) (fun p => Kt X.K F H env σ p.2 p.1 Q) (Xk exA W F H (Ow env σ)) := by
    have := q
    unfold dE at this
    exact this
  have pa := pa_cons ha pa_nil hst
  have pk := pk_cons (nm := some "rounds") (kpos := kp) he pk_nil
  obtain ⟨r, rfl, hbk⟩ : ∃ r : Str, ps = [r, "rounds"] ∧ ∀ (s : Shared) (u w : Value), X.K.In s.heap → BindsTo s fd ⟨[u], [("rounds", w)]⟩ (ps.zip [u, w]) := by
    have := hb
    unfold BindP at this
    rw [if_pos rfl] at this
    exact this
  have hpl : ((backTo pos (starEach [ea] X.env)).any (·.1) || (backToKw pos (keywordEach [(⟨some "rounds", eb, kp⟩ : Keyword)] X.env)).any (·.1.isNone)) = false := by
    rw [hst]; rfl
  refine PySem.W.callWith_KW (h₀ := X.base) I.ok.mod.kin hk rfl (thn (pa.run pos pins s σ H (fun vs H1 => ∃ F1 env1 v d, vs = [v] ∧ EnvOk X.K F1 H1 env1 σ ∧ Step F H (Ow env σ) F1 H1 (Ow env1 σ) ∧ Rp X.K F1 v d ∧
      OnR ((dE Φ b env1).bind fun q => (Res.of (fzOf q.1)).bind fun d' => ((Φ k).run [.fz d, .fz d']).bind fun r => .ok (r.1, q.2)) (fun p => Kt X.K F H env σ p.2 p.1 Q) (Xk exA W F H (Ow env σ))) I
        ⟨F, env, E, q.bind.mono (fun p _ h => fun v F1 H1 E1 st tm => ?_) fun _ x => x⟩) fun us s1 ⟨vs, H1, I1, r1, F1, env1, v, d, ev, E1, st1, rp, h⟩ => ?_) hpl hst
  · obtain ⟨d, e1, h⟩ := h.bind.of
    have e2 : p.1 = .fz d := by
      unfold fzOf at e1
      split at e1
      · rename_i y hy
        cases e1
        exact hy
      · cases e1
    rw [e2] at tm
    exact ⟨F1, p.2, v, d, rfl, E1, st, tm.ok, h⟩
  · subst ev
    refine thn (pk.run pos pins s1 σ H1 (fun zs H2 => ∃ F2 env2 w d', zs = [w] ∧ EnvOk X.K F2 H2 env2 σ ∧ Step F1 H1 (Ow env1 σ) F2 H2 (Ow env2 σ) ∧ Rp X.K F2 w d' ∧
      OnR (((Φ k).run [.fz d, .fz d']).bind fun r => .ok (r.1, env2)) (fun p => Kt X.K F H env σ p.2 p.1 Q) (Xk exA W F H (Ow env σ))) I1
        ⟨F1, env1, E1, h.bind.mono (fun p _ h => fun w F2 H2 E2 st tm => ?_) fun _ x => x.after st1⟩) fun ws s2 ⟨zs, H2, I2, r2, F2, env2, w, d', ez, E2, st2, rp2, h⟩ => ⟨I2.kIn, ?_⟩
    · obtain ⟨d', e1, h⟩ := h.bind.of
      have e2 : p.1 = .fz d' := by
        unfold fzOf at e1
        split at e1
        · rename_i y hy
          cases e1
          exact hy
        · cases e1
      rw [e2] at tm
      exact ⟨F2, p.2, w, d', rfl, E2, st, tm.ok, h⟩
    · subst ez
      have A : ArgsOk X.K F2 H2 env2 σ H (Ow env σ) [.tmp (.fz d), .tmp (.fz d')] [v, w] :=
        .cons st1 st2 ⟨rp, fun _ z => z.elim⟩ (fun _ z => z.elim) (.cons st2 (Step.refl _ _ _) ⟨rp2, fun _ z => z.elim⟩ (fun _ z => z.elim) .nil)
      have st := st1.trans st2
      have c : callOf [.tmp (.fz d), .tmp (.fz d')] env2 = some [.fz d, .fz d'] := by simp [callOf, slotsOf, argsOf]
      obtain ⟨u, rfl⟩ : ∃ u, us = [u] := by
        cases r1 with
        | cons _ t => cases t; exact ⟨_, rfl⟩
      obtain ⟨u', rfl⟩ : ∃ u, ws = [u] := by
        cases r2 with
        | cons _ t => cases t; exact ⟨_, rfl⟩
      have rv : Vals [v, w] [u, u'] := by
        cases r1 with
        | cons a1 _ =>
          cases r2 with
          | cons a2 _ => exact .cons a1 (.cons a2 .nil)
      have h2 := h.bind
      show wpAny (model X.prog X.w) X.A (call (.ref f) [u] [("rounds", u')]) (EP X pins σ Q) X.xe s2
      refine wpAny_call (codeAny_mono (G.run X.A X.stack s2 H2 ⟨[u], [("rounds", u')]⟩ [u, u'] [v, w] Q (fun cls dd H' => W cls dd σ H') hr hgu I2.env0 (hbk s2 u u' I2.kIn) rv rfl ⟨F2, [.fz d, .fz d'], call_env E2 A c, h2.mono (fun p3 _ h3 => ?_) fun c3 h3 => ?_⟩) fun res s' hq => ?_)
      · intro v3 F3 H3 E3 t m
        obtain ⟨b1, b2, b3⟩ := call_back E2 st A c E3 t m
        have ep : putBack [.tmp (.fz d), .tmp (.fz d')] p3.2 env2 = env2 := by
          cases p3.2 with
          | nil => rfl
          | cons o os => cases os <;> rfl
        rw [ep] at b1 b2 b3
        exact h3 v3 F3 H3 b1 b2 b3
      · obtain ⟨C, e2, h3⟩ := h3
        refine ⟨C, e2, fun _ F2' H2' g1 g2 g3 => h3 σ F2' H2' (fun a o z => g1 _ _ (st.fz _ _ z)) g2 fun a o z n => g3 a o (st.keep a o z n) fun y => ?_⟩
        rcases args_ow A c y with y | y
        · exact st.notOw n (by rw [z]; simp) y
        · rcases y with y | y
          · exact n y
          · rw [z] at y; cases y
      · cases res with
        | error e => exact passAt tk σ pins H2 s2 e s' I2 hq
        | ok fl =>
          cases fl with
          | ret u => exact I2.after hq
          | next => exact hq.elim
          | brk => exact hq.elim
          | cont => exact hq.elim
end
end Vl
set_option maxHeartbeats 2000000
namespace Vl
open PySem PySem.Spec PyProof.Rows L2

/-! storing -/
section
variable {K : PySem.W.Frag} {F H F' H' : Hp} {env env' : Env'} {σ : L2.St} {sl : Sl} {v : V} {i : Nat}
theorem get_set {α : Type} {l : List α} {i j : Nat} {x y : α} (h : (l.set i x)[j]? = some y) : (j = i ∧ y = x) ∨ (j ≠ i ∧ l[j]? = some y) := by
  by_cases z : j = i
  · subst z
    by_cases hi : j < l.length
    · rw [List.getElem?_set_self hi] at h; cases h; exact .inl ⟨rfl, rfl⟩
    · rw [List.getElem?_eq_none (by simpa using hi)] at h; cases h
  · rw [List.getElem?_set_ne (Ne.symm z)] at h; exact .inr ⟨z, h⟩
theorem EnvOk.set (E : EnvOk K F H env σ) (hi : i < env.length) (ok : SlOk K F H sl v) (no : ∀ a, own sl v a → ¬ Ow env σ a) : EnvOk K F H (env.set i sl) (σ.set i (some v)) := by
  have hσ : i < σ.length := by rw [← E.len]; exact hi
  refine ⟨E.sub, by rw [List.length_set, List.length_set, E.len], fun j tl h n => ?_, fun j k s1 s2 u w x e1 e2 e3 e4 o1 o2 => ?_⟩
  · rcases get_set h with ⟨rfl, rfl⟩ | ⟨ne, h⟩
    · exact ⟨v, List.getElem?_set_self hσ, ok⟩
    · obtain ⟨w, g1, g2⟩ := E.ok j tl h n
      exact ⟨w, by rw [List.getElem?_set_ne (Ne.symm ne)]; exact g1, g2⟩
  · rcases get_set e1 with ⟨z1, z2⟩ | ⟨n1, f1⟩
    · subst z1 z2
      rw [List.getElem?_set_self hσ] at e3; cases e3
      rcases get_set e2 with ⟨z1, _⟩ | ⟨n2, f2⟩
      · exact z1.symm
      · rw [List.getElem?_set_ne (Ne.symm n2)] at e4
        exact absurd ⟨k, s2, w, f2, e4, o2⟩ (no x o1)
    · rw [List.getElem?_set_ne (Ne.symm n1)] at e3
      rcases get_set e2 with ⟨z1, z2⟩ | ⟨n2, f2⟩
      · subst z1 z2
        rw [List.getElem?_set_self hσ] at e4; cases e4
        exact absurd ⟨j, s1, u, f1, e3, o1⟩ (no x o2)
      · rw [List.getElem?_set_ne (Ne.symm n2)] at e4
        exact E.inj j k s1 s2 u w x f1 f2 e3 e4 o1 o2
theorem Ow.set {a : Addr} (hi : i < σ.length) (h : Ow (env.set i sl) (σ.set i (some v)) a) : Ow env σ a ∨ own sl v a := by
  obtain ⟨j, tl, w, e1, e2, o⟩ := h
  rcases get_set e1 with ⟨rfl, rfl⟩ | ⟨ne, e1⟩
  · rw [List.getElem?_set_self hi] at e2; cases e2; exact .inr o
  · rw [List.getElem?_set_ne (Ne.symm ne)] at e2
    exact .inl ⟨j, tl, w, e1, e2, o⟩
theorem EnvOk.setFz {d : PyData} (E : EnvOk K F H env σ) (hi : i < env.length) (r : Rp K F v d) : EnvOk K F H (env.set i (.fz d)) (σ.set i (some v)) ∧ ∀ a, Ow (env.set i (.fz d)) (σ.set i (some v)) a → Ow env σ a :=
  ⟨E.set hi r fun _ z => z.elim, fun a h => (Ow.set (by rw [← E.len]; exact hi) h).elim id fun z => z.elim⟩
/-- a slot is forgotten -/
theorem EnvOk.drop (E : EnvOk K F H env σ) : EnvOk K F H (env.set i .un) (σ.set i none) ∧ ∀ a, Ow (env.set i .un) (σ.set i none) a → Ow env σ a := by
  refine ⟨⟨E.sub, by rw [List.length_set, List.length_set, E.len], fun j tl h n => ?_, fun j k s1 s2 u w x e1 e2 e3 e4 o1 o2 => ?_⟩, fun a ⟨j, tl, w, e1, e2, o⟩ => ?_⟩
  · rcases get_set h with ⟨rfl, rfl⟩ | ⟨ne, h⟩
    · exact absurd rfl n
    · obtain ⟨w, g1, g2⟩ := E.ok j tl h n
      exact ⟨w, by rw [List.getElem?_set_ne (Ne.symm ne)]; exact g1, g2⟩
  · rcases get_set e1 with ⟨rfl, rfl⟩ | ⟨n1, e1⟩
    · exact o1.elim
    · rcases get_set e2 with ⟨rfl, rfl⟩ | ⟨n2, e2⟩
      · exact o2.elim
      · rw [List.getElem?_set_ne (Ne.symm n1)] at e3
        rw [List.getElem?_set_ne (Ne.symm n2)] at e4
        exact E.inj j k s1 s2 u w x e1 e2 e3 e4 o1 o2
  · rcases get_set e1 with ⟨rfl, rfl⟩ | ⟨ne, e1⟩
    · exact o.elim
    · rw [List.getElem?_set_ne (Ne.symm ne)] at e2
      exact ⟨j, tl, w, e1, e2, o⟩
theorem EnvOk.wipe (E : EnvOk K F H env σ) : ∀ vs : List Nat, EnvOk K F H (wipeE env vs) (L2.wipe σ vs) ∧ ∀ a, Ow (wipeE env vs) (L2.wipe σ vs) a → Ow env σ a
  | [] => ⟨E, fun _ h => h⟩
  | i :: vs => by
    obtain ⟨h1, h2⟩ := E.wipe vs
    obtain ⟨h3, h4⟩ := h1.drop (i := i)
    exact ⟨h3, fun a h => h2 a (h4 a h)⟩
theorem wipe_get {σ : L2.St} {j : Nat} : ∀ {vs : List Nat}, j ∉ vs → (L2.wipe σ vs)[j]? = σ[j]?
  | [], _ => rfl
  | i :: vs, h => by
    simp only [List.mem_cons, not_or] at h
    show ((L2.wipe σ vs).set i none)[j]? = _
    rw [List.getElem?_set_ne (Ne.symm h.1), wipe_get h.2]
theorem wipeE_get {env : Env'} {j : Nat} : ∀ {vs : List Nat}, j ∉ vs → (wipeE env vs)[j]? = env[j]?
  | [], _ => rfl
  | i :: vs, h => by
    simp only [List.mem_cons, not_or] at h
    show ((wipeE env vs).set i .un)[j]? = _
    rw [List.getElem?_set_ne (Ne.symm h.1), wipeE_get h.2]
theorem wipeE_in {env : Env'} {j : Nat} {sl : Sl} : ∀ {vs : List Nat}, j ∈ vs → (wipeE env vs)[j]? = some sl → sl = .un
  | i :: vs, h, e => by
    have e : ((wipeE env vs).set i .un)[j]? = some sl := e
    rcases get_set e with ⟨_, rfl⟩ | ⟨ne, e⟩
    · rfl
    · rcases List.mem_cons.mp h with z | z
      · exact absurd z ne
      · exact wipeE_in z e
theorem wipeE_len (env : Env') : ∀ vs : List Nat, (wipeE env vs).length = env.length
  | [] => rfl
  | i :: vs => by show ((wipeE env vs).set i .un).length = _; rw [List.length_set, wipeE_len env vs]
theorem backE_len (old env : Env') : ∀ vs : List Nat, (backE old env vs).length = env.length
  | [] => rfl
  | i :: vs => by show ((backE old env vs).set i _).length = _; rw [List.length_set, backE_len old env vs]
theorem backE_get {old env : Env'} {j : Nat} {sl : Sl} : ∀ {vs : List Nat}, (backE old env vs)[j]? = some sl → (j ∈ vs ∧ (old[j]? = some sl ∨ sl = .un)) ∨ (j ∉ vs ∧ env[j]? = some sl)
  | [], h => .inr ⟨by simp, h⟩
  | i :: vs, h => by
    have h : ((backE old env vs).set i (old[i]?.getD .un))[j]? = some sl := h
    rcases get_set h with ⟨rfl, e⟩ | ⟨ne, h⟩
    · refine .inl ⟨List.mem_cons_self, ?_⟩
      cases q : old[j]? with
      | none => rw [q] at e; exact .inr e
      | some t => rw [q] at e; exact .inl (by rw [e]; rfl)
    · rcases backE_get h with ⟨h1, h2⟩ | ⟨h1, h2⟩
      · exact .inl ⟨List.mem_cons_of_mem _ h1, h2⟩
      · exact .inr ⟨by simp only [List.mem_cons, not_or]; exact ⟨ne, h1⟩, h2⟩
/-- behind a comprehension: its names stand as before -/
theorem back_env {old env : Env'} {vs : List Nat} (E0 : EnvOk K F H old σ) (s : Step F H (Ow (wipeE old vs) (L2.wipe σ vs)) F' H' (Ow (wipeE env vs) (L2.wipe σ vs))) (E1 : EnvOk K F' H' (wipeE env vs) (L2.wipe σ vs)) :
    EnvOk K F' H' (backE old env vs) σ ∧ Step F H (Ow old σ) F' H' (Ow (backE old env vs) σ) ∧ ∀ a, Ow (backE old env vs) σ a → Ow old σ a ∨ Ow (wipeE env vs) (L2.wipe σ vs) a := by
  have w0 := (E0.wipe vs).2
  -- an own slot's list is not among the others'
  have apart : ∀ {j : Nat} {sl : Sl} {v : V} {x : Addr}, j ∈ vs → old[j]? = some sl → σ[j]? = some (some v) → own sl v x → ¬ Ow (wipeE old vs) (L2.wipe σ vs) x := fun {j sl v x} hj e1 e2 o z => by
    obtain ⟨k, tl, w, g1, g2, g3⟩ := z
    have hk : k ∉ vs := fun h => by
      have := wipeE_in h g1
      subst this
      exact g3
    rw [wipeE_get hk] at g1
    rw [wipe_get hk] at g2
    have z := E0.inj j k sl tl v w x e1 g1 e2 g2 o g3
    subst z
    exact hk hj
  have slot : ∀ {j : Nat} {sl : Sl} {v : V} {x : Addr}, (backE old env vs)[j]? = some sl → σ[j]? = some (some v) → own sl v x → (j ∈ vs ∧ old[j]? = some sl) ∨ (j ∉ vs ∧ (wipeE env vs)[j]? = some sl ∧ (L2.wipe σ vs)[j]? = some (some v)) := fun {j sl v x} e1 e2 o => by
    rcases backE_get e1 with ⟨h1, h2 | h2⟩ | ⟨h1, h2⟩
    · exact .inl ⟨h1, h2⟩
    · subst h2; exact o.elim
    · exact .inr ⟨h1, by rw [wipeE_get h1]; exact h2, by rw [wipe_get h1]; exact e2⟩
  refine ⟨⟨E1.sub, ?_, fun j sl e n => ?_, fun j k s1 s2 u w x e1 e2 e3 e4 o1 o2 => ?_⟩, ⟨s.fz, fun a o h n => s.keep a o h fun z => n (w0 a z), fun a h => ?_, fun a h => ?_⟩, fun a ⟨j, sl, v, e1, e2, o⟩ => ?_⟩
  · have := E1.len
    rw [wipeE_len, L2.wipe_length] at this
    rw [backE_len]; exact this
  · rcases backE_get e with ⟨h1, h2 | h2⟩ | ⟨h1, h2⟩
    · obtain ⟨v, g1, g2⟩ := E0.ok j sl h2 n
      exact ⟨v, g1, g2.stay s fun x o => apart h1 h2 g1 o⟩
    · exact absurd h2 n
    · obtain ⟨v, g1, g2⟩ := E1.ok j sl (by rw [wipeE_get h1]; exact h2) n
      rw [wipe_get h1] at g1
      exact ⟨v, g1, g2⟩
  · rcases slot e1 e3 o1 with ⟨a1, a2⟩ | ⟨a1, a2, a3⟩
    · rcases slot e2 e4 o2 with ⟨b1, b2⟩ | ⟨b1, b2, b3⟩
      · exact E0.inj j k s1 s2 u w x a2 b2 e3 e4 o1 o2
      · exfalso
        have hx : H x ≠ none := by
          obtain ⟨_, ys, g⟩ := E0.owH ⟨j, s1, u, a2, e3, o1⟩
          rw [g]; simp
        rcases s.own x ⟨k, s2, w, b2, b3, o2⟩ with z | z
        · exact apart a1 a2 e3 o1 z
        · exact hx z
    · rcases slot e2 e4 o2 with ⟨b1, b2⟩ | ⟨b1, b2, b3⟩
      · exfalso
        have hx : H x ≠ none := by
          obtain ⟨_, ys, g⟩ := E0.owH ⟨k, s2, w, b2, e4, o2⟩
          rw [g]; simp
        rcases s.own x ⟨j, s1, u, a2, a3, o1⟩ with z | z
        · exact apart b1 b2 e4 o2 z
        · exact hx z
      · exact E1.inj j k s1 s2 u w x a2 b2 a3 b3 o1 o2
  · rcases s.new a h with h | h | h
    · exact .inl h
    · exact .inr (.inl h)
    · exact .inr (.inr (w0 a h))
  · obtain ⟨j, sl, v, e1, e2, o⟩ := h
    rcases slot e1 e2 o with ⟨a1, a2⟩ | ⟨a1, a2, a3⟩
    · exact .inl ⟨j, sl, v, a2, e2, o⟩
    · rcases s.own a ⟨j, sl, v, a2, a3, o⟩ with z | z
      · exact .inl (w0 a z)
      · exact .inr z
  · rcases slot e1 e2 o with ⟨a1, a2⟩ | ⟨a1, a2, a3⟩
    · exact .inl ⟨j, sl, v, a2, e2, o⟩
    · exact .inr ⟨j, sl, v, a2, a3, o⟩
end

end Vl
set_option maxHeartbeats 2000000
namespace Vl
open PySem PySem.Spec PyProof.Rows L2

/-! what stands still while a text is read -/
structure Tab where
  N : List Str
  sc : Scope
  /-- names that may be stored -/
  st : Str → Bool
  /-- built-in names that the module leaves alone; its constants; its defs -/
  bl : List Str
  gs : List (Str × Sum Int Str)
  nm : List (Str × Nat)
  /-- classes that may be raised -/
  xs : List Str
  /-- own classes that are asked for -/
  cl : List Str
  /-- whether isqrt is there -/
  sq : Bool
def visB (sc : Scope) (x : Str) : Bool := match sc.names.lookup x with
  | some .local => true | some .cell => true | some .free => true | _ => false
theorem visB_ok {sc : Scope} {x : Str} (h : visB sc x = true) : Vis sc x := by
  unfold visB at h
  split at h <;> first | cases h | skip
  · exact .inl (by assumption)
  · exact .inr (.inl (by assumption))
  · exact .inr (.inr (by assumption))
def nst : Expr → Bool
  | .Starred _ _ => false
  | _ => true
theorem nst_star {e : Expr} (h : nst e = true) (r : List Expr) (env : Env) : starEach (e :: r) env = (false, eval e env) :: starEach r env := by
  cases e <;> first | rfl | cases h
theorem nst_asg {e : Expr} (h : nst e = true) (r : List Expr) (env : Env) : assignEach (e :: r) env = (false, assign e env) :: assignEach r env := by
  cases e <;> first | rfl | cases h
/-- a class of errors by its name -/
def ExOk (X : Cx) (exA : Str → Option Addr) (x : Str) : Prop := ∃ (C : Addr) (B n i : String) (bm : List Value), exA x = some C ∧ X.mg x = some (.ref C) ∧ PySem.W.keepIn X.K (.ref C) = true ∧ Raises X (.ref C) ∧ ExcBaseFacts B n i bm ∧ PySem.W.excIn X.K C bm n = true
/-- a class whose exceptions are held as values: c its name, C its place; ds: the classes that are asked for -/
structure XcOk (K : PySem.W.Frag) (mg : Str → Option Value) (ds : List Str) (c : Str) (C : Addr) : Prop where
  ns : PySem.W.nsIn K mainGlobals c = some (some (.ref C))
  cls : ExcC K C
  row : ∃ R, mg "RowError" = some (.ref R) ∧ PySem.W.exmOne K (.ref C) (.ref R) = some true
  val : PySem.W.kitOne K (.ref C) (.type "ValueError") = some true
  own : ∀ d ∈ ds, ∀ D : Addr, mg d = some (.ref D) → PySem.W.kitOne K (.ref C) (.ref D) = some (subX c d)
structure Wld (X : Cx) (T : Tab) (Φ : Nat → Fn) (exA : Str → Option Addr) (L : Nat) : Prop where
  bl : ∀ x ∈ T.bl, X.mg x = none
  gs : ∀ p ∈ T.gs, ∃ u, X.mg p.1 = some u ∧ RelV (match p.2 with | .inl i => V.int i | .inr z => V.str z) u
  fn : ∀ (k : Nat) (p : Str × Nat), T.nm[k]? = some p → ∃ f fd ps, X.mg p.1 = some (.ref f) ∧ PySem.W.keepIn X.K (.ref f) = true ∧ BindP X.K fd ps p.2 ∧ FnG X.prog X.w X.K X.mg X.base exA L f fd ps (Φ k)
  ex : ∀ x ∈ T.xs, ExOk X exA x
  xc : ∀ (c : Str) (C : Addr), exA c = some C → XcOk X.K X.mg T.cl c C
  cl : ∀ d ∈ T.cl, ∃ D : Addr, X.mg d = some (.ref D)
  sq : T.sq = true → X.mg "isqrt" = some (.builtin "math.isqrt")
structure Cok (X : Cx) (T : Tab) (Φ : Nat → Fn) (exA : Str → Option Addr) (L : Nat) (W : WX) : Prop where
  wl : Wld X T Φ exA L
  n : X.N = T.N
  s : X.env.scope = T.sc
  nd : T.N.Nodup
  calm : X.calm = true
  gu : X.A.guards = some []
  rm : Room L X.A
  tk : Takes X W
  st : ∀ x, T.st x = true → Loc X.env.scope x ∧ (X.fn x = true ∨ X.env.scope.names.lookup x = some .local)

/-! targets -/
mutual
def ckG (T : Tab) : Tg → Expr → Bool
  | .loc i, .Name x _ => decide (T.N[i]? = some x) && T.st x
  | .tup r, .Tuple es _ _ => ckGs T r es
  | _, _ => false
def ckGs (T : Tab) : Tg → List Expr → Bool
  | .nil, [] => true
  | .cons a r, e :: es => nst e && ckG T a e && ckGs T r es
  | _, _ => false
end
def gTx (K : PySem.W.Frag) (tg : Tg) : TG := fun v σ H Q => ∃ F env d env', EnvOk K F H env σ ∧ Rp K F v d ∧ bindT tg d env = some env' ∧
  ∀ σ', EnvOk K F H env' σ' → (∀ a, Ow env' σ' a → Ow env σ a) → (∀ j, tgHas tg j = false → σ'[j]? = σ[j]?) → Q σ' H
def gTxs (K : PySem.W.Frag) (tg : Tg) : TGs := fun vs σ H Q => ∃ F env ds env', EnvOk K F H env σ ∧ RpA K F vs ds ∧ bindR tg ds env = some env' ∧
  ∀ σ', EnvOk K F H env' σ' → (∀ a, Ow env' σ' a → Ow env σ a) → (∀ j, tgHasR tg j = false → σ'[j]? = σ[j]?) → Q σ' H
section
variable {X : Cx} {T : Tab} {Φ : Nat → Fn} {exA : Str → Option Addr} {L : Nat} {W : WX}
theorem PG.imp {e : Expr} {t t' : TG} (h : PG X e t) (f : ∀ v σ H Q, t' v σ H Q → t v σ H Q) : PG X e t' := ⟨fun pins s σ H v u Q I r q => h.run pins s σ H v u Q I r (f v σ H Q q)⟩
theorem PGs.imp {e : List Expr} {t t' : TGs} (h : PGs X e t) (f : ∀ v σ H Q, t' v σ H Q → t v σ H Q) : PGs X e t' := ⟨fun pins s σ H v u Q I r q => h.run pins s σ H v u Q I r (f v σ H Q q)⟩
theorem asg_all (T : Tab) : ∀ (tg : Tg) (es : List Expr) (env : Env), ckGs T tg es = true → (assignEach es env).findIdx? (·.1) = none ∧ ∀ ds env₁ env₂, bindR tg ds env₁ = some env₂ → ds.length = (assignEach es env).length
  | .nil, [], env, _ => ⟨rfl, fun ds e1 e2 h => by cases ds with | nil => rfl | cons _ _ => cases h⟩
  | .cons a r, e :: es, env, h => by
    have h : (nst e && ckG T a e && ckGs T r es) = true := h
    rw [Bool.and_eq_true, Bool.and_eq_true] at h
    obtain ⟨h1, h2⟩ := asg_all T r es env h.2
    rw [nst_asg h.1.1]
    refine ⟨by rw [List.findIdx?_cons]; simp [h1], fun ds e1 e2 q => ?_⟩
    cases ds with
    | nil => cases q
    | cons d ds =>
      have q : (bindT a d e1).bind (fun env' => bindR r ds env') = some e2 := q
      rw [Option.bind_eq_some_iff] at q
      obtain ⟨e3, _, q⟩ := q
      simp [h2 ds e3 e2 q]
  | .nil, _ :: _, _, h => by cases h
  | .cons _ _, [], _, h => by cases h
  | .loc _, _, _, h => by cases h
  | .tup _, _, _, h => by cases h
mutual
theorem pg_sound (C : Cok X T Φ exA L W) : ∀ (tg : Tg) (e : Expr), ckG T tg e = true → PG X e (gTx X.K tg)
  | .loc i, e, h => by
    cases e <;> first | cases h | skip
    rename_i x pos
    replace h : (decide (T.N[i]? = some x) && T.st x) = true := h
    rw [Bool.and_eq_true] at h
    have hi := of_decide_eq_true h.1
    obtain ⟨g1, g2⟩ := C.st x h.2
    refine PG.imp (pg_name (i := i) (by rw [C.n]; exact C.nd) (by rw [C.n]; exact hi) g1 g2) fun v σ H Q q => ?_
    obtain ⟨F, env, d, env', E, r, b, k⟩ := q
    replace b : (if i < env.length then some (env.set i (.fz d)) else none) = some env' := b
    split at b
    · rename_i hlt
      cases b
      obtain ⟨E', ow⟩ := E.setFz hlt r
      refine k _ E' ow fun j hj => ?_
      have hj : (i == j) = false := hj
      rw [List.getElem?_set_ne (by simpa using hj)]
    · cases b
  | .tup r, e, h => by
    cases e <;> first | cases h | skip
    rename_i es kk pos
    replace h : ckGs T r es = true := h
    obtain ⟨a1, a2⟩ := asg_all T r es X.env h
    refine PG.imp (pg_tup C.calm (pgs_sound C r es h) (hn := rfl) (hst := a1)) fun v σ H Q q => ?_
    obtain ⟨F, env, d, env', E, rp, b, k⟩ := q
    cases d <;> first | cases b | skip
    rename_i ds
    replace b : bindR r ds env = some env' := b
    cases rp with
    | tup hs n ee => exact ⟨_, _, rfl, sqT_sub E.sub hs, n.trans (a2 ds env env' b), F, env, ds, env', E, ⟨n, ee⟩, b, k⟩
  | .nil, e, h => by cases e <;> cases h
  | .cons _ _, e, h => by cases e <;> cases h
theorem pgs_sound (C : Cok X T Φ exA L W) : ∀ (tg : Tg) (es : List Expr), ckGs T tg es = true → PGs X es (gTxs X.K tg)
  | .nil, [], _ => by
    refine PGs.imp pgs_nil fun vs σ H Q q => ?_
    obtain ⟨F, env, ds, env', E, rp, b, k⟩ := q
    cases ds with
    | cons _ _ => cases b
    | nil =>
      cases b
      have := rp.n
      exact ⟨List.eq_nil_of_length_eq_zero this, k σ E (fun _ h => h) fun _ _ => rfl⟩
  | .cons a r, e :: es, h => by
    replace h : (nst e && ckG T a e && ckGs T r es) = true := h
    rw [Bool.and_eq_true, Bool.and_eq_true] at h
    refine PGs.imp (pgs_cons (pg_sound C a e h.1.2) (pgs_sound C r es h.2) (by rw [nst_asg h.1.1 es X.env]; rfl)) fun vs σ H Q q => ?_
    obtain ⟨F, env, ds, env', E, rp, b, k⟩ := q
    cases ds with
    | nil => cases b
    | cons d ds =>
      cases vs with
      | nil => have := rp.n; simp at this
      | cons v vs =>
        replace b : (bindT a d env).bind (fun env' => bindR r ds env') = some env' := b
        rw [Option.bind_eq_some_iff] at b
        obtain ⟨e1, b1, b2⟩ := b
        refine ⟨v, vs, rfl, F, env, d, e1, E, rp.head, b1, fun σ1 E1 o1 s1 => ⟨F, e1, ds, env', E1, rp.tail, b2, fun σ2 E2 o2 s2 => k σ2 E2 (fun x h => o1 x (o2 x h)) fun j hj => ?_⟩⟩
        have hj : (tgHas a j || tgHasR r j) = false := hj
        rw [Bool.or_eq_false_iff] at hj
        rw [s2 j hj.2, s1 j hj.1]
  | .nil, _ :: _, h => by cases h
  | .cons _ _, [], h => by cases h
  | .loc _, es, h => by cases es <;> cases h
  | .tup _, es, h => by cases es <;> cases h
end
end
end Vl
set_option maxHeartbeats 2000000
namespace Vl
open PySem PySem.Spec PyProof.Rows L2

/-- what a walk gives, turn by turn: the items of a list of data -/
def IterD (K : PySem.W.Frag) (F : Hp) (J : It) (items : List PyData) : Prop := ∃ (n : Nat) (G : Hp → Prop) (Y : Nat → Hp → V → Hp → Prop), Walk J n G Y ∧ n = items.length ∧ (∀ H, Sub F H → G H) ∧
  ∀ i H x H', i < n → Sub F H → Y i H x H' → ∃ d, items[i]? = some d ∧ ((H' = H ∧ Rp K F x d) ∨ ∃ T x1 x2 d1 d2, x = .ref T ∧ H T = none ∧ H' = upd H T (.tup [x1, x2]) ∧ d = .tuple [d1, d2] ∧ Rp K F x1 d1 ∧ Rp K F x2 d2)
def tIx (K : PySem.W.Frag) (exA : Str → Option Addr) (W : WX) (r : Env' → Res (List PyData × Env')) : TI := fun σ H R => ∃ F env, EnvOk K F H env σ ∧
  OnR (r env) (fun p => ∀ J F' H', EnvOk K F' H' p.2 σ → Step F H (Ow env σ) F' H' (Ow p.2 σ) → IterD K F' J p.1 → R J H') (Xk exA W F H (Ow env σ))
theorem iter_seq {K : PySem.W.Frag} {F : Hp} {xs : List V} {ds : List PyData} {J : It} (r : RpA K F xs ds) {G : Hp → Prop} (w : Walk J xs.length G (YAt xs)) (hG : ∀ H, Sub F H → G H) : IterD K F J ds := by
  refine ⟨xs.length, G, YAt xs, w, r.n, hG, fun i H x H' hi _ y => ?_⟩
  obtain ⟨e, hx⟩ := y
  obtain ⟨d, e1, e2⟩ := r.getV hx
  exact ⟨d, e1, .inl ⟨e, e2⟩⟩
theorem iter_rng {K : PySem.W.Frag} {F : Hp} {lo : Int} {n : Nat} : IterD K F (Itr lo n) (rngL lo n) := by
  refine ⟨n, fun _ => True, YFn fun i => .int (lo + i), walk_range, by simp [rngL], fun _ _ => trivial, fun i H x H' hi _ y => ?_⟩
  obtain ⟨e, hx⟩ := y
  refine ⟨.int (lo + i), ?_, .inl ⟨e, ?_⟩⟩
  · unfold rngL
    rw [List.getElem?_map, List.getElem?_range hi]
    rfl
  · rw [hx]; exact .int _
section
variable {X : Cx} {exA : Str → Option Addr} {W : WX} {e e2 tg : Expr} {p pos : Pos}
/-- a list or a tuple is walked -/
theorem pi_either {l : Expr} {tl : TE} (hl : PE X l tl) : PI X tg l (fun σ H R => tl σ H fun x H1 => (∃ a xs, x = .ref a ∧ SqL X.K H1 a xs ∧ R (Itl X.K a) H1) ∨ ∃ a xs, x = .ref a ∧ SqT X.K H1 a xs ∧ R (Itt X.K a) H1) := by
  refine ⟨fun pins s σ H R I h => thn (hl.run pins s σ H _ I h) fun v s1 ⟨x, H1, I1, r1, q1⟩ => ?_⟩
  have fp : ∀ b ∈ [s1.heap.objs.size], FpOk X pins H1 b := fun b hb => by
    have e : b = s1.heap.objs.size := by simpa using hb
    subst e
    exact I1.fpOk (Nat.le_refl _) (I1.hok.fresh (Nat.le_refl _))
  rcases q1 with ⟨a, xs, rfl, hq, q⟩ | ⟨a, xs, rfl, hq, q⟩
  · cases r1
    obtain ⟨its, _, pl, _⟩ := I1.list hq
    refine wpAny_pyIter_list pl.isList ⟨s1.heap.objs.size, [s1.heap.objs.size], _, _, H1, rfl, I1.kept (t' := s1.toks) fun b o z => Heap.get?_push_of_some _ z, turn_list a _, ?_, fp, q⟩
    exact ⟨_, Heap.get?_push_size _ rfl, rfl, rfl⟩
  · cases r1
    obtain ⟨its, _, pt, _⟩ := I1.tuple hq
    refine wpAny_pyIter_tuple (show s1.heap.IsTuple a its.toArray from pt) ⟨s1.heap.objs.size, [s1.heap.objs.size], _, _, H1, rfl, I1.kept (t' := s1.toks) fun b o z => Heap.get?_push_of_some _ z, turn_tuple a _, ?_, fp, q⟩
    exact ⟨_, Heap.get?_push_size _ rfl, rfl, rfl⟩
/-- a value that was just reckoned, as a datum -/
theorem datT {K : PySem.W.Frag} {F H F₀ H₀ : Hp} {env : Env'} {σ : L2.St} {O₀ : Addr → Prop} {sl : Sl} {v : V} {d : PyData} (E : EnvOk K F H env σ) (st : Step F₀ H₀ O₀ F H (Ow env σ)) (t : Tmp K F H (Ow env σ) H₀ O₀ sl v) (e : sl.item = some d) :
    ∃ F', EnvOk K F' H env σ ∧ Step F₀ H₀ O₀ F' H (Ow env σ) ∧ Sub F F' ∧ Rp K F' v d := freezeT E st t e
theorem pi_seqx {r : Env' → Res (Sl × Env')} (h : PE X e (tEx X.K exA W r)) : PI X tg e (tIx X.K exA W (itR r)) := by
  refine PI.imp (pi_either h) fun σ H R q => ?_
  obtain ⟨F, env, E, q⟩ := q
  refine ⟨F, env, E, q.bind.mono (fun p _ h1 => ?_) fun _ x => x⟩
  intro v F1 H1 E1 s1 t1
  obtain ⟨ds, e1, h1⟩ := h1.bind.of
  rw [Option.bind_eq_some_iff] at e1
  obtain ⟨d, e1, e2⟩ := e1
  obtain ⟨F2, E2, s2, _, rp⟩ := freezeT E1 s1 t1 e1
  unfold seqD at e2
  split at e2 <;> first | cases e2 | skip
  · cases rp with
    | @lst a xs _ hs n ee => exact .inl ⟨a, xs, rfl, sqL_sub E2.sub hs, h1 _ F2 H1 E2 s2 (iter_seq ⟨n, ee⟩ walk_list fun H S => sqL_sub S hs)⟩
  · cases rp with
    | @tup a xs _ hs n ee => exact .inr ⟨a, xs, rfl, sqT_sub E2.sub hs, h1 _ F2 H1 E2 s2 (iter_seq ⟨n, ee⟩ walk_tup fun H S => sqT_sub S hs)⟩
theorem inR_ok {i : Int} (h : inR i = true) : -(2 ^ 62) ≤ i ∧ i < 2 ^ 62 := of_decide_eq_true h
/-- one argument, as a datum -/
theorem pa_one {r : Env' → Res (Sl × Env')} (h : PE X e (tEx X.K exA W r)) (hn : nst e = true) : PA X [e] (fun σ H Q => tEx X.K exA W r σ H fun v H1 => Q [v] H1) :=
  PA.imp (pa_cons h pa_nil (nst_star hn _ _)) fun σ H Q q => q
theorem pa_two {t t' : TE} (h : PE X e t) (h2 : PE X e2 t') (hn : nst e = true) (hn2 : nst e2 = true) : PA X [e, e2] (fun σ H Q => t σ H fun v H1 => t' σ H1 fun w H2 => Q [v, w] H2) :=
  PA.imp (pa_cons h (pa_cons h2 pa_nil (nst_star hn2 _ _)) (nst_star hn _ _)) fun σ H Q q => q
theorem pi_rng1x {r : Env' → Res (Sl × Env')} (hg : Gl X "range") (hm : X.mg "range" = none) (h : PE X e (tEx X.K exA W r)) (hn : nst e = true) :
    PI X tg (.Call (.Name "range" p) [e] [] pos) (tIx X.K exA W (itR fun env => (r env).bind fun p => (match p.1 with | .fz (.int i) => if inR i then .ok (.fz (.list (rngL 0 i.toNat)), p.2) else .no | _ => .no))) := by
  refine PI.imp (pi_range1 hg hm (pa_one h hn) (nst_star hn _ _)) fun σ H R q => ?_
  obtain ⟨F, env, E, q⟩ := q
  refine ⟨F, env, E, q.bind.bind.mono (fun pp e0 h1 => ?_) fun _ x => x⟩
  intro v F1 H1 E1 s1 t1
  clear e0
  obtain ⟨sl, env1⟩ := pp
  cases sl <;> first | exact h1.elim | skip
  rename_i d
  cases d <;> first | exact h1.elim | skip
  rename_i i
  replace h1 : OnR (if inR i then Res.ok (Sl.fz (.list (rngL 0 i.toNat)), env1) else Res.no) _ _ := h1
  cases hi : inR i with
  | false => rw [hi] at h1; exact h1.elim
  | true =>
    rw [hi] at h1
    have hv : v = .int i := by have := t1.ok; cases this; rfl
    subst hv
    obtain ⟨b1, b2⟩ := inR_ok hi
    exact ⟨i, rfl, b1, b2, h1 _ F1 H1 E1 s1 iter_rng⟩
theorem pi_rng2x {r r' : Env' → Res (Sl × Env')} (hg : Gl X "range") (hm : X.mg "range" = none) (h : PE X e (tEx X.K exA W r)) (h' : PE X e2 (tEx X.K exA W r')) (hn : nst e = true) (hn2 : nst e2 = true) :
    PI X tg (.Call (.Name "range" p) [e, e2] [] pos) (tIx X.K exA W (itR fun env => (r env).bind fun p => (r' p.2).bind fun q => (match p.1, q.1 with | .fz (.int i), .fz (.int j) => if inR i && inR j then .ok (.fz (.list (rngL i (j - i).toNat)), q.2) else .no | _, _ => .no))) := by
  refine PI.imp (pi_range2 hg hm (pa_two h h' hn hn2) (by rw [nst_star hn, nst_star hn2]; rfl) (nst_star hn2 _ _)) fun σ H R q => ?_
  obtain ⟨F, env, E, q⟩ := q
  refine ⟨F, env, E, q.bind.bind.mono (fun pp e0 h1 => ?_) fun _ x => x⟩
  intro v F1 H1 E1 s1 t1
  clear e0
  refine ⟨F1, pp.2, E1, OnR.mono (OnR.bind h1) (fun pq e0 h2 => ?_) fun _ x => Xk.after x s1⟩
  intro w F2 H2 E2 s2 t2
  clear e0
  obtain ⟨sl, env1⟩ := pp
  obtain ⟨sl2, env2⟩ := pq
  cases sl <;> first | exact h2.elim | skip
  rename_i d
  cases d <;> first | exact h2.elim | skip
  rename_i i
  cases sl2 <;> first | exact h2.elim | skip
  rename_i d
  cases d <;> first | exact h2.elim | skip
  rename_i j
  replace h2 : OnR (if inR i && inR j then Res.ok (Sl.fz (.list (rngL i (j - i).toNat)), env2) else Res.no) _ _ := h2
  cases hi : (inR i && inR j) with
  | false => rw [hi] at h2; exact h2.elim
  | true =>
    rw [hi] at h2
    rw [Bool.and_eq_true] at hi
    have hv : v = .int i := by have := t1.ok; cases this; rfl
    have hw : w = .int j := by have := t2.ok; cases this; rfl
    subst hv hw
    exact ⟨i, j, rfl, ⟨(inR_ok hi.1).1, (inR_ok hi.1).2, (inR_ok hi.2).1, (inR_ok hi.2).2⟩, h2 _ F2 H2 E2 (s1.trans s2) iter_rng⟩
end
end Vl
set_option maxHeartbeats 2000000
namespace Vl
open PySem PySem.Spec PyProof.Rows L2

/-- a test by what it is worth -/
def tTx (K : PySem.W.Frag) (exA : Str → Option Addr) (W : WX) (r : Env' → Res (Sl × Env')) : TT := fun σ H Q => ∃ F env, EnvOk K F H env σ ∧
  OnR (r env) (fun p => ∃ b, blD p.1 = some b ∧ ∀ F' H', EnvOk K F' H' p.2 σ → Step F H (Ow env σ) F' H' (Ow p.2 σ) → Q b H') (Xk exA W F H (Ow env σ))
abbrev noX : WX := fun _ _ _ _ => False

theorem bind_len : ∀ (tg : Tg) {d : PyData} {env env' : Env'}, bindT tg d env = some env' → env'.length = env.length
  | .loc i, d, env, env', h => by
    replace h : (if i < env.length then some (env.set i (.fz d)) else none) = some env' := h
    split at h
    · cases h; rw [List.length_set]
    · cases h
  | .tup r, d, env, env', h => by
    cases d <;> first | cases h | skip
    rename_i ds
    exact bindR_len r (ds := ds) h
  | .nil, _, _, _, h => by cases h
  | .cons _ _, _, _, _, h => by cases h
where bindR_len : ∀ (tg : Tg) {ds : List PyData} {env env' : Env'}, bindR tg ds env = some env' → env'.length = env.length
  | .nil, ds, env, env', h => by
    cases ds with
    | nil => cases h; rfl
    | cons _ _ => cases h
  | .cons a r, ds, env, env', h => by
    cases ds with
    | nil => cases h
    | cons d ds =>
      replace h : (bindT a d env).bind (fun env' => bindR r ds env') = some env' := h
      rw [Option.bind_eq_some_iff] at h
      obtain ⟨e1, h1, h2⟩ := h
      rw [bindR_len r h2, bind_len a h1]
  | .loc _, _, _, _, h => by cases h
  | .tup _, _, _, _, h => by cases h
theorem wipe_in {σ : L2.St} {j : Nat} : ∀ {vs : List Nat}, j ∈ vs → j < σ.length → (L2.wipe σ vs)[j]? = some none
  | i :: vs, h, hj => by
    show ((L2.wipe σ vs).set i none)[j]? = _
    by_cases z : j = i
    · subst z
      rw [List.getElem?_set_self (by rw [L2.wipe_length]; exact hj)]
    · rw [List.getElem?_set_ne (Ne.symm z)]
      rcases List.mem_cons.mp h with y | y
      · exact absurd y z
      · exact wipe_in y hj
theorem wipe_eq {σ σ2 : L2.St} {vs : List Nat} (hl : σ2.length = σ.length) (h : ∀ j, j ∉ vs → σ2[j]? = σ[j]?) : L2.wipe σ2 vs = L2.wipe σ vs := by
  apply List.ext_getElem?
  intro j
  by_cases hj : j ∈ vs
  · by_cases hlt : j < σ.length
    · rw [wipe_in hj hlt, wipe_in hj (by omega)]
    · rw [List.getElem?_eq_none (by rw [L2.wipe_length]; omega), List.getElem?_eq_none (by rw [L2.wipe_length]; omega)]
  · rw [wipe_get hj, wipe_get hj, h j hj]
theorem wipe_wipe (σ : L2.St) (vs : List Nat) : L2.wipe (L2.wipe σ vs) vs = L2.wipe σ vs := wipe_eq (L2.wipe_length σ vs) fun j hj => wipe_get hj

section
variable {K : PySem.W.Frag} {F H F1 H1 : Hp} {env : Env'} {σ : L2.St} {O O' : Addr → Prop} {D : Addr} {o : HO}
theorem EnvOk.aside (E : EnvOk K F H env σ) (f : F D = none) (n : ¬ Ow env σ D) : EnvOk K F (upd H D o) env σ := by
  refine ⟨fun a u h => ?_, E.len, fun i sl e hn => ?_, E.inj⟩
  · rw [upd_ne (ne_of_none h f)]; exact E.sub _ _ h
  · obtain ⟨v, e1, h⟩ := E.ok i sl e hn
    refine ⟨v, e1, h.sub (fun _ _ z => z) fun a oa => ⟨(h.there oa).1, ?_⟩⟩
    rw [upd_ne]
    rintro rfl
    exact n ⟨i, sl, v, e, e1, oa⟩
theorem Step.aside (s : Step F1 H1 O F H O') (h : H1 D = none) : Step F1 H1 O F (upd H D o) O' :=
  ⟨s.fz, fun a u e n => by rw [upd_ne (ne_of_none e h)]; exact s.keep a u e n, s.new, s.own⟩
/-- what stands aside stays -/
theorem Step.at (s : Step F H O F1 H1 O') (h : H D = some o) (f : F D = none) (n : ¬ O D) : H1 D = some o ∧ F1 D = none ∧ ¬ O' D := by
  refine ⟨s.keep D o h n, ?_, s.notOw n (by rw [h]; simp)⟩
  cases q : F1 D with
  | none => rfl
  | some u =>
    rcases s.new D (by rw [q]; simp) with z | z | z
    · exact absurd f z
    · rw [h] at z; cases z
    · exact absurd z n
end
theorem lcLoop_cons {f : PyData → Env' → Res (Option PyData × Env')} {d : PyData} {ds : List PyData} {env : Env'} {acc : List PyData} {r : List PyData × Env'} (h : lcLoop f (d :: ds) env acc = .ok r) :
    ∃ p, f d env = .ok p ∧ lcLoop f ds p.2 (match p.1 with | some x => acc ++ [x] | none => acc) = .ok r := by
  have h : (f d env).bind (fun p => lcLoop f ds p.2 (match p.1 with | some x => acc ++ [x] | none => acc)) = .ok r := h
  cases q : f d env with
  | ok p => rw [q] at h; exact ⟨p, rfl, h⟩
  | exc c => rw [q] at h; cases h
  | no => rw [q] at h; cases h
theorem bind_ok {α β : Type} {r : Res α} {f : α → Res β} {b : β} (h : r.bind f = .ok b) : ∃ a, r = .ok a ∧ f a = .ok b := by
  cases r with
  | ok a => exact ⟨a, rfl, h⟩
  | exc c => cases h
  | no => cases h
theorem of_ok {α : Type} {o : Option α} {a : α} (h : Res.of o = .ok a) : o = some a := by
  cases o with
  | none => cases h
  | some b => cases h; rfl
theorem lcLoop_grow {f : PyData → Env' → Res (Option PyData × Env')} : ∀ {ds : List PyData} {env : Env'} {acc : List PyData} {r : List PyData × Env'}, lcLoop f ds env acc = .ok r → acc.length ≤ r.1.length
  | [], _, _, _, h => by cases h; exact Nat.le_refl _
  | d :: ds, env, acc, r, h => by
    obtain ⟨p, _, h2⟩ := lcLoop_cons h
    have := lcLoop_grow h2
    cases q : p.1 with
    | none => rw [q] at this; exact this
    | some x => rw [q] at this; rw [List.length_append] at this; omega
section
variable {X : Cx} {exA : Str → Option Addr} {W : WX} {elt iter tge : Expr} {ifs : List Expr} {pos : Pos} {scope : Scope} {tg : Tg} {ri rc re : Env' → Res (Sl × Env')} {own : List (Str × Nat)}
theorem lc_run {vs : List Nat} (htg : ∀ j, tgHas tg j = true → j ∈ vs) : ∀ σ H Q, tEx X.K exA W (fun env => (itR ri env).bind fun p => lcRes vs (lcTurn vs tg rc re) p.1 p.2) σ H Q → tLc (tIx X.K exA W (itR ri)) (gTx X.K tg) (tTx X.K exA noX rc) (tEx X.K exA noX re) vs σ H Q := by
  intro σ H Q q
  obtain ⟨F, env, E, q⟩ := q
  refine ⟨F, env, E, q.bind.mono (fun p _ h1 => ?_) fun _ x => x⟩
  intro J F1 H1 E1 s1 it D hD
  obtain ⟨n, G, Y, w, hn, hG, hY⟩ := it
  generalize hf : lcTurn vs tg rc re = f at h1
  unfold lcRes at h1
  cases hl : lcLoop f p.1 p.2 [] with
  | no => rw [hl] at h1; exact h1.elim
  | exc c => rw [hl] at h1; exact h1.elim
  | ok r =>
    rw [hl] at h1
    simp only at h1
    split at h1
    case isFalse => exact h1.elim
    case isTrue hz =>
    have h1 : Kt X.K F H env σ (backE p.2 r.2 vs) (.ol r.1) Q := h1
    have fD : F1 D = none := E1.noF hD
    refine lc_it w (fun i Hc => ∃ F' envc acc vacc, EnvOk X.K F' Hc (wipeE envc vs) (L2.wipe σ vs) ∧ Step F1 H1 (Ow (wipeE p.2 vs) (L2.wipe σ vs)) F' Hc (Ow (wipeE envc vs) (L2.wipe σ vs)) ∧ Hc D = some (.lst vacc) ∧ F' D = none ∧
      ¬ Ow (wipeE envc vs) (L2.wipe σ vs) D ∧ RpA X.K F' vacc acc ∧ lcLoop f (p.1.drop i) envc acc = .ok r) ?_ ?_ ?_ ?_
    · obtain ⟨g1, g2⟩ := E1.wipe vs
      have no : ¬ Ow (wipeE p.2 vs) (L2.wipe σ vs) D := fun z => by
        obtain ⟨_, ys, e⟩ := g1.owH z
        rw [hD] at e; cases e
      exact ⟨F1, p.2, [], [], g1.lay hD, Step.aside (Step.refl _ _ _) hD, upd_same, fD, no, .nil, by rw [List.drop_zero]; exact hl⟩
    · rintro i Hc hi ⟨F', envc, acc, vacc, a1, a2, a3, a4, a5, a6, a7⟩
      exact hG _ fun a o z => a1.sub _ _ (a2.fz _ _ z)
    · rintro i x Hc H' hin ⟨F', envc, acc, vacc, a1, a2, a3, a4, a5, a6, a7⟩ y
      obtain ⟨d, hd, yy⟩ := hY i Hc x H' hin (fun a o z => a1.sub _ _ (a2.fz _ _ z)) y
      have lay : ∃ F2, EnvOk X.K F2 H' (wipeE envc vs) (L2.wipe σ vs) ∧ Step F1 H1 (Ow (wipeE p.2 vs) (L2.wipe σ vs)) F2 H' (Ow (wipeE envc vs) (L2.wipe σ vs)) ∧ Sub F' F2 ∧ Rp X.K F2 x d ∧ H' D = some (.lst vacc) ∧ F2 D = none := by
        rcases yy with ⟨rfl, rp⟩ | ⟨T, x1, x2, d1, d2, rfl, hT, rfl, rfl, r1, r2⟩
        · exact ⟨F', a1, a2, fun _ _ h => h, rp.sub a2.fz, a3, a4⟩
        · have fT := a1.noF hT
          have ne : D ≠ T := by rintro rfl; rw [a3] at hT; cases hT
          refine ⟨upd F' T (.tup [x1, x2]), a1.layF hT, a2.trans (Step.layF a1 _ hT), sub_upd fT, ?_, by rw [upd_ne ne]; exact a3, by rw [upd_ne ne]; exact a4⟩
          exact .tup' (.inl (.inl upd_same)) (.cons ((r1.sub a2.fz).sub (sub_upd fT)) (.cons ((r2.sub a2.fz).sub (sub_upd fT)) .nil))
      obtain ⟨F2, b1, b2, b3, b4, b5, b6⟩ := lay
      have hdr : p.1.drop i = d :: p.1.drop (i + 1) := by
        have hi : i < p.1.length := by omega
        rw [List.getElem?_eq_getElem hi] at hd
        cases hd
        exact List.drop_eq_getElem_cons hi
      rw [hdr] at a7
      obtain ⟨pt, c1, c2⟩ := lcLoop_cons a7
      rw [← hf] at c1
      unfold lcTurn at c1
      obtain ⟨env2, c3, c4⟩ := bind_ok c1
      have c3 := of_ok c3
      obtain ⟨q, c5, c6⟩ := bind_ok c4
      obtain ⟨b, c7, c8⟩ := bind_ok c6
      have c7 := of_ok c7
      clear c1 c4 c6
      refine ⟨F2, _, d, env2, b1, b4, c3, fun σ2 E2 ow2 same2 => ?_⟩
      have hw : L2.wipe σ2 vs = L2.wipe σ vs := by
        refine wipe_eq ?_ fun j hj => ?_
        · rw [← E2.len, bind_len _ c3, b1.len, L2.wipe_length]
        · have hno : tgHas tg j = false := by
            cases hh : tgHas tg j with
            | false => rfl
            | true => exact absurd (htg j hh) hj
          rw [same2 j hno, wipe_get hj]
      have no2 : ¬ Ow env2 σ2 D := fun z => a5 (ow2 D z)
      have st2 := b2.trans ((Step.refl F2 H' (Ow (wipeE envc vs) (L2.wipe σ vs))).weak ow2)
      refine ⟨hw, F2, env2, E2, ?_⟩
      rw [c5]
      refine ⟨b, c7, fun F3 H3 E3 st3 => ?_⟩
      obtain ⟨d1, d2, d3⟩ := Step.at st3 b5 b6 no2
      have st3' := st2.trans st3
      cases b with
      | false =>
        rw [if_neg (by simp)] at c8 ⊢
        cases c8
        obtain ⟨g1, g2⟩ := E3.wipe vs
        rw [hw] at g1 g2
        exact ⟨F3, q.2, acc, vacc, g1, st3'.weak g2, d1, d2, fun z => d3 (g2 D z), (a6.sub b3).sub st3.fz, c2⟩
      | true =>
        rw [if_pos rfl] at c8 ⊢
        obtain ⟨s, e1, e2⟩ := bind_ok c8
        obtain ⟨xd, e3, e4⟩ := bind_ok e2
        have e3 := of_ok e3
        cases e4
        refine ⟨F3, q.2, E3, ?_⟩
        rw [e1]
        intro v F4 H4 E4 st4 t4
        obtain ⟨F5, E5, st5, sub5, rp5⟩ := freezeT E4 st4 t4 e3
        obtain ⟨k1, k2, k3⟩ := Step.at st5 d1 d2 d3
        obtain ⟨g1, g2⟩ := E5.wipe vs
        rw [hw] at g1 g2
        have no5 : ¬ Ow (wipeE s.2 vs) (L2.wipe σ vs) D := fun z => k3 (g2 D z)
        refine ⟨vacc, k1, ?_, F5, s.2, acc ++ [xd], vacc ++ [v], g1.aside k2 no5, Step.aside ((st3'.trans st5).weak g2) hD, upd_same, k2, no5, RpA.append (((a6.sub b3).sub st3.fz).sub st5.fz) (.cons rp5 .nil), c2⟩
        have := lcLoop_grow c2
        rw [a6.n]
        simp only [List.length_append, List.length_cons, List.length_nil] at this
        have hz' : r.1.length ≤ 16777216 := hz
        show acc.length < 16777216
        omega
    · rintro Hc ⟨F', envc, acc, vacc, a1, a2, a3, a4, a5, a6, a7⟩
      rw [hn, List.drop_length] at a7
      cases a7
      obtain ⟨b1, b2, b3⟩ := back_env E1 a2 a1
      refine h1 _ F' Hc b1 (s1.trans b2) ⟨⟨D, vacc, rfl, a4, a3, a6⟩, fun a o z => ?_, fun a o => ?_⟩
      · have o : V.ref D = V.ref a := o
        cases o
        rcases b3 D z with z | z
        · obtain ⟨_, ys, e⟩ := E1.owH z
          rw [hD] at e; cases e
        · exact a5 z
      · have o : V.ref D = V.ref a := o
        cases o
        exact step_back s1 hD
theorem pe_lcx (hc : X.calm = true) (hN : X.N.Nodup) (hi : PI X tge iter (tIx X.K exA W (itR ri))) (ok : BlkOk X.N X.env.scope scope own) (htg : ∀ j, tgHas tg j = true → j ∈ own.map (·.2))
    (hg : ∀ (s : Shared) (H : Hp) (C : Addr) (cl : List (Str × Addr)) (fp : List Addr), PG (X.blk s H scope (compEnvC scope cl C X.env) fp) tge (gTx X.K tg))
    (ht : ∀ (s : Shared) (H : Hp) (C : Addr) (cl : List (Str × Addr)) (fp : List Addr), PTs (X.blk s H scope (compEnvC scope cl C X.env) fp) ifs (tTx X.K exA noX rc))
    (he : ∀ (s : Shared) (H : Hp) (C : Addr) (cl : List (Str × Addr)) (fp : List Addr), PE (X.blk s H scope (compEnvC scope cl C X.env) fp) elt (tEx X.K exA noX re)) (hs : ∀ x, foldedSetIterable iter X.env x = pure x) :
    PE X (.ListComp elt [⟨tge, iter, ifs, 0⟩] scope pos) (tEx X.K exA W fun env => (itR ri env).bind fun p => lcRes (own.map (·.2)) (lcTurn (own.map (·.2)) tg rc re) p.1 p.2) := PE.imp (pe_lc hc hN hi ok hg ht he hs) (lc_run htg)
end
end Vl
set_option maxHeartbeats 2000000
namespace Vl
open PySem PySem.Spec PyProof.Rows L2
/-! x[::-1] -/
theorem back_items {α : Type} (xs : List α) : (List.range xs.length).filterMap (fun (k : Nat) => xs[((xs.length : Int) - 1 + (k : Int) * (-1)).toNat]?) = xs.reverse := by
  have h : ∀ (m : Nat), m ≤ xs.length → (List.range m).filterMap (fun (k : Nat) => xs[((xs.length : Int) - 1 + (k : Int) * (-1)).toNat]?) = xs.reverse.take m := by
    intro m
    induction m with
    | zero => intro _; simp
    | succ m ih =>
      intro hm
      have hi : xs.length - 1 - m < xs.length := by omega
      have e1 : ((xs.length : Int) - 1 + (m : Int) * (-1)).toNat = xs.length - 1 - m := by omega
      rw [List.range_succ, List.filterMap_append, ih (by omega)]
      rw [List.take_add_one, List.getElem?_reverse (by omega)]
      simp only [List.filterMap_cons, List.filterMap_nil, e1]
      rw [List.getElem?_eq_getElem hi]
      rfl
  rw [h xs.length (Nat.le_refl _)]
  rw [List.take_of_length_le (by simp)]
theorem slicePick_back (its : List Value) : slicePick its.toArray none none (some (-1)) = its.reverse.toArray := by
  unfold slicePick
  have e : sliceRange (sliceBounds none none (some (-1)) its.toArray.size).1 (sliceBounds none none (some (-1)) its.toArray.size).2.1 (sliceBounds none none (some (-1)) its.toArray.size).2.2 = (List.range its.length).map fun (k : Nat) => ((its.length : Int) - 1 + (-1) * (k : Int)).toNat := by
    show sliceRange ((its.toArray.size : Int) - 1) (-1) (-1) = _
    rw [List.size_toArray]
    unfold sliceRange
    have hc : ((if (-1 : Int) > 0 then (if (its.length : Int) - 1 < -1 then (-1 - ((its.length : Int) - 1) + -1 - 1) / -1 else 0) else (if (its.length : Int) - 1 > -1 then ((its.length : Int) - 1 - -1 - -1 - 1) / (- -1) else 0))).toNat = its.length := by
      rw [if_neg (by decide)]
      by_cases h : its.length = 0
      · rw [h]; rfl
      · rw [if_pos (by omega), show (- -1 : Int) = 1 by decide, Int.ediv_one]
        omega
    simp only
    rw [hc]
  rw [e, List.filterMap_map]
  have := back_items its
  rw [← this]
  congr 1
  · refine fm_congr fun k _ => ?_
    show its.toArray[((its.length : Int) - 1 + (-1) * (k : Int)).toNat]? = _
    rw [Int.mul_comm]
    simp
section
variable {prog : Program} {w : World} {A : Around} {E : Value → Shared → Prop} {s : Shared}
theorem tup_back {t sl : Addr} {its : Array Value} {u : Tok} {Q : Value → Shared → Prop} (ht : IsTup s.heap t its) (hs : s.heap.IsSliceOf sl .none .none (.int (-1) u)) (hz : its.size ≤ sizeLine)
    (h : Q (.ref s.heap.objs.size) { s with heap := s.heap.push { cls := .type "tuple", data := .seq its.toList.reverse.toArray } }) : wpAny (model prog w) A (getItem (.ref t) (.ref sl)) Q E s := by
  obtain ⟨os, hos, hcs, hds⟩ := id hs
  have kind : s.TypeIs (.ref sl) "slice" := ⟨os, hos, hcs⟩
  have fit : sizeOk (.seq its.toList.reverse.toArray) := by
    show its.toList.reverse.toArray.size ≤ sizeLine
    rw [List.size_toArray, List.length_reverse]
    exact hz
  unfold getItem
  try with_reducible refine wpAny_holding ?_
  first | refine wpAny_bind (wpAny_pure ?_) | skip
  refine wpAny_bind (wpAny_sequenceKey ht.typeIs (by decide) ?_)
  refine wpAny_bind (wpAny_callSpecial?_slot (name := Str.ofString "__getitem__") ht.typeIs PyProof.Rows.slot_tuple_getitem (wpAny_call_entry PyProof.Rows.slot_tuple_getitem ht.typeIs entry_tuple_getitem ?_ (args_tuple_getitem _ _)))
  show wpAny _ _ (Builtin.Tuple.tupleItemsOf (.ref t) >>= _) _ _ s
  refine wpAny_bind (tupleItemsOf_ ht (wpAny_bind (wpAny_typeOf kind ?_)))
  rw [if_pos (by decide)]
  have app : ∀ {Q : Int × Int × Nat → Shared → Prop}, Q ((its.size : Int) - 1, -1, its.size) s → wpAny (model prog w) A.in1 (Builtin.Slice.sliceApplied (.ref sl) (pure (its.size : Int))) Q E s := fun {Q} q => by
    unfold Builtin.Slice.sliceApplied Builtin.Slice.sliceFields
    refine wpAny_bind (wpAny_bind (wpAny_field hos hds (x := .none) rfl (wpAny_bind (wpAny_field hos hds (x := .none) rfl (wpAny_bind (wpAny_field hos hds (x := .int (-1) u) rfl (wpAny_pure ?_)))))))
    refine wpAny_bind (slicePart_int ?_)
    show wpAny _ _ (if ((-1 : Int) == 0) = true then _ else _) _ _ s
    rw [if_neg (by decide)]
    refine wpAny_bind (slicePart_none (wpAny_bind (slicePart_none (wpAny_bind (wpAny_pure ?_)))))
    have e : Builtin.Slice.slicePlaces ((its.size : Int) - 1) (-1) (-1) = its.size := by
      unfold Builtin.Slice.slicePlaces
      rw [if_neg (by decide)]
      by_cases h : its.size = 0
      · rw [h]; rfl
      · rw [if_pos (by omega), show (- -1 : Int) = 1 by decide, Int.ediv_one]
        omega
    show wpAny _ _ (pure ((its.size : Int) - 1, (-1 : Int), Builtin.Slice.slicePlaces ((its.size : Int) - 1) (-1) (-1))) _ _ s
    rw [e]
    exact wpAny_pure q
  refine wpAny_bind (app ?_)
  show wpAny _ _ (if ((((its.size : Int) - 1) == 0) && ((-1 : Int) == 1) && (its.size == its.size)) = true then _ else _) _ _ s
  rw [if_neg (by simp)]
  have ep : ((List.range its.size).filterMap fun (k : Nat) => its[((its.size : Int) - 1 + (k : Int) * (-1)).toNat]?) = its.toList.reverse := by
    rw [← back_items its.toList]
    rw [Array.length_toList]
    refine fm_congr fun k _ => ?_
    simp
  rw [ep]
  first
    | exact wpAny_bind (m := Builtin.Tuple.tupleExact _) (wpAny_newObj_type (wpAny_pure ⟨_, rfl, wpAny_pure h⟩) fit)
    | exact wpAny_bind (m := Builtin.Tuple.tupleExact _) (wpAny_newObj_type (wpAny_bind (wpAny_pure (wpAny_pure ⟨_, rfl, wpAny_pure h⟩))) fit)
    | exact wpAny_bind (wpAny_bind (m := Builtin.Tuple.tupleExact _) (wpAny_newObj_type (wpAny_pure (wpAny_pure ⟨_, rfl, wpAny_pure h⟩)) fit))
    | exact wpAny_bind (wpAny_bind (m := Builtin.Tuple.tupleExact _) (wpAny_newObj_type (wpAny_pure ⟨_, rfl, wpAny_pure h⟩) fit))
end
section
variable {X : Cx}
def rBack (K : PySem.W.Frag) : V → V → Hp → VK → Prop := fun x z H Q => z = .int (-1) ∧ ∃ t xs, x = .ref t ∧ ((SqT K H t xs ∧ ∀ p, H p = none → Q (.ref p) (upd H p (.tup xs.reverse))) ∨ (SqL K H t xs ∧ ∀ p, H p = none → Q (.ref p) (upd H p (.lst xs.reverse))))
theorem pe_back {e st : Expr} {te ts : TE} {p2 pos : PySem.Pos} (he : PE X e te) (hst : PE X st ts) :
    PE X (.Subscript e (.Slice none none (some st) p2) pos) (fun σ H Q => te σ H fun x H1 => ts σ H1 fun z H4 => rBack X.K x z H4 Q) := by
  refine ⟨fun pins s σ H Q I h => ?_⟩
  refine Subscript_ (thn (he.run pins s σ H _ I h) fun v s1 ⟨x, H1, I1, r1, q1⟩ => wpAny_Slice ?_)
  rw [evalPart_none]
  refine wpAny_pure ?_
  refine wpAny_pure ?_
  rw [evalPart_some]
  refine thn (hst.run pins s1 σ H1 _ I1 q1) fun u s4 ⟨y, H4, I4, r4, q4⟩ => ?_
  obtain ⟨rfl, t, xs, rfl, q4⟩ := q4
  obtain ⟨tk, rfl⟩ := r4
  cases r1
  have I5 : Inv X pins σ H4 { s4 with heap := s4.heap.push { cls := .type "slice", data := .fields #[.none, .none, .int (-1) tk] } } := I4.kept (t' := s4.toks) fun b ob z => Heap.get?_push_of_some _ z
  rcases q4 with ⟨hq, k⟩ | ⟨hq, k⟩
  · obtain ⟨its, rv, pt, hsz⟩ := I5.tuple hq
    have ht : IsTup (s4.heap.push { cls := .type "slice", data := .fields #[.none, .none, .int (-1) tk] }) t its.toArray := pt
    have hn := rv.length
    refine tail_any (ops := [.ref t, .ref s4.heap.objs.size]) ht.typeIs slot_tuple_getitem.lookup (tup_back ht (Heap.IsSliceOf.new ..) (by rw [List.size_toArray]; omega) ?_) (by with_unfolding_all rfl)
    refine ⟨.ref _, _, I5.laid (t' := s4.toks) (fun b o z => Heap.get?_push_of_some _ z) (Nat.le_refl _) (show ObjOk X.prog X.w _ _ _ (.tup xs.reverse) from ⟨by rw [List.length_reverse]; omega, _, rv.reverse, ?_⟩), rfl, k _ I5.fresh⟩
    exact IsTup.new (s4.heap.push { cls := .type "slice", data := .fields #[.none, .none, .int (-1) tk] }) its.reverse.toArray
  · obtain ⟨its, r, ht, hz⟩ := I5.list hq
    have hlen := r.length
    refine tail_any (ops := [.ref t, .ref s4.heap.objs.size]) ht.isList.typeIs slot_list_getitem.lookup (wpAny_getItem_list_slice ht.isList (Heap.IsSliceOf.new ..) .none .none (.int (-1) tk) (by simp) ?_ (by rw [List.size_toArray]; omega)) (by with_unfolding_all rfl)
    rw [slicePick_back]
    refine ⟨.ref _, _, I5.laid (t' := s4.toks) (o := .lst xs.reverse) (fun b ob q => Heap.get?_push_of_some _ q) (Nat.le_refl _) ?_, rfl, k _ I5.fresh⟩
    exact ⟨by rw [List.length_reverse]; exact hz, _, 0, r.reverse, Heap.get?_push_size _ rfl⟩
end
end Vl
set_option maxHeartbeats 2000000
namespace PyProof.Rows
open PySem Builtin Float
section
variable {prog : Program} {w : World} {A : Around} {E : Value → Shared → Prop} {s : Shared}
def binF : FormatSpec := match parseFormatSpec ("b" : Str).cps.toList "int" 62 with | .ok f => f | .error _ => { align := 62 }
theorem binF_eq : parseFormatSpec ("b" : Str).cps.toList "int" 62 = .ok binF := by
  unfold binF
  cases h : parseFormatSpec ("b" : Str).cps.toList "int" 62 with
  | ok f => rfl
  | error m =>
    exfalso
    have : (match parseFormatSpec ("b" : Str).cps.toList "int" 62 with | .ok _ => true | .error _ => false) = true := by decide +kernel
    rw [h] at this
    cases this
theorem binF_ty : binF.type.getD (if ("b" : Str).cps.back? == some 0 then 0 else 100) = 98 := by decide +kernel
theorem binF_pr : binF.precision = none := by decide +kernel
theorem binF_z : binF.noNeg0 = false := by decide +kernel
theorem binF_w : binF.width = none := by decide +kernel
theorem binF_g : binF.grouping = none := by decide +kernel
theorem binF_a : binF.alt = false := by decide +kernel
theorem binF_s : binF.sign = none := by decide +kernel
theorem binF_al : binF.align = 62 := by decide +kernel
theorem field_eq (a : Int) (h : ¬ a < 0) : intField' binF (decide (a < 0)) [] ((Nat.toDigits 2 a.natAbs).map fun c => (if (98 : Nat) == 88 then c.toUpper else c).toNat) [] 4 = Vl.binText a := by
  have e : (fun c : Char => (if ((98 : Nat) == 88) = true then c.toUpper else c).toNat) = Char.toNat := by
    funext c
    rfl
  rw [e]
  unfold intField' Vl.binText
  rw [binF_w, binF_g, binF_s, binF_al, decide_eq_false h]
  generalize (Nat.toDigits 2 a.natAbs).map Char.toNat = ds
  cases ds with
  | nil => simp
  | cons x r =>
    simp
    omega
theorem formatField_bin {a : Int} {t : Tok} {Q : Value → Shared → Prop} (h0 : ¬ a < 0) (hz : (Vl.binText a).length ≤ sizeLine)
    (h : Q (.str (Vl.binText a) (s.toks + 1)) { s with toks := s.toks + 1 + 1 }) : wpAny (model prog w) A (formatField (.int a t) "b") Q E s := by
  have hp := binF_eq
  have hty := binF_ty
  have hpr := binF_pr
  have hzz := binF_z
  have hw := binF_w
  have hal := binF_a
  have hgr := binF_g
  have hsg := binF_s
  have fe := field_eq a h0
  generalize binF = f at *
  -- the call of int's own method behind the field
  refine (wpAny_holding ?_ : wpAny _ _ (holding [.int a t] (pyFormat (.int a t) "b")) Q E s)
  unfold pyFormat
  refine wpAny_bind (wpAny_mkStr (wpAny_bind (m := callSpecial? (.int a t) (Str.ofString "__format__") [.str "b" s.toks]) (wpAny_callSpecial?_slot (name := Str.ofString "__format__") (typeIs_int _ a t) slot_int_format
    (wpAny_call (codeAny_call_builtin slot_int_format.plain entry_int_format (slot_int_format.check _ _ _ _ _ _ _ _ (typeIs_int _ a t) (args_int_format _ _) ?_))))) (by decide +kernel))
  unfold Builtin.«int.__format__»
  simp only [show (("b" : Str).length == 0) = false by decide +kernel, show (Value.str ("b" : Str) s.toks == Value.none) = false from rfl, selfAndOne, noKeywords, Int.intOfSelf, asInt?, asStr?, List.isEmpty_nil, if_true, Bool.false_eq_true, if_false,
    show ((("b" : Str).cps.toList.drop 1).any (· ≥ 128) || (("b" : Str).cps.getD 0 0 ≥ 128 && !([60, 62, 61, 94] : List Nat).contains (("b" : Str).cps.getD 1 0))) = false by decide +kernel, pure_bind, bind_pure, bind_assoc]
  refine wpAny_bind (wpAny_typeNameOf (T := "str") (typeIs_str _ _ _) (by decide) fun _ => wpAny_bind (wpAny_typeNameOfCut_int ?_))
  -- the digits
  simp only [hp, hty]
  rw [if_pos (by decide)]
  show wpAny _ _ (if _ then _ else _) _ _ _
  rw [if_neg (by simp [hpr])]
  show wpAny _ _ (if _ then _ else _) _ _ _
  rw [if_neg (by simp [hzz])]
  show wpAny _ _ (if _ then _ else _) _ _ _
  rw [if_neg (by decide)]
  show wpAny _ _ (if f.width.getD 0 > 100000 then _ else _) _ _ _
  rw [if_neg (by simp [hw])]
  rw [← fe] at h hz
  refine wpAny_bind (M := model prog w) (m := mkStr _) (wpAny_mkStr (wpAny_pure ?_) ?hs)
  case hs =>
    simp only [hal, Bool.false_eq_true, if_false, show ((2 : Nat) == 10) = false by decide]
    conv => lhs; arg 1; whnf
    simp only [intField', hgr, hsg, hal, Bool.false_eq_true, if_false, show ((2 : Nat) == 10) = false by decide, if_true] at hz ⊢
    exact hz
  refine wpAny_bind (wpAny_isInstance (typeIs_str _ _ _) isSubtype_str_str (wpAny_pure ?_))
  simp only [hal, Bool.false_eq_true, if_false, show ((2 : Nat) == 10) = false by decide]
  conv => arg 1; arg 1; whnf
  simp only [intField', hgr, hsg, hal, Bool.false_eq_true, if_false, show ((2 : Nat) == 10) = false by decide, if_true] at h ⊢
  exact h
end
end PyProof.Rows
namespace Vl
open PySem PySem.Spec PyProof.Rows L2
/-- f'{e:b}' -/
theorem pe_fbn {X : Cx} {e : Expr} {te : TE} {k : Nat} {p1 p2 p3 p4 : PySem.Pos} (he : PE X e te) : PE X (.JoinedStr [.FormattedValue e (-1) (some (.JoinedStr [.Constant (.str "b") k p1] p2)) p3] p4)
    (fun σ H Q => te σ H fun x H1 => ∃ i, x = .int i ∧ ¬ i < 0 ∧ (binText i).length ≤ sizeLine ∧ Q (.str (binText i)) H1) := by
  refine pe_joined1 ⟨fun pins s σ H Q I h => ?_⟩
  refine wpAny_FormattedValue_spec (thn (he.run pins s σ H _ I h) fun v s1 ⟨x, H1, I1, r1, q1⟩ => ?_)
  obtain ⟨i, rfl, h0, hz, q⟩ := q1
  obtain ⟨t, rfl⟩ := r1
  refine thn ((pe_joined1 (pos := p2) (pe_str (x := "b") (j := k) (pos := p1))).run pins s1 σ H1 (fun y H2 => y = .str "b" ∧ H2 = H1) I1 ⟨rfl, rfl⟩) fun r s2 ⟨y, H2, I2, r2, ey, eH⟩ => ?_
  subst ey eH
  obtain ⟨t2, rfl⟩ := r2
  exact ⟨"b", t2, rfl, formatField_bin h0 hz ⟨.str (binText i), H2, I2.tok _, ⟨_, rfl⟩, q⟩⟩
end Vl
set_option maxHeartbeats 2000000
namespace PySem
set_option maxHeartbeats 1000000 in
theorem meets_enumerate_new1B {v : Value} {o : Obj} {H : Heap → Prop} (B : Begins v o H) :
    Meets (Builtin.«enumerate.__new__» ⟨[.type "enumerate", v], []⟩) (fun _ R s => H s.heap ∧
      R (.ok (.ret (.ref (s.heap.push o).objs.size))) { s with heap := (s.heap.push o).push { cls := .type "enumerate", data := .fields #[.none, .bool false, .ref s.heap.objs.size, rawInt 0, .none, .none] } }) :=
  .of_wp fun prog w A R s h => by
    obtain ⟨hp, g, d, tk, os⟩ := s; obtain ⟨h1, h⟩ := h
    have hsub := sub_enumerate
    have q1 : ∀ {A' : Around} {E : Value → Shared → Prop} {Q : Value → Shared → Prop}, Q (.ref hp.objs.size) ⟨hp.push o, g, d, tk, os⟩ → wpAny (model prog w) A' (pyIter v) Q E ⟨hp, g, d, tk, os⟩ :=
      fun q => B.iter prog w _ _ ⟨hp, g, d, tk, os⟩ _ h1 q
    wp_walk using q1
    refine wpAny_stack_any fun st => wpAny_pure ?_
    split
    · rename_i c _ _ _ _ _
      cases (c == Value.type "enumerate")
      · wp_walk using q1
        exact ⟨_, rfl, h⟩
      · wp_walk using q1
        exact ⟨_, rfl, h⟩
    · wp_walk using q1
      exact ⟨_, rfl, h⟩
section
variable {prog : Program} {w : World} {A : Around} {E : Value → Shared → Prop} {s : Shared}
theorem enum_begins1 {v : Value} {o : Obj} {H : Heap → Prop} {Q : Value → Shared → Prop} (B : Begins v o H) (h1 : H s.heap)
    (h : ∀ h', IsEnum h' (s.heap.objs.size + 1) s.heap.objs.size 0 .none → h'.get? s.heap.objs.size = some o → h'.objs.size = s.heap.objs.size + 2 →
      (∀ b o, s.heap.get? b = some o → h'.get? b = some o) → Q (.ref (s.heap.objs.size + 1)) { s with heap := h' }) :
    wpAny (model prog w) A (call (.type "enumerate") [v]) Q E s := by
  refine callType_new F.called_enumerate (by decide) (F.typeCall_enumerate_1 _) (F.newCall_enumerate_1 _) (fun obj => F.args_object_init_2 obj _) F.entry_enumerate_new
    (meets_enumerate_new1B B) ⟨h1, ?_⟩
  have hz : (s.heap.push o).objs.size = s.heap.objs.size + 1 := Heap.size_push ..
  show _ ∧ _
  rw [hz]
  have he : IsEnum ((s.heap.push o).push { cls := .type "enumerate", data := .fields #[.none, .bool false, .ref s.heap.objs.size, rawInt 0, .none, .none] }) (s.heap.objs.size + 1) s.heap.objs.size 0 .none := by
    have := Heap.get?_push_size (s.heap.push o) (o := { cls := .type "enumerate", data := .fields #[.none, .bool false, .ref s.heap.objs.size, rawInt 0, .none, .none] }) rfl
    rw [hz] at this; exact this
  refine ⟨⟨_, he, rfl⟩, h _ he (Heap.get?_push_of_some _ (Heap.get?_push_size _ B.free)) (by rw [Heap.size_push, hz]) fun b o x => Heap.get?_push_of_some _ (Heap.get?_push_of_some _ x)⟩
end
end PySem
namespace Vl
open PySem PySem.Spec PyProof.Rows L2
/-! enumerate(tuple) -/
def Iet (K : PySem.W.Frag) (a : Addr) : It :=
  ⟨fun i H => ∃ (xs : List V) (x : V), SqT K H a xs ∧ xs[i]? = some x, fun i H v H' => ∃ T x, v = .ref T ∧ H T = none ∧ H' = upd H T (.tup [.int (i : Nat), x]) ∧ ∀ xs, SqT K H a xs → xs[i]? = some x, fun i H => ∃ xs : List V, SqT K H a xs ∧ xs.length ≤ i⟩
theorem turn_enumT {P : Program} {w : World} {K : PySem.W.Frag} {elts : List Expr} {kk : Nat} {tpos : Pos} (a e it : Addr) :
    Turn P w K (.Tuple elts kk tpos) (Iet K a) [e, it] e (fun i h => (∃ old, IsEnum h e it ((i : Nat) : Int) old) ∧ h.IsTupleIter it a i ∧ e ≠ it) where
  mem := by simp
  obj := fun i h st b hb => by
    obtain ⟨⟨old, he⟩, ⟨o, ho, hc, hd⟩, _⟩ := st
    have e' : b = e ∨ b = it := by simpa using hb
    rcases e' with z | z
    · rw [z]; exact ⟨_, he, fun v q => nomatch q⟩
    · rw [z]; exact ⟨o, ho, fun v q => by rw [hd] at q; cases q⟩
  keep := fun i h h' st k => let ⟨⟨old, he⟩, hi, hne⟩ := st; ⟨⟨old, k e (by simp) _ he⟩, hi.at fun o q => k it (by simp) o q, hne⟩
  item := by
    intro X hP hw hK hc i pins s σ H E I hf st hg
    subst hP hw hK
    obtain ⟨⟨old, he⟩, hit, hne⟩ := st
    obtain ⟨xs, x, hq, hx⟩ := hg
    obtain ⟨its, rv, p, hz⟩ := I.tuple hq
    obtain ⟨u, hu, ru⟩ := rv.get hx
    have hel : e < s.heap.objs.size := Heap.lt_size he
    have hil : it < s.heap.objs.size := by obtain ⟨_, q, _⟩ := hit; exact Heap.lt_size q
    obtain ⟨ot, hot, hct, nt, hdt⟩ := id p
    have nea : a ≠ e := fun z => by
      rw [z, he] at hot
      cases hot
      exact nomatch hdt
    have nia : a ≠ it := fun z => by
      obtain ⟨oi, q, _, qd⟩ := hit
      rw [z, q] at hot
      cases hot
      rw [qd] at hdt; cases hdt
    have hi : i < its.toArray.size := by
      rcases Nat.lt_or_ge i its.length with z | z
      · simpa using z
      · rw [List.getElem?_eq_none z] at hu; cases hu
    refine wpAny_pyNext_enum_itemC (c := (i : Nat)) (Draws.tuple (A := X.A.in1) (I.ok.hd hc) it a nia its.toArray) he ⟨hit, p⟩ hi hne (by simp [hne, Ne.symm nea]) fun y h' tk hP ho hst hT hsz hk => ?_
    have hy : y = u := by
      have hP : its.toArray[i]? = some y := hP
      have e1 : its.toArray[i]? = some u := by simpa using hu
      rw [e1] at hP; cases hP; rfl
    subst hy
    refine ⟨_, rfl, wpAny_letOwnedTupleGo_enum (s := { s with heap := h', toks := tk + 1 }) ho fun h'' he' sb => ?_⟩
    have hT2 : h''.get? s.heap.objs.size = some { cls := .type "tuple", data := .seq #[.int i tk, y] } := (sb.2 _ (Nat.ne_of_gt hel)).trans hT
    have new : ObjOk X.prog X.w (upd H s.heap.objs.size (.tup [.int (i : Nat), x])) h'' s.heap.objs.size (.tup [.int (i : Nat), x]) :=
      ⟨by show 2 ≤ sizeLine; decide, [.int i tk, y], .cons ⟨_, rfl⟩ (.cons ru .nil), ⟨_, hT2, rfl, _, rfl⟩⟩
    have I1 : Inv X pins σ (upd H s.heap.objs.size (.tup [.int (i : Nat), x])) { s with heap := h'', toks := tk + 1 } :=
      I.turnedNew (ch := [e, it]) (fun b ob hb q => (sb.2 b (fun z => hb (by simp [z]))).trans (hk b ob (fun z => hb (by simp [z])) (fun z => hb (by simp [z])) q)) hf (Nat.le_refl _) new
    refine ⟨.ref s.heap.objs.size, _, I1, rfl, ⟨_, x, rfl, I.hok.fresh (Nat.le_refl _), rfl, fun ys hy => by rw [I.tuple_inj hy hq]; exact hx⟩, ⟨⟨y, ?_⟩, hst.1.at fun o q => (sb.2 it (Ne.symm hne)).trans q, hne⟩, fun b hb => ?_⟩
    · have e1 : ((i + 1 : Nat) : Int) = (i : Int) + 1 := by omega
      rw [e1]; exact he'
    · have hb' : b < s.heap.objs.size := by
        have e' : b = e ∨ b = it := by simpa using hb
        rcases e' with z | z
        · rw [z]; exact hel
        · rw [z]; exact hil
      rw [upd_ne (Nat.ne_of_lt hb')]
      exact (hf b hb).1
  done := by
    intro X hP hw hK hc i pins s σ H E I hf st hg
    subst hP hw hK
    obtain ⟨⟨old, he⟩, hit, hne⟩ := st
    obtain ⟨xs, hq, hx⟩ := hg
    obtain ⟨its, rv, p, hz⟩ := I.tuple hq
    obtain ⟨f0, f1, f2, f3, f4, f5⟩ := hf it (by simp)
    have hl := rv.length
    have hT : s.TypeIs (.ref e) "enumerate" := ⟨_, he, rfl⟩
    have hno : its.toArray[i]? = none := by simp; omega
    unfold pyNext
    refine wpAny_bind (wpAny_attempt (wpAny_callSpecial?_slot (name := Str.ofString "__next__") hT F.slot_enumerate_next
      (wpAny_call_entry F.slot_enumerate_next hT F.entry_enumerate_next ?_ (F.args_enumerate_next_1 _))))
    show wpAny _ _ (field (.ref e) 2 >>= _) _ _ _
    refine wpAny_bind (wpAny_field he rfl (x := .ref it) rfl ?_)
    refine wpAny_bind (wpAny_nextOf_tuple_end (A := X.A.in1) (I.ok.hd hc) hit (show s.heap.IsTuple a its.toArray from p) hno fun h' x he' hx' => ?_)
    obtain ⟨o, ho, hcl⟩ := hx'
    refine wpAny_bind (wpAny_isInstance (T := "StopIteration") (b := true) ⟨o, ho, hcl⟩ isSubtype_stop ?_)
    exact wpAny_pure ⟨rfl, I.turned (t' := s.toks) (fun b o hb q => he' b o hb q) f0 f1 f3 f4 f5⟩
  self := fun A i s Q E st h => let ⟨⟨_, he⟩, _⟩ := st; wpAny_pyIter_enum he h
theorem walk_enumT {K : PySem.W.Frag} {a : Addr} {xs : List V} : Walk (Iet K a) xs.length (fun H => SqT K H a xs) (YPair (fun i => some (.int (i : Nat))) (fun i => xs[i]?)) := by
  refine ⟨fun i _ hi q => ⟨xs, xs[i], q, by simp [hi]⟩, fun _ q => ⟨xs, q, Nat.le_refl _⟩, fun i H v H' _ q y => ?_⟩
  obtain ⟨T, x, h1, h2, h3, h4⟩ := y
  exact ⟨T, .int (i : Nat), x, h1, h2, h3, rfl, h4 xs q⟩
/-- enumerate of a list or a tuple -/
def iEnE (K : PySem.W.Frag) (ta : TA) : TI := fun σ H R => ta σ H fun vs H1 => ∃ a xs, vs = [.ref a] ∧ ((SqL K H1 a xs ∧ R (Ite K a) H1) ∨ (SqT K H1 a xs ∧ R (Iet K a) H1))
theorem pi_enumE {X : Cx} {e : Expr} {ta : TA} {p pos tpos : Pos} {elts : List Expr} {kk : Nat} (hg : Gl X "enumerate") (hm : X.mg "enumerate" = none) (ha : PA X [e] ta) (hs : starEach [e] X.env = [(false, eval e X.env)] := by rfl) :
    PI X (.Tuple elts kk tpos) (.Call (.Name "enumerate" p) [e] [] pos) (iEnE X.K ta) := by
  refine ⟨fun pins s σ H R I h => ?_⟩
  refine Call_ (ld_blt I hg hm boot_enumerate (PyProof.Rows.callWith_type1 (thn (ha.run pos pins s σ H _ I h) fun us s1 ⟨vs, H1, I1, r1, q1⟩ => ?_) hs rfl))
  obtain ⟨a, xs, ex, q⟩ := q1
  subst ex
  have fp : ∀ b ∈ [s1.heap.objs.size + 1, s1.heap.objs.size], FpOk X pins H1 b := fun b hb => by
    have e' : b = s1.heap.objs.size + 1 ∨ b = s1.heap.objs.size := by simpa using hb
    have hle : s1.heap.objs.size ≤ b := by
      rcases e' with z | z
      · rw [z]; exact Nat.le_add_right _ _
      · rw [z]; exact Nat.le_refl _
    exact I1.fpOk hle (I1.hok.fresh hle)
  rcases q with ⟨hq, q⟩ | ⟨hq, q⟩
  · cases r1 with
    | cons r rr =>
      cases rr
      cases r
      obtain ⟨its, rv, p', hz⟩ := I1.list hq
      refine call_enumerate_list p'.isList fun h' he hit hsz hk => wpAny_pyIter_enum he ?_
      have I2 : Inv X pins σ H1 { s1 with heap := h' } := I1.kept (t' := s1.toks) hk
      exact ⟨s1.heap.objs.size + 1, [s1.heap.objs.size + 1, s1.heap.objs.size], _, _, H1, rfl, I2, turn_enum a (s1.heap.objs.size + 1) s1.heap.objs.size, ⟨⟨.none, he⟩, hit, Nat.succ_ne_self _⟩, fp, q⟩
  · cases r1 with
    | cons r rr =>
      cases rr
      cases r
      obtain ⟨its, rv, p', hz⟩ := I1.tuple hq
      refine enum_begins1 (begins_tuple a its.toArray) p' fun h' he hit hsz hk => wpAny_pyIter_enum he ?_
      have I2 : Inv X pins σ H1 { s1 with heap := h' } := I1.kept (t' := s1.toks) hk
      exact ⟨s1.heap.objs.size + 1, [s1.heap.objs.size + 1, s1.heap.objs.size], _, _, H1, rfl, I2, turn_enumT a (s1.heap.objs.size + 1) s1.heap.objs.size, ⟨⟨.none, he⟩, ⟨_, hit, rfl, rfl⟩, Nat.succ_ne_self _⟩, fp, q⟩
end Vl
set_option maxHeartbeats 2000000
namespace Vl
open PySem PySem.Spec PyProof.Rows L2

/-! the text of an expression, form by form -/
def vInt : Expr → Option Int | .Constant (.int i) _ _ => some i | _ => none
def vBl : Expr → Option Bool | .Constant (.bool i) _ _ => some i | _ => none
def vNon : Expr → Bool | .Constant .none _ _ => true | _ => false
def vStr : Expr → Option Str | .Constant (.str i) _ _ => some i | _ => none
def vName : Expr → Option Str | .Name x _ => some x | _ => none
def vBin : Expr → Option (Expr × Operator × Expr) | .BinOp a o b _ => some (a, o, b) | _ => none
def vUn : Expr → Option (UnaryOp × Expr) | .UnaryOp o a _ => some (o, a) | _ => none
def vCmp : Expr → Option (Expr × CmpOp × Expr) | .Compare a [o] [b] _ => some (a, o, b) | _ => none
def vChn : Expr → Option (Expr × CmpOp × Expr × CmpOp × Expr) | .Compare a [o, o'] [b, c] _ => some (a, o, b, o', c) | _ => none
def vBop : Expr → Option (BoolOp × Expr × Expr × List Expr × Pos) | .BoolOp o (a :: b :: r) p => some (o, a, b, r, p) | _ => none
def vIf : Expr → Option (Expr × Expr × Expr) | .IfExp t a b _ => some (t, a, b) | _ => none
def vSub : Expr → Option (Expr × Expr) | .Subscript a i _ => some (a, i) | _ => none
def vSli : Expr → Option (Option Expr × Option Expr) | .Slice lo hi none _ => some (lo, hi) | _ => none
def vSli1 : Expr → Option Expr | .Slice none none (some e) _ => some e | _ => none
def vLst : Expr → Option (List Expr) | .List es _ => some es | _ => none
def vTup : Expr → Option (List Expr) | .Tuple es _ _ => some es | _ => none
def vDic : Expr → Bool | .Dict [] [] _ => true | _ => false
def vCall : Expr → Option (Str × List Expr) | .Call (.Name x _) es [] _ => some (x, es) | _ => none
def vJoin : Expr → Option (Str × Expr) | .Call (.Attribute (.Constant (.str z) _ _) m ap) [e] [] p => if m = ("join" : Str) ∧ (ap.endLine == p.line) = true then some (z, e) else none | _ => none
structure LcV where
  elt : Expr
  tg : Expr
  iter : Expr
  ifs : List Expr
  scope : Scope
def vLc : Expr → Option LcV | .ListComp elt [⟨tg, iter, ifs, 0⟩] scope _ => some ⟨elt, tg, iter, ifs, scope⟩ | _ => none
def bop (o : BoolOp) (p : Pos) : List Expr → Expr
  | [y] => y
  | l => .BoolOp o l p
def isSet : Expr → Bool | .Set _ _ _ => true | _ => false
def isSli : Expr → Bool | .Slice _ _ _ _ => true | _ => false
/-- an expression whose test is its value's truth -/
def plainT : Expr → Bool
  | .Name _ _ => true | .Call _ _ _ _ => true | .Subscript _ _ _ => true | .Constant _ _ _ => true | .BinOp _ _ _ _ => true | .List _ _ => true | .Tuple _ _ _ => true | .ListComp _ _ _ _ => true
  | _ => false
theorem plainT_ok {e : Expr} (h : plainT e = true) (env : Env) : ∀ whole, isTrue e env whole = (do let v ← whole; standAt e.pos; holding [v] (truthy v)) := by
  cases e <;> first | (intro _; rfl) | cases h
def PlainX (e : Expr) : Bool := match e with
  | .Name _ _ => true | .Call _ _ _ _ => true | .Subscript _ _ _ => true | .Constant _ _ _ => true | .BinOp _ _ _ _ => true | .UnaryOp _ _ _ => true
  | _ => false
theorem plainX_ok {e : Expr} (h : PlainX e = true) : PlainIx e := by
  cases e <;> first | (intro _ _; rfl) | cases h

theorem vInt_some {e : Expr} {x} (h : vInt e = some x) : ∃ k p, e = .Constant (.int x) k p := by unfold vInt at h; split at h <;> cases h; exact ⟨_, _, rfl⟩
theorem vBl_some {e : Expr} {x} (h : vBl e = some x) : ∃ k p, e = .Constant (.bool x) k p := by unfold vBl at h; split at h <;> cases h; exact ⟨_, _, rfl⟩
theorem vStr_some {e : Expr} {x} (h : vStr e = some x) : ∃ k p, e = .Constant (.str x) k p := by unfold vStr at h; split at h <;> cases h; exact ⟨_, _, rfl⟩
theorem vNon_some {e : Expr} (h : vNon e = true) : ∃ k p, e = .Constant .none k p := by unfold vNon at h; split at h <;> cases h; exact ⟨_, _, rfl⟩
theorem vDic_some {e : Expr} (h : vDic e = true) : ∃ p, e = .Dict [] [] p := by unfold vDic at h; split at h <;> cases h; exact ⟨_, rfl⟩
theorem vName_some {e : Expr} {x} (h : vName e = some x) : ∃ p, e = .Name x p := by unfold vName at h; split at h <;> cases h; exact ⟨_, rfl⟩
theorem vBin_some {e : Expr} {a o b} (h : vBin e = some (a, o, b)) : ∃ p, e = .BinOp a o b p := by unfold vBin at h; split at h <;> cases h; exact ⟨_, rfl⟩
theorem vUn_some {e : Expr} {a o} (h : vUn e = some (o, a)) : ∃ p, e = .UnaryOp o a p := by unfold vUn at h; split at h <;> cases h; exact ⟨_, rfl⟩
theorem vCmp_some {e : Expr} {a o b} (h : vCmp e = some (a, o, b)) : ∃ p, e = .Compare a [o] [b] p := by unfold vCmp at h; split at h <;> cases h; exact ⟨_, rfl⟩
theorem vChn_some {e : Expr} {a o b o' c} (h : vChn e = some (a, o, b, o', c)) : ∃ p, e = .Compare a [o, o'] [b, c] p := by unfold vChn at h; split at h <;> cases h; exact ⟨_, rfl⟩
theorem vBop_some {e : Expr} {o a b r p} (h : vBop e = some (o, a, b, r, p)) : e = .BoolOp o (a :: b :: r) p := by unfold vBop at h; split at h <;> cases h; rfl
theorem vIf_some {e : Expr} {t a b} (h : vIf e = some (t, a, b)) : ∃ p, e = .IfExp t a b p := by unfold vIf at h; split at h <;> cases h; exact ⟨_, rfl⟩
theorem vSub_some {e : Expr} {a i} (h : vSub e = some (a, i)) : ∃ p, e = .Subscript a i p := by unfold vSub at h; split at h <;> cases h; exact ⟨_, rfl⟩
theorem vSli_some {e : Expr} {lo hi} (h : vSli e = some (lo, hi)) : ∃ p, e = .Slice lo hi none p := by unfold vSli at h; split at h <;> cases h; exact ⟨_, rfl⟩
theorem vSli1_some {e : Expr} {st} (h : vSli1 e = some st) : ∃ p, e = .Slice none none (some st) p := by unfold vSli1 at h; split at h <;> cases h; exact ⟨_, rfl⟩
theorem vLst_some {e : Expr} {es} (h : vLst e = some es) : ∃ p, e = .List es p := by unfold vLst at h; split at h <;> cases h; exact ⟨_, rfl⟩
theorem vTup_some {e : Expr} {es} (h : vTup e = some es) : ∃ k p, e = .Tuple es k p := by unfold vTup at h; split at h <;> cases h; exact ⟨_, _, rfl⟩
def vFbn : Expr → Option Expr | .JoinedStr [.FormattedValue e c (some (.JoinedStr [.Constant (.str b) _ _] _)) _] _ => if c = -1 ∧ b = ("b" : Str) then some e else none | _ => none
theorem vFbn_some {e x : Expr} (h : vFbn e = some x) : ∃ k p1 p2 p3 p4, e = .JoinedStr [.FormattedValue x (-1) (some (.JoinedStr [.Constant (.str "b") k p1] p2)) p3] p4 := by
  unfold vFbn at h
  split at h
  · split at h
    · rename_i hi
      cases h
      obtain ⟨rfl, rfl⟩ := hi
      exact ⟨_, _, _, _, _, rfl⟩
    · cases h
  · cases h
def vSpl : Expr → Option (Expr × Str) | .Call (.Attribute (.Subscript x i q) m ap) [.Constant (.str z) _ _] [] p => if m = ("split" : Str) ∧ (ap.endLine == p.line) = true then some (.Subscript x i q, z) else none | _ => none
theorem vSpl_some {e o : Expr} {z : Str} (h : vSpl e = some (o, z)) : ∃ x i q k p1 ap p, o = .Subscript x i q ∧ e = .Call (.Attribute (.Subscript x i q) "split" ap) [.Constant (.str z) k p1] [] p ∧ (ap.endLine == p.line) = true := by
  unfold vSpl at h
  split at h
  · split at h
    · rename_i hh
      cases h
      obtain ⟨rfl, hh⟩ := hh
      exact ⟨_, _, _, _, _, _, _, rfl, rfl, hh⟩
    · cases h
  · cases h
def vCallk : Expr → Option (Str × Expr × Expr) | .Call (.Name x _) [a] [⟨some k, b, _⟩] _ => if k = ("rounds" : Str) then some (x, a, b) else none | _ => none
theorem vCallk_some {e : Expr} {x a b} (h : vCallk e = some (x, a, b)) : ∃ p p' p'', e = .Call (.Name x p) [a] [⟨some "rounds", b, p''⟩] p' := by
  unfold vCallk at h
  split at h
  · split at h
    · rename_i hk
      cases h
      exact ⟨_, _, _, by rw [hk]⟩
    · cases h
  · cases h
theorem vCall_some {e : Expr} {x es} (h : vCall e = some (x, es)) : ∃ p p', e = .Call (.Name x p) es [] p' := by unfold vCall at h; split at h <;> cases h; exact ⟨_, _, rfl⟩
theorem vJoin_some {e : Expr} {z a} (h : vJoin e = some (z, a)) : ∃ k q ap p, e = .Call (.Attribute (.Constant (.str z) k q) "join" ap) [a] [] p ∧ (ap.endLine == p.line) = true := by
  unfold vJoin at h
  split at h
  · split at h
    · rename_i hh
      cases h
      obtain ⟨rfl, hh⟩ := hh
      exact ⟨_, _, _, _, rfl, hh⟩
    · cases h
  · cases h
theorem vLc_some {e : Expr} {v : LcV} (h : vLc e = some v) : ∃ p, e = .ListComp v.elt [⟨v.tg, v.iter, v.ifs, 0⟩] v.scope p := by unfold vLc at h; split at h <;> cases h; exact ⟨_, rfl⟩

/-! names -/
def dbg (x : Str) : Bool := !(x == ("__debug__" : Str)) && !(x == ("__classdict__" : Str)) && !(x == ("__name__" : Str))
theorem dbg_ok {x : Str} (h : dbg x = true) : (x == ("__debug__" : Str)) = false ∧ (x == ("__classdict__" : Str)) = false ∧ x ≠ "__name__" := by
  unfold dbg at h
  simp only [Bool.and_eq_true, Bool.not_eq_true'] at h
  exact ⟨h.1.1, h.1.2, fun e => by have := h.2; rw [e] at this; simp at this⟩
def glB (T : Tab) (x : Str) : Bool := match T.sc.names.lookup x with | some .globalImplicit => true | _ => false
def blB (T : Tab) (x : Str) : Bool := glB T x && decide (x ∈ T.bl)
def ckLoc (T : Tab) (i : Nat) (e : Expr) : Bool := match vName e with
  | some x => decide (T.N[i]? = some x) && visB T.sc x && dbg x
  | none => false
def b1Name : B1 → Option (Str × Bool)
  | .len => some ("len", false) | .rep => some ("repr", false) | .sum => some ("sum", false) | .min => some ("min", false) | .max => some ("max", false)
  | .tuple => some ("tuple", true) | .list => some ("list", true) | .str => some ("str", true) | .int => some ("int", true)
  | .sorted => some ("sorted", false) | .isqrt => none
def b2Name : B2 → Str | .min => "min" | .max => "max"
def one? : List Expr → Option Expr | [e] => some e | _ => none
theorem one_some {es : List Expr} {e} (h : one? es = some e) : es = [e] := by unfold one? at h; split at h <;> cases h; rfl
def two? : List Expr → Option (Expr × Expr) | [e, f] => some (e, f) | _ => none
theorem two_some {es : List Expr} {e f} (h : two? es = some (e, f)) : es = [e, f] := by unfold two? at h; split at h <;> cases h; rfl
def three? : List Expr → Option (Expr × Expr × Expr) | [e, f, g] => some (e, f, g) | _ => none
theorem three_some {es : List Expr} {e f g} (h : three? es = some (e, f, g)) : es = [e, f, g] := by unfold three? at h; split at h <;> cases h; rfl
/-- a call of the built-in x -/
def vB (T : Tab) (x : Str) (e : Expr) : Option (List Expr) := match vCall e with
  | some (y, es) => if y = x ∧ blB T x = true then some es else none
  | none => none
theorem vB_some {T : Tab} {x : Str} {e : Expr} {es} (h : vB T x e = some es) : ∃ p p', e = .Call (.Name x p) es [] p' ∧ blB T x = true := by
  unfold vB at h
  split at h
  · rename_i y es' hv
    split at h
    · rename_i hh
      cases h
      obtain ⟨rfl, hb⟩ := hh
      obtain ⟨p, p', e⟩ := vCall_some hv
      exact ⟨p, p', e, hb⟩
    · cases h
  · cases h
def relabC (sc scope : Scope) : Scope := { scope with names := scope.names.map fun (n, k) => if (k == .free && sc.kind == .function && sc.names.lookup n == some .cell) then (n, .cell) else (n, k) }
theorem relab_eq (scope : Scope) (env : Env) : relabel scope env = relabC env.scope scope := rfl
def Tab.blk (T : Tab) (scope : Scope) : Tab := { T with
  sc := relabC T.sc scope
  st := fun x => match (relabC T.sc scope).names.lookup x with | some .local => true | some .cell => scope.names.lookup x == some .cell | _ => false }
def ownN (T : Tab) (own : List Nat) : List (Str × Nat) := own.map fun i => ((T.N[i]?).getD "", i)
theorem ownN_snd (T : Tab) (own : List Nat) : (ownN T own).map (·.2) = own := by
  unfold ownN
  rw [List.map_map]
  exact List.map_id' own
mutual
def tgIn (own : List Nat) : Tg → Bool
  | .loc i => decide (i ∈ own)
  | .tup r => tgInR own r
  | _ => true
def tgInR (own : List Nat) : Tg → Bool
  | .cons a r => tgIn own a && tgInR own r
  | _ => true
end
mutual
theorem tgIn_ok {own : List Nat} : ∀ {t : Tg} {j : Nat}, tgIn own t = true → tgHas t j = true → j ∈ own
  | .loc i, j, h, k => by
    have k : (i == j) = true := k
    have h : decide (i ∈ own) = true := h
    rw [← beq_iff_eq.mp k]
    exact of_decide_eq_true h
  | .tup r, j, h, k => tgInR_ok (t := r) h k
  | .nil, j, h, k => by cases k
  | .cons _ _, j, h, k => by cases k
theorem tgInR_ok {own : List Nat} : ∀ {t : Tg} {j : Nat}, tgInR own t = true → tgHasR t j = true → j ∈ own
  | .cons a r, j, h, k => by
    have k : (tgHas a j || tgHasR r j) = true := k
    have h : (tgIn own a && tgInR own r) = true := h
    rw [Bool.and_eq_true] at h
    rw [Bool.or_eq_true] at k
    rcases k with k | k
    · exact tgIn_ok h.1 k
    · exact tgInR_ok h.2 k
  | .nil, j, h, k => by cases k
  | .loc _, j, h, k => by cases k
  | .tup _, j, h, k => by cases k
end
/-- a slice's part -/
def partC : CE → Bool | .nop => true | _ => false

def isTupE : Expr → Bool | .Tuple _ _ _ => true | _ => false
/-- walks that hand out pairs of their own -/
def ndT : CE → Bool | .enu _ => true | .zp _ _ => true | _ => false
/-- where it stands: a value, a test, what a loop goes over -/
inductive Md where | e | t | i
  deriving DecidableEq
def pm : Md → Expr → Bool | .t, e => plainT e | _, _ => true
def onO {α : Type} (o : Option α) (f : α → Bool) : Bool := match o with | some a => f a | none => false
theorem onO_ok {α : Type} {o : Option α} {f : α → Bool} (h : onO o f = true) : ∃ a, o = some a ∧ f a = true := by
  cases o with
  | none => cases h
  | some a => exact ⟨a, rfl, h⟩
def onP (part : Bool) (o : Option Expr) (f : Expr → Bool) : Bool := match o with | some a => f a | none => part
def ifsC (c : CE) (l : List Expr) (f : Expr → Bool) : Bool := match l with | [] => (match c with | .bl true => true | _ => false) | [q] => f q | _ => false
def tyNm (t : String) : Bool := decide (t = "int" ∨ t = "bool" ∨ t = "tuple" ∨ t = "list" ∨ t = "str")
/-- a class of the module that is asked for -/
def clN (T : Tab) (y : Str) : Bool := glB T y && dbg y && decide (y ∈ T.cl) && decide (y ≠ ("ValueError" : Str))
def clL (T : Tab) : List Str → List Expr → Bool
  | [], [] => true
  | y :: ys, e :: es => nst e && decide (vName e = some y) && clN T y && clL T ys es
  | _, _ => false
/-- what isinstance asks: a class, or a written tuple of classes -/
def clsC (T : Tab) (cs : List Str) (e : Expr) : Bool := match e with
  | .Name y _ => decide (cs = [y]) && (clN T y || (decide (y = ("ValueError" : Str)) && blB T y))
  | .Tuple es _ _ => decide (cs.length ≤ 100) && clL T cs es
  | _ => false
structure LmV where
  o : Expr
  name : Str
  x : Expr
def vLm : Expr → Option LmV | .Call (.Attribute o n ap) [x] [] cp => if (ap.endLine == cp.line) = true then some ⟨o, n, x⟩ else none | _ => none
theorem vLm_some {e : Expr} {v : LmV} (h : vLm e = some v) : ∃ ap cp, e = .Call (.Attribute v.o v.name ap) [v.x] [] cp ∧ (ap.endLine == cp.line) = true := by
  unfold vLm at h
  split at h
  · split at h
    · rename_i z; cases h; exact ⟨_, _, rfl, z⟩
    · cases h
  · cases h
def lmN (ix : Bool) : Str := if ix then "index" else "count"
mutual
def ck : CE → Tab → Md → Expr → Bool
  | .int i, _, m, e => pm m e && decide (vInt e = some i)
  | .bl b, _, m, e => pm m e && decide (vBl e = some b)
  | .non, _, m, e => pm m e && vNon e
  | .str z, _, m, e => pm m e && decide (vStr e = some z)
  | .loc i, T, m, e => pm m e && ckLoc T i e
  | .gl x d, T, m, e => pm m e && decide (vName e = some x) && glB T x && dbg x && decide (T.gs.lookup x = some d)
  | .neg a, T, m, e => decide (m = .e) && onO (vUn e) fun p => decide (p.1 = .USub) && ck a T .e p.2
  | .bin o a b, T, m, e => pm m e && onO (vBin e) fun p => decide (p.2.1 = boA o) && ck a T .e p.1 && ck b T .e p.2.2
  | .cmp o a b, T, m, e => decide (m ≠ .i) && onO (vCmp e) fun p => decide (p.2.1 = coA o) && !isSet p.2.2 && ck a T .e p.1 && ck b T .e p.2.2
  | .chn o o' a b c, T, m, e => decide (m ≠ .i) && onO (vChn e) fun p => decide (p.2.1 = coA o) && decide (p.2.2.2.1 = coA o') && !isSet p.2.2.2.2 && ck a T .e p.1 && ck b T .e p.2.2.1 && ck c T .e p.2.2.2.2
  | .isn neg a, T, m, e => decide (m ≠ .i) && onO (vCmp e) fun p => decide (p.2.1 = if neg then .IsNot else .Is) && vNon p.2.2 && ck a T .e p.1
  | .isty neg a t, T, m, e => decide (m ≠ .i) && onO (vCmp e) fun p => decide (p.2.1 = if neg then .IsNot else .Is) && decide (vName p.2.2 = some ("int" : Str)) && decide (t = "int") && blB T "int" &&
      onO (vB T "type" p.1) fun es => onO (one? es) fun z => nst z && ck a T .e z
  | .nt a, T, m, e => decide (m ≠ .i) && onO (vUn e) fun p => decide (p.1 = .Not) && ck a T m p.2
  | .and a b, T, m, e => decide (m ≠ .i) && onO (vBop e) fun p => decide (p.1 = .And) && ck a T m p.2.1 && ck b T m (bop .And p.2.2.2.2 (p.2.2.1 :: p.2.2.2.1))
  | .or a b, T, m, e => decide (m ≠ .i) && onO (vBop e) fun p => decide (p.1 = .Or) && ck a T m p.2.1 && ck b T m (bop .Or p.2.2.2.2 (p.2.2.1 :: p.2.2.2.1))
  | .tru a, T, m, e => decide (m = .t) && plainT e && ck a T .e e
  | .ite t a b, T, m, e => decide (m ≠ .t) && onO (vIf e) fun p => ck t T .t p.1 && ck a T .e p.2.1 && ck b T .e p.2.2
  | .ix a i, T, m, e => pm m e && onO (vSub e) fun p => PlainX p.2 && ck a T .e p.1 && ck i T .e p.2
  | .rev a, T, m, e => pm m e && onO (vSub e) fun p => onO (vSli1 p.2) fun st => onO (vUn st) fun u => decide (u.1 = .USub) && decide (vInt u.2 = some 1) && ck a T .e p.1
  | .sl a lo hi, T, m, e => pm m e && onO (vSub e) fun p => onO (vSli p.2) fun q => ck a T .e p.1 && onP (partC lo) q.1 (ck lo T .e) && onP (partC hi) q.2 (ck hi T .e)
  | .lst as, T, m, e => pm m e && onO (vLst e) fun es => ckA as T es
  | .tup as, T, m, e => pm m e && onO (vTup e) fun es => ckA as T es
  | .dic, _, m, e => decide (m = .e) && vDic e
  | .isi a t, T, m, e => pm m e && onO (vB T "isinstance" e) fun es => onO (two? es) fun p => nst p.1 && nst p.2 && ck a T .e p.1 && decide (vName p.2 = some (Str.ofString t)) && tyNm t && blB T (Str.ofString t)
  | .sqr a, T, m, e => pm m e && onO (vCall e) fun p => decide (p.1 = ("isqrt" : Str)) && T.sq && glB T p.1 && onO (one? p.2) fun x => nst x && ck a T .e x
  | .isx a rs cs, T, m, e => pm m e && onO (vB T "isinstance" e) fun es => onO (two? es) fun p => nst p.1 && nst p.2 && ck a T .e p.1 && rs.all (fun c => decide (c ∈ T.xs)) && clsC T cs p.2
  | .lmt ix i b, T, m, e => pm m e && onO (vLm e) fun v => decide (v.name = lmN ix) && ckLoc T i v.o && nst v.x && ck b T .e v.x
  | .b1 f a, T, m, e => pm m e && onO (b1Name f) fun x => onO (vB T x.1 e) fun es => onO (one? es) fun y => nst y && ck a T .e y
  | .b2 f a b, T, m, e => pm m e && onO (vB T (b2Name f) e) fun es => onO (two? es) fun p => nst p.1 && nst p.2 && ck a T .e p.1 && ck b T .e p.2
  | .join (.str z) b, T, m, e => pm m e && onO (vJoin e) fun p => decide (p.1 = z) && nst p.2 && ck b T .e p.2
  | .call k as, T, m, e => pm m e && onO (vCall e) fun p => decide (T.nm[k]? = some (p.1, p.2.length) ∧ p.2.length ≠ 1002) && glB T p.1 && dbg p.1 && ckA as T p.2
  | .fbn a, T, m, e => pm m e && onO (vFbn e) fun x => ck a T .e x
  | .spl a z, T, m, e => pm m e && onO (vSpl e) fun p => decide (p.2 = z) && ck a T .e p.1
  | .callk k a b, T, m, e => pm m e && onO (vCallk e) fun p => decide (T.nm[k]? = some (p.1, 1002)) && glB T p.1 && dbg p.1 && nst p.2.1 && ck a T .e p.2.1 && ck b T .e p.2.2
  | .lc own tg it c el, T, m, e => pm m e && onO (vLc e) fun v => blkC T.N T.sc v.scope (ownN T own) && ck it T .i v.iter && !isSet v.iter && tgIn own tg && (ckG (T.blk v.scope) tg v.tg && (!ndT it || isTupE v.tg)) && ifsC c v.ifs (ck c (T.blk v.scope) .t) && ck el (T.blk v.scope) .e v.elt
  | .enu a, T, m, e => decide (m = .i) && onO (vB T "enumerate" e) fun es => onO (one? es) fun x => nst x && ck a T .e x
  | .zp a b, T, m, e => decide (m = .i) && onO (vB T "zip" e) fun es => onO (two? es) fun p => nst p.1 && nst p.2 && ck a T .e p.1 && ck b T .e p.2
  | .rvd a, T, m, e => decide (m = .i) && onO (vB T "reversed" e) fun es => onO (one? es) fun x => nst x && ck a T .e x
  | .rng1 a, T, m, e => decide (m = .i) && onO (vB T "range" e) fun es => onO (one? es) fun x => nst x && ck a T .e x
  | .rng2 a b, T, m, e => decide (m = .i) && onO (vB T "range" e) fun es => onO (two? es) fun p => nst p.1 && nst p.2 && ck a T .e p.1 && ck b T .e p.2
  | .rng3 a b (.neg (.int 1)), T, m, e => decide (m = .i) && onO (vB T "range" e) fun es => onO (three? es) fun p => nst p.1 && nst p.2.1 && nst p.2.2 && ck a T .e p.1 && ck b T .e p.2.1 && onO (vUn p.2.2) fun u => decide (u.1 = .USub) && decide (vInt u.2 = some 1)
  | _, _, _, _ => false
def ckA : CE → Tab → List Expr → Bool
  | .nil, _, [] => true
  | .cons a r, T, e :: es => nst e && ck a T .e e && ckA r T es
  | .consO a r, T, e :: es => nst e && ck a T .e e && ckA r T es
  | _, _, _ => false
end
end Vl
set_option maxHeartbeats 2000000
namespace Vl
open PySem PySem.Spec PyProof.Rows L2

def isBop : Expr → Bool | .BoolOp _ _ _ => true | _ => false
section
variable {Φ : Nat → Fn} {exA : Str → Option Addr} {L : Nat}
/-- what the text of an expression is worth -/
structure Snd (Φ : Nat → Fn) (exA : Str → Option Addr) (L : Nat) (c : CE) : Prop where
  e : ∀ (X : Cx) (T : Tab) (W : WX), Cok X T Φ exA L W → ∀ x : Expr, ck c T .e x = true → PE X x (tEx X.K exA W (dE Φ c))
  t : ∀ (X : Cx) (T : Tab) (W : WX), Cok X T Φ exA L W → ∀ x : Expr, ck c T .t x = true → PT X x (tTx X.K exA W (dE Φ c)) ∧ (isBop x = true → PW X x (tTx X.K exA W (dE Φ c)))
  i : ∀ (X : Cx) (T : Tab) (W : WX), Cok X T Φ exA L W → ∀ tg x : Expr, (!ndT c || isTupE tg) = true → ck c T .i x = true → PI X tg x (tIx X.K exA W (itR (dE Φ c)))
  a : ∀ (X : Cx) (T : Tab) (W : WX), Cok X T Φ exA L W → ∀ es : List Expr, ckA c T es = true → PA X es (tAx X.K exA W (dA Φ c))
  n : ∀ (T : Tab) (es : List Expr), ckA c T es = true → ∀ env p, dA Φ c env = .ok p → p.1.length = es.length
  v : ∀ (X : Cx) (T : Tab) (W : WX), Cok X T Φ exA L W → ∀ (x : Expr) (i : Nat), loc? c = some i → ck c T .e x = true → PE X x (tVar i)
variable {X : Cx} {W : WX} {T : Tab}
theorem Snd.o {c : CE} (S : Snd Φ exA L c) (C : Cok X T Φ exA L W) {x : Expr} (h : ck c T .e x = true) : PE X x (tOx X.K exA W c (dE Φ c)) := pe_opnd (S.e X T W C x h) fun i hi => S.v X T W C x i hi h
theorem PW.of {e : Expr} {t t' : TT} (h : PW X e t) (f : ∀ σ H Q, t' σ H Q → t σ H Q) : PW X e t' := PW.imp h f
/-- a value that is a bool, as a test -/
theorem tx_bool {r : Env' → Res (Sl × Env')} {σ : L2.St} {H : Hp} {Q : Bool → Hp → Prop} (h : tTx X.K exA W r σ H Q) : tEx X.K exA W r σ H fun x H1 => ∃ c, x = .bl c ∧ Q c H1 := by
  obtain ⟨F, env, E, q⟩ := h
  refine ⟨F, env, E, q.mono (fun p _ h => ?_) fun _ x => x⟩
  obtain ⟨b, hb, k⟩ := h
  intro v F' H' E' st t
  unfold blD at hb
  split at hb <;> cases hb
  rename_i he
  have ok := t.ok
  rw [he] at ok
  have ok : Rp X.K F' v (.bool b) := ok
  cases ok
  exact ⟨b, rfl, k F' H' E' st⟩
theorem pt_of {e : Expr} {r : Env' → Res (Sl × Env')} (h : PE X e (tEx X.K exA W r)) (hp : plainT e = true) : PT X e (tTx X.K exA W r) := PT.imp (pt_val h (plainT_ok hp _)) fun σ H Q q => tx_bool q
theorem plain_bop {e : Expr} (h : plainT e = true) (b : isBop e = true) : False := by cases e <;> simp [plainT, isBop] at h b
theorem Snd.std {c : CE} (he : ∀ (X : Cx) (T : Tab) (W : WX), Cok X T Φ exA L W → ∀ x : Expr, ck c T .e x = true → PE X x (tEx X.K exA W (dE Φ c))) (ht : ∀ T x, ck c T .t x = true → plainT x = true ∧ ck c T .e x = true)
    (hi : ∀ T x, ck c T .i x = true → ck c T .e x = true) (ha : ∀ T es, ckA c T es = false) (hv : loc? c = none) : Snd Φ exA L c where
  e := he
  t := fun X T W C x h => ⟨pt_of (he X T W C x (ht T x h).2) (ht T x h).1, fun b => (plain_bop (ht T x h).1 b).elim⟩
  i := fun X T W C tg x _ h => pi_seqx (he X T W C x (hi T x h))
  a := fun X T W C es h => by rw [ha] at h; cases h
  n := fun T es h => by rw [ha] at h; cases h
  v := fun X T W C x i h => by rw [hv] at h; cases h
theorem pm_e {b : Bool} {x : Expr} : (pm .e x && b) = b := by cases b <;> rfl
theorem pm_t {b : Bool} {x : Expr} (h : (pm .t x && b) = true) : plainT x = true ∧ b = true := by rw [Bool.and_eq_true] at h; exact h
theorem pm_i {b : Bool} {x : Expr} : (pm .i x && b) = b := by cases b <;> rfl
/-- comparisons and the like: no loop goes over them -/
theorem Snd.cmps {c : CE} (he : ∀ (X : Cx) (T : Tab) (W : WX), Cok X T Φ exA L W → ∀ x : Expr, ck c T .e x = true → PE X x (tEx X.K exA W (dE Φ c)))
    (ht : ∀ (X : Cx) (T : Tab) (W : WX), Cok X T Φ exA L W → ∀ x : Expr, ck c T .t x = true → PT X x (tTx X.K exA W (dE Φ c)) ∧ (isBop x = true → PW X x (tTx X.K exA W (dE Φ c)))) (hi : ∀ T x, ck c T .i x = false) (ha : ∀ T es, ckA c T es = false) (hv : loc? c = none) : Snd Φ exA L c where
  e := he
  t := ht
  i := fun X T W C tg x _ h => by rw [hi] at h; cases h
  a := fun X T W C es h => by rw [ha] at h; cases h
  n := fun T es h => by rw [ha] at h; cases h
  v := fun X T W C x i h => by rw [hv] at h; cases h
theorem Snd.not {c : CE} (h : ∀ T m x, ck c T m x = false) (ha : ∀ T es, ckA c T es = false) (hv : loc? c = none) : Snd Φ exA L c :=
  .cmps (fun X T W C x e => by rw [h] at e; cases e) (fun X T W C x e => by rw [h] at e; cases e) (fun T x => h T _ x) ha hv

/-! leaves -/
theorem snd_int (i : Int) : Snd Φ exA L (.int i) := by
  refine .std (fun X T W C x h => ?_) (fun T x h => pm_t h) (fun T x h => h) (fun _ es => by cases es <;> rfl) rfl
  obtain ⟨k, p, rfl⟩ := vInt_some (of_decide_eq_true h)
  exact pe_cst pe_int fun F => .int i
theorem snd_bl (i : Bool) : Snd Φ exA L (.bl i) := by
  refine .std (fun X T W C x h => ?_) (fun T x h => pm_t h) (fun T x h => h) (fun _ es => by cases es <;> rfl) rfl
  obtain ⟨k, p, rfl⟩ := vBl_some (of_decide_eq_true h)
  exact pe_cst pe_bl fun F => .bl i
theorem snd_str (i : Str) : Snd Φ exA L (.str i) := by
  refine .std (fun X T W C x h => ?_) (fun T x h => pm_t h) (fun T x h => h) (fun _ es => by cases es <;> rfl) rfl
  obtain ⟨k, p, rfl⟩ := vStr_some (of_decide_eq_true h)
  exact pe_cst pe_str fun F => .str i
theorem snd_non : Snd Φ exA L .non := by
  refine .std (fun X T W C x h => ?_) (fun T x h => pm_t h) (fun T x h => h) (fun _ es => by cases es <;> rfl) rfl
  obtain ⟨k, p, rfl⟩ := vNon_some (show vNon x = true from h)
  exact pe_cst pe_non fun F => .non

theorem and3 {a b c : Bool} (h : (a && b && c) = true) : a = true ∧ b = true ∧ c = true := by cases a <;> cases b <;> cases c <;> simp at h ⊢
theorem and4 {a b c d : Bool} (h : (a && b && c && d) = true) : a = true ∧ b = true ∧ c = true ∧ d = true := by cases a <;> cases b <;> cases c <;> cases d <;> simp at h ⊢
theorem and5 {a b c d e : Bool} (h : (a && b && c && d && e) = true) : a = true ∧ b = true ∧ c = true ∧ d = true ∧ e = true := by cases a <;> cases b <;> cases c <;> cases d <;> cases e <;> simp at h ⊢
theorem and6 {a b c d e f : Bool} (h : (a && b && c && d && e && f) = true) : a = true ∧ b = true ∧ c = true ∧ d = true ∧ e = true ∧ f = true := by cases a <;> cases b <;> cases c <;> cases d <;> cases e <;> cases f <;> simp at h ⊢
theorem and7 {a b c d e f g : Bool} (h : (a && b && c && d && e && f && g) = true) : a = true ∧ b = true ∧ c = true ∧ d = true ∧ e = true ∧ f = true ∧ g = true := by cases a <;> cases b <;> cases c <;> cases d <;> cases e <;> cases f <;> cases g <;> simp at h ⊢
theorem and2 {a b : Bool} (h : (a && b) = true) : a = true ∧ b = true := by cases a <;> cases b <;> simp at h ⊢
theorem glB_ok {x : Str} (C : Cok X T Φ exA L W) (h : glB T x = true) : Gl X x := by
  unfold glB at h
  show X.env.scope.names.lookup x = _
  rw [C.s]
  split at h <;> first | assumption | cases h
theorem blB_ok {x : Str} (C : Cok X T Φ exA L W) (h : blB T x = true) : Gl X x ∧ X.mg x = none := by
  obtain ⟨h1, h2⟩ := and2 h
  exact ⟨glB_ok C h1, C.wl.bl x (of_decide_eq_true h2)⟩
theorem loc_ok {i : Nat} {e : Expr} (C : Cok X T Φ exA L W) (h : ckLoc T i e = true) : PE X e (tVar i) := by
  unfold ckLoc at h
  split at h
  · rename_i x hx
    obtain ⟨h1, h2, h3⟩ := and3 h
    obtain ⟨p, rfl⟩ := vName_some hx
    obtain ⟨d1, d2, _⟩ := dbg_ok h3
    exact pe_var (by rw [C.n]; exact of_decide_eq_true h1) (by rw [C.s]; exact visB_ok h2) d1 d2
  · cases h
theorem snd_loc (i : Nat) : Snd Φ exA L (.loc i) where
  e := fun X T W C x h => pe_loc (loc_ok C (show ckLoc T i x = true from h))
  t := fun X T W C x h => by
    obtain ⟨h1, h2⟩ := pm_t (show (pm .t x && ckLoc T i x) = true from h)
    exact ⟨pt_of (pe_loc (loc_ok C h2)) h1, fun b => (plain_bop h1 b).elim⟩
  i := fun X T W C tg x _ h => pi_seqx (pe_loc (loc_ok C (show ckLoc T i x = true from h)))
  a := fun X T W C es h => by cases es <;> cases h
  n := fun T es h => by cases es <;> cases h
  v := fun X T W C x j hj h => by
    have hj : some i = some j := hj
    cases hj
    exact loc_ok C (show ckLoc T i x = true from h)
theorem lookup_mem {α β : Type} [BEq α] [LawfulBEq α] {l : List (α × β)} {x : α} {y : β} (h : l.lookup x = some y) : (x, y) ∈ l := by
  induction l with
  | nil => cases h
  | cons p l ih =>
    obtain ⟨a, b⟩ := p
    rw [List.lookup_cons] at h
    split at h
    · rename_i hh
      cases h
      rw [eq_of_beq hh]
      exact List.mem_cons_self
    · exact List.mem_cons_of_mem _ (ih h)
theorem snd_gl (x : Str) (d : Sum Int Str) : Snd Φ exA L (.gl x d) := by
  refine .std (fun X T W C e h => ?_) (fun T e h => ?_) (fun T x h => h) (fun _ es => by cases es <;> rfl) rfl
  · have h : (pm .e e && decide (vName e = some x) && glB T x && dbg x && decide (T.gs.lookup x = some d)) = true := h
    obtain ⟨_, h1, h2, h3, h4⟩ := and5 h
    obtain ⟨p, rfl⟩ := vName_some (of_decide_eq_true h1)
    obtain ⟨u, g1, g2⟩ := C.wl.gs (x, d) (lookup_mem (of_decide_eq_true h4))
    cases d with
    | inl i => exact pe_cst (pe_glob (v := .int i) (glB_ok C h2) g1 g2 (dbg_ok h3).1) fun F => .int i
    | inr z => exact pe_cst (pe_glob (v := .str z) (glB_ok C h2) g1 g2 (dbg_ok h3).1) fun F => .str z
  · have h : (pm .t e && decide (vName e = some x) && glB T x && dbg x && decide (T.gs.lookup x = some d)) = true := h
    obtain ⟨h0, h1, h2, h3, h4⟩ := and5 h
    refine ⟨h0, ?_⟩
    show (pm .e e && decide (vName e = some x) && glB T x && dbg x && decide (T.gs.lookup x = some d)) = true
    rw [h1, h2, h3, h4]; rfl

/-! operators -/
variable {a b c : CE}
theorem snd_bin (o : BO) (A : Snd Φ exA L a) (B : Snd Φ exA L b) : Snd Φ exA L (.bin o a b) := by
  refine .std (fun X T W C e h => ?_) (fun T e h => pm_t h) (fun T x h => h) (fun _ es => by cases es <;> rfl) rfl
  obtain ⟨⟨x, p, y⟩, hv, h⟩ := onO_ok (show onO (vBin e) _ = true from h)
  obtain ⟨h1, h2, h3⟩ := and3 h
  obtain ⟨q, rfl⟩ := vBin_some hv
  have h1 := of_decide_eq_true h1
  simp only at h1
  subst h1
  exact pe_un2 (f := opD o) (A.o C h2) (B.o C h3) (fun ta tb => pe_op (bin_ok o)) (rOf_op2 X _)
theorem neg_spec : Op1 X (rU fun i => .int (-i)) (fun d => match d with | .int i => some (.fz (.int (-i))) | _ => none) := by
  intro F H env σ x d sl Q E hv e k
  cases d <;> cases e
  have hv := hv.int
  subst hv
  exact ⟨_, rfl, k.dat E (.int _)⟩
theorem snd_neg (A : Snd Φ exA L a) : Snd Φ exA L (.neg a) := by
  refine .cmps (fun X T W C e h => ?_) (fun X T W C e h => by cases h) (fun T x => rfl) (fun _ es => by cases es <;> rfl) rfl
  obtain ⟨⟨o, x⟩, hv, h⟩ := onO_ok (show onO (vUn e) _ = true from h)
  obtain ⟨h1, h2⟩ := and2 h
  obtain ⟨q, rfl⟩ := vUn_some hv
  have h1 := of_decide_eq_true h1
  simp only at h1
  subst h1
  exact pe_un1 (A.o C h2) (fun ta => pe_un un_neg) neg_spec
theorem isSet_mark {o : CmpOp} {e : Expr} (h : (!isSet e) = true) : behindInMarks o e = false := by cases e <;> first | rfl | cases h
/-- a comparison's answer, as a test -/
theorem tx_val {r : Env' → Res (Sl × Env')} {t : TE} {σ : L2.St} {H : Hp} {Q : Bool → Hp → Prop} (f : ∀ σ H Q, tEx X.K exA W r σ H Q → t σ H Q) (h : tTx X.K exA W r σ H Q) : t σ H fun x H1 => ∃ c, x = .bl c ∧ Q c H1 := f _ _ _ (tx_bool h)
theorem un2_run {r : R2} {f : PyData → PyData → Option Sl} {ra rb : Env' → Res (Sl × Env')} (sp : Op2 X r f) : ∀ σ H Q, tEx X.K exA W (un2 a ra b rb f) σ H Q → tOp r (tOx X.K exA W a ra) (tOx X.K exA W b rb) σ H Q := by
  intro σ H Q q
  obtain ⟨F, env, E, q⟩ := q
  refine ⟨F, env, E, q.bind.mono (fun p _ h1 => ?_) fun _ x => x⟩
  intro v1 F1 H1 E1 s1 m1 _
  refine ⟨F1, p.2, E1, h1.bind.mono (fun p2 _ h2 => ?_) fun _ x => x.after s1⟩
  intro v2 F2 H2 E2 s2 m2 _
  obtain ⟨d, e1, h3⟩ := h2.bind.of
  obtain ⟨d', e2, h4⟩ := h3.bind.of
  obtain ⟨sl, e3, h5⟩ := h4.bind.of
  exact sp F2 H2 _ σ v1 v2 d d' sl Q E2 ((m1.stay s2).view E2 e1) (m2.view E2 e2) e3 (Kt.after (Kt.after h5 s1) s2)
theorem Cok.un (C : Cok X T Φ exA L W) : X.A.units + 100 < cLine := by have := C.rm.un; omega
theorem snd_cmp (o : CO) (A : Snd Φ exA L a) (B : Snd Φ exA L b) : Snd Φ exA L (.cmp o a b) := by
  refine .cmps (fun X T W C e h => ?_) (fun X T W C e h => ?_) (fun T x => rfl) (fun _ es => by cases es <;> rfl) rfl
  · obtain ⟨⟨x, p, y⟩, hv, h⟩ := onO_ok (show onO (vCmp e) _ = true from h)
    obtain ⟨h1, h2, h3, h4⟩ := and4 h
    obtain ⟨q, rfl⟩ := vCmp_some hv
    have h1 := of_decide_eq_true h1
    simp only at h1
    subst h1
    have := C.un
    exact pe_un2 (f := fun d e => bo (cmpD o d e)) (A.o C h3) (B.o C h4) (fun ta tb ha hb => pe_cmpR (cmp_ok (by omega) o) ha hb (isSet_mark h2)) rB_op2
  · obtain ⟨⟨x, p, y⟩, hv, h⟩ := onO_ok (show onO (vCmp e) _ = true from h)
    obtain ⟨h1, h2, h3, h4⟩ := and4 h
    obtain ⟨q, rfl⟩ := vCmp_some hv
    have h1 := of_decide_eq_true h1
    simp only at h1
    subst h1
    have := C.un
    exact ⟨PT.imp (pt_cmpR (cmp_ok (by omega) o) (A.o C h3) (B.o C h4) (isSet_mark h2)) fun σ H Q q => tx_val (un2_run (f := fun d e => bo (cmpD o d e)) rB_op2) q, fun b => by cases b⟩

theorem chn_run {o o' : CO} {ra rb rc : Env' → Res (Sl × Env')} : ∀ σ H Q, tEx X.K exA W (fun env => (opnd a ra env).bind fun p => (opnd b rb p.2).bind fun q => (Res.of (p.1.view q.2)).bind fun d => (Res.of (q.1.view q.2)).bind fun e => (Res.of (cmpD o d e)).bind fun r =>
      if r then (opnd c rc q.2).bind fun s => (Res.of (q.1.view s.2)).bind fun e' => (Res.of (s.1.view s.2)).bind fun f => (Res.of (cmpD o' e' f)).bind fun r' => .ok (.fz (.bool r'), s.2) else .ok (.fz (.bool false), q.2)) σ H Q →
    tChain (rB X (cmpD o)) (rB X (cmpD o')) (tOx X.K exA W a ra) (tOx X.K exA W b rb) (tOx X.K exA W c rc) σ H Q := by
  intro σ H Q q
  obtain ⟨F, env, E, q⟩ := q
  refine ⟨F, env, E, q.bind.mono (fun p _ h1 => ?_) fun _ x => x⟩
  intro v1 F1 H1 E1 s1 m1 _
  refine ⟨F1, p.2, E1, h1.bind.mono (fun p2 _ h2 => ?_) fun _ x => x.after s1⟩
  intro v2 F2 H2 E2 s2 m2 _
  obtain ⟨d, e1, h3⟩ := h2.bind.of
  obtain ⟨d', e2, h4⟩ := h3.bind.of
  obtain ⟨k, e3, h5⟩ := h4.bind.of
  refine ⟨F2, d, d', k, E2.sub, (m1.stay s2).view E2 e1, m2.view E2 e2, e3, k, rfl, ?_⟩
  cases k with
  | false =>
    rw [if_neg (by simp)] at h5 ⊢
    exact (Kt.after (Kt.after h5 s1) s2).dat E2 (.bl false)
  | true =>
    rw [if_pos rfl] at h5 ⊢
    refine ⟨F2, p2.2, E2, h5.bind.mono (fun p3 _ h6 => ?_) fun _ x => (x.after s1).after s2⟩
    intro v3 F3 H3 E3 s3 m3 _
    obtain ⟨d2, f1, h7⟩ := h6.bind.of
    obtain ⟨d3, f2, h8⟩ := h7.bind.of
    obtain ⟨k2, f3, h9⟩ := h8.bind.of
    exact ⟨F3, d2, d3, k2, E3.sub, (m2.stay s3).view E3 f1, m3.view E3 f2, f3, (Kt.after (Kt.after (Kt.after h9 s1) s2) s3).dat E3 (.bl k2)⟩
theorem isSet_marks {o o' : CmpOp} {e f : Expr} (h : (!isSet f) = true) : lastMarks [o, o'] [e, f] = false := isSet_mark (o := o') h
theorem snd_chn (o o' : CO) (A : Snd Φ exA L a) (B : Snd Φ exA L b) (D : Snd Φ exA L c) : Snd Φ exA L (.chn o o' a b c) := by
  refine .cmps (fun X T W C e h => ?_) (fun X T W C e h => ?_) (fun T x => rfl) (fun _ es => by cases es <;> rfl) rfl
  · obtain ⟨⟨x, p, y, p', z⟩, hv, h⟩ := onO_ok (show onO (vChn e) _ = true from h)
    obtain ⟨h1, h2, h3, h4, h5, h6⟩ := and6 h
    obtain ⟨q, rfl⟩ := vChn_some hv
    have g1 := of_decide_eq_true h1
    have g2 := of_decide_eq_true h2
    clear h h1 h2
    simp only at g1 g2
    subst g1 g2
    have := C.un
    exact PE.imp (pe_chain (cmp_ok (by omega) o) (cmp_ok (by omega) o') (A.o C h4) (B.o C h5) (D.o C h6) (isSet_marks h3)) chn_run
  · obtain ⟨⟨x, p, y, p', z⟩, hv, h⟩ := onO_ok (show onO (vChn e) _ = true from h)
    obtain ⟨h1, h2, h3, h4, h5, h6⟩ := and6 h
    obtain ⟨q, rfl⟩ := vChn_some hv
    have g1 := of_decide_eq_true h1
    have g2 := of_decide_eq_true h2
    clear h h1 h2
    simp only at g1 g2
    subst g1 g2
    have := C.un
    exact ⟨PT.imp (pt_chain (cmp_ok (by omega) o) (cmp_ok (by omega) o') (A.o C h4) (B.o C h5) (D.o C h6) (isSet_marks h3)) fun σ H Q q => tx_val chn_run q, fun b => by cases b⟩
def nonD (neg : Bool) (d : PyData) : Bool := match d with | .none => !neg | _ => neg
theorem nonD_eq {K : PySem.W.Frag} {F : Hp} {v : V} {d : PyData} (h : Rp K F v d) (neg : Bool) : (if neg then !decide (v = .non) else decide (v = .non)) = nonD neg d := by
  cases h <;> cases neg <;> simp [nonD]
/-- is None -/
theorem isn_run {neg : Bool} {ra : Env' → Res (Sl × Env')} : ∀ σ H Q, tEx X.K exA W (un1 a ra fun d => some (.fz (.bool (match d with | .none => !neg | _ => neg)))) σ H Q →
    (if neg then tNotN (tOx X.K exA W a ra) else tIsN (tOx X.K exA W a ra)) σ H Q := by
  intro σ H Q q
  have core : tOx X.K exA W a ra σ H fun x H1 => Q (.bl (if neg then !decide (x = .non) else decide (x = .non))) H1 := by
    obtain ⟨F, env, E, q⟩ := q
    refine ⟨F, env, E, q.bind.mono (fun p _ h1 => ?_) fun _ x => x⟩
    intro v1 F1 H1 E1 s1 m1 _
    obtain ⟨d, e1, h3⟩ := h1.bind.of
    obtain ⟨sl, e3, h5⟩ := h3.bind.of
    cases e3
    have hv := (m1.view E1 e1).all E1.sub
    rw [nonD_eq hv neg]
    have h6 : Kt X.K F H env σ p.2 (.fz (.bool (nonD neg d))) Q := h5
    exact (Kt.after h6 s1).dat E1 (.bl _)
  cases neg with
  | true => exact core
  | false => exact core
theorem snd_isn (neg : Bool) (A : Snd Φ exA L a) : Snd Φ exA L (.isn neg a) := by
  refine .cmps (fun X T W C e h => ?_) (fun X T W C e h => ?_) (fun T x => rfl) (fun _ es => by cases es <;> rfl) rfl
  all_goals
    obtain ⟨⟨x, p, y⟩, hv, h⟩ := onO_ok (show onO (vCmp e) _ = true from h)
    obtain ⟨h1, h2, h3⟩ := and3 h
    obtain ⟨q, rfl⟩ := vCmp_some hv
    obtain ⟨k, p', rfl⟩ := vNon_some h2
    have h1 := of_decide_eq_true h1
    simp only at h1
    subst h1
  · cases neg with
    | true => exact PE.imp (pe_cmp (pc_notN (A.o C h3)) rfl) isn_run
    | false => exact PE.imp (pe_cmp (pc_isN (A.o C h3)) rfl) isn_run
  · refine ⟨?_, fun b => by cases b⟩
    cases neg with
    | true => exact PT.imp (pt_cmp (pc_notN (A.o C h3)) rfl) fun σ H Q q => tx_val isn_run q
    | false => exact PT.imp (pt_cmp (pc_isN (A.o C h3)) rfl) fun σ H Q q => tx_val isn_run q
theorem snd_ix (A : Snd Φ exA L a) (B : Snd Φ exA L b) : Snd Φ exA L (.ix a b) := by
  refine .std (fun X T W C e h => ?_) (fun T e h => pm_t h) (fun T x h => h) (fun _ es => by cases es <;> rfl) rfl
  obtain ⟨⟨x, y⟩, hv, h⟩ := onO_ok (show onO (vSub e) _ = true from h)
  obtain ⟨h1, h2, h3⟩ := and3 h
  obtain ⟨q, rfl⟩ := vSub_some hv
  exact pe_un2 (f := fun d e => (ixD d e).map .fz) (A.o C h2) (B.o C h3) (fun ta tb ha hb => pe_ix ix_ok ha hb (plainX_ok h1)) ix_op2
theorem pe_dic0 {pos : Pos} : PE X (.Dict [] [] pos) (tEx X.K exA W fun env => .ok (.fz (.dict []), env)) := by
  refine PE.imp pe_dnewK fun σ H Q q => ?_
  obtain ⟨F, env, E, q⟩ := q
  have q : Kt X.K F H env σ env (.fz (.dict [])) Q := q
  intro p hp
  exact q _ (upd F p (.dK [])) _ (E.layF hp) (Step.layF E _ hp) (.fz (.dic upd_same))
theorem snd_dic : Snd Φ exA L .dic := by
  refine .cmps (fun X T W C e h => ?_) (fun X T W C e h => by cases h) (fun T x => rfl) (fun _ es => by cases es <;> rfl) rfl
  obtain ⟨p, rfl⟩ := vDic_some (show vDic e = true from h)
  exact pe_dic0
theorem snd_lst (A : Snd Φ exA L a) : Snd Φ exA L (.lst a) := by
  refine .std (fun X T W C e h => ?_) (fun T e h => pm_t h) (fun T x h => h) (fun _ es => by cases es <;> rfl) rfl
  obtain ⟨es, hv, h⟩ := onO_ok (show onO (vLst e) _ = true from h)
  obtain ⟨q, rfl⟩ := vLst_some hv
  exact pe_lstx (A.a X T W C es h)
theorem snd_tup (A : Snd Φ exA L a) : Snd Φ exA L (.tup a) := by
  refine .std (fun X T W C e h => ?_) (fun T e h => pm_t h) (fun T x h => h) (fun _ es => by cases es <;> rfl) rfl
  obtain ⟨es, hv, h⟩ := onO_ok (show onO (vTup e) _ = true from h)
  obtain ⟨k, q, rfl⟩ := vTup_some hv
  exact pe_tupx (A.a X T W C es h)

/-! built-in functions -/
theorem un1_run {r : V → Hp → VK → Prop} {f : PyData → Option Sl} {ra : Env' → Res (Sl × Env')} (sp : Op1 X r f) : ∀ σ H Q, tEx X.K exA W (un1 a ra f) σ H Q → tOx X.K exA W a ra σ H fun x H1 => r x H1 Q := by
  intro σ H Q q
  obtain ⟨F, env, E, q⟩ := q
  refine ⟨F, env, E, q.bind.mono (fun p _ h1 => ?_) fun _ x => x⟩
  intro v1 F1 H1 E1 s1 m1 _
  obtain ⟨d, e1, h3⟩ := h1.bind.of
  obtain ⟨sl, e3, h5⟩ := h3.bind.of
  exact sp F1 H1 _ σ v1 d sl Q E1 (m1.view E1 e1) e3 (Kt.after h5 s1)
theorem pa_o1 {e : Expr} {te : TE} (h : PE X e te) (hn : nst e = true) : PA X [e] (fun σ H Q => te σ H fun v H1 => Q [v] H1) := PA.imp (pa_cons h pa_nil (nst_star hn _ _)) fun σ H Q q => q
theorem callB1 {id : String} {x : Str} {f : PyData → Option Sl} {p pos : Pos} {y : Expr} (C : Cok X T Φ exA L W) (hx : blB T x = true) (hc : CallR X (.builtin id) (cOf X f)) (hb : bootBuiltins x = some (.builtin id)) (A : Snd Φ exA L a) (hy : nst y = true) (h : ck a T .e y = true)
    (hn : x ≠ "__name__" := by decide) (hdb : (x == ("__debug__" : Str)) = false := by decide) : PE X (.Call (.Name x p) [y] [] pos) (tEx X.K exA W (un1 a (dE Φ a) f)) :=
  PE.imp (pe_callB hc (blB_ok C hx).1 (blB_ok C hx).2 hb (pa_o1 (A.o C h) hy) hn hdb (he := nst_star hy _ _) (hpl := rfl)) fun σ H Q q => by
    have := un1_run (uOf_op1 X f) σ H Q q
    obtain ⟨F, env, E, q⟩ := this
    exact ⟨F, env, E, q.mono (fun p _ h => fun v F' H' E' s m n => ⟨v, rfl, h v F' H' E' s m n⟩) fun _ x => x⟩
theorem callT1 {x : Str} {ty : String} {f : PyData → Option Sl} {p pos : Pos} {y : Expr} (C : Cok X T Φ exA L W) (hx : blB T x = true) (hc : CallR X (.type ty) (cOf X f)) (hb : bootBuiltins x = some (.type ty)) (A : Snd Φ exA L a) (hy : nst y = true) (h : ck a T .e y = true)
    (hn : x ≠ "__name__" := by decide) (hdb : (x == ("__debug__" : Str)) = false := by decide) : PE X (.Call (.Name x p) [y] [] pos) (tEx X.K exA W (un1 a (dE Φ a) f)) :=
  PE.imp (pe_callTy hc (blB_ok C hx).1 (blB_ok C hx).2 hb (pa_o1 (A.o C h) hy) hn hdb (he := nst_star hy _ _) (hpl := rfl)) fun σ H Q q => by
    have := un1_run (uOf_op1 X f) σ H Q q
    obtain ⟨F, env, E, q⟩ := this
    exact ⟨F, env, E, q.mono (fun p _ h => fun v F' H' E' s m n => ⟨v, rfl, h v F' H' E' s m n⟩) fun _ x => x⟩
theorem snd_b1 (f : B1) (A : Snd Φ exA L a) : Snd Φ exA L (.b1 f a) := by
  refine .std (fun X T W C e h => ?_) (fun T e h => pm_t h) (fun T x h => h) (fun _ es => by cases es <;> rfl) rfl
  obtain ⟨x, h0, h⟩ := onO_ok (show onO (b1Name f) _ = true from h)
  obtain ⟨es, hv, h⟩ := onO_ok h
  obtain ⟨y, h1, h⟩ := onO_ok h
  obtain ⟨h2, h3⟩ := and2 h
  clear h
  have hu := C.un
  cases f <;> (first | cases h0 | skip) <;> obtain ⟨p, p', rfl, hx⟩ := vB_some hv <;> (obtain rfl := one_some h1)
  · exact callB1 C hx len_ok (by decide +kernel) A h2 h3
  · exact callB1 C hx (rep_ok C.gu (by omega)) (by decide +kernel) A h2 h3
  · exact callB1 C hx (sum_ok C.calm) (by decide +kernel) A h2 h3
  · exact callT1 C hx tuple_ok (by decide +kernel) A h2 h3
  · exact callT1 C hx list_ok (by decide +kernel) A h2 h3
  · exact callB1 C hx (min_okc C.calm (by omega)) (by decide +kernel) A h2 h3
  · exact callB1 C hx (max_okc C.calm (by omega)) (by decide +kernel) A h2 h3
  · exact callT1 C hx str_ok (by decide +kernel) A h2 h3
  · exact callB1 C hx sorted_okc (by decide +kernel) A h2 h3
  · exact callT1 C hx int_okc (by decide +kernel) A h2 h3
def b2Id : B2 → String | .min => "min" | .max => "max"
theorem boot_b2 : ∀ f : B2, bootBuiltins (b2Name f) = some (.builtin (b2Id f)) ∧ b2Name f ≠ "__name__" ∧ (b2Name f == ("__debug__" : Str)) = false
  | .min => ⟨by decide +kernel, by decide, by decide⟩
  | .max => ⟨by decide +kernel, by decide, by decide⟩
theorem snd_b2 (f : B2) (A : Snd Φ exA L a) (B : Snd Φ exA L b) : Snd Φ exA L (.b2 f a b) := by
  refine .std (fun X T W C e h => ?_) (fun T e h => pm_t h) (fun T x h => h) (fun _ es => by cases es <;> rfl) rfl
  obtain ⟨es, hv, h⟩ := onO_ok (show onO (vB T (b2Name f) e) _ = true from h)
  obtain ⟨⟨y, z⟩, h1, h⟩ := onO_ok h
  obtain ⟨h2, h3, h4, h5⟩ := and4 h
  clear h
  simp only at h2 h3 h4 h5
  obtain ⟨p, p', rfl, hx⟩ := vB_some hv
  obtain rfl := two_some h1
  have two : ∀ {r : List V → Hp → VK → Prop}, CallR X (.builtin (b2Id f)) r → PE X (.Call (.Name (b2Name f) p) [y, z] [] p') (tCB r (fun σ H Q => tOx X.K exA W a (dE Φ a) σ H fun v H1 => tOx X.K exA W b (dE Φ b) σ H1 fun w H2 => Q [v, w] H2)) := fun {r} hc => by
    refine pe_callB hc (blB_ok C hx).1 (blB_ok C hx).2 (boot_b2 f).1 (PA.imp (pa_cons (A.o C h4) (pa_cons (B.o C h5) pa_nil (nst_star h3 _ _)) (nst_star h2 _ _)) fun σ H Q q => q) (boot_b2 f).2.1 (boot_b2 f).2.2 (he := nst_star h2 _ _) (hpl := by rw [nst_star h3]; rfl)
  have fin : ∀ σ H Q, tEx X.K exA W (un2 a (dE Φ a) b (dE Φ b) (b2D f)) σ H Q → tOx X.K exA W a (dE Φ a) σ H fun v H1 => tOx X.K exA W b (dE Φ b) σ H1 fun w H2 => c2Of X (b2D f) [v, w] H2 Q := fun σ H Q q => by
    obtain ⟨F, env, E, q⟩ := un2_run (rOf_op2 X (b2D f)) σ H Q q
    refine ⟨F, env, E, q.mono (fun p _ h => fun v F' H' E' s m n => ?_) fun _ x => x⟩
    obtain ⟨F2, env2, E2, q2⟩ := h v F' H' E' s m n
    exact ⟨F2, env2, E2, q2.mono (fun p _ h => fun v2 F' H' E' s m n => ⟨v, v2, rfl, h v2 F' H' E' s m n⟩) fun _ x => x⟩
  cases f with
  | min => exact PE.imp (two (min2_ok C.calm)) fin
  | max => exact PE.imp (two (max2_ok C.calm)) fin
theorem boot_ty {t : String} (h : tyNm t = true) : bootBuiltins (Str.ofString t) = some (.type t) ∧ Str.ofString t ≠ "__name__" ∧ (Str.ofString t == ("__debug__" : Str)) = false := by
  have ht : t = "int" ∨ t = "bool" ∨ t = "tuple" ∨ t = "list" ∨ t = "str" := of_decide_eq_true h
  rcases ht with rfl | rfl | rfl | rfl | rfl <;> exact ⟨by decide +kernel, by decide, by decide⟩
theorem snd_isi (t : String) (A : Snd Φ exA L a) : Snd Φ exA L (.isi a t) := by
  refine .std (fun X T W C e h => ?_) (fun T e h => pm_t h) (fun T x h => h) (fun _ es => by cases es <;> rfl) rfl
  obtain ⟨es, hv, h⟩ := onO_ok (show onO (vB T "isinstance" e) _ = true from h)
  obtain ⟨⟨y, z⟩, h1, h⟩ := onO_ok h
  obtain ⟨h2, h3, h4, h5, h6, h7⟩ := and6 h
  clear h
  simp only at h2 h3 h4 h5 h6 h7
  obtain ⟨p, p', rfl, hx⟩ := vB_some hv
  obtain rfl := two_some h1
  obtain ⟨pz, rfl⟩ := vName_some (of_decide_eq_true h5)
  obtain ⟨b1, b2, b3⟩ := boot_ty h6
  refine PE.imp (pe_callB (isi_ok t) (blB_ok C hx).1 (blB_ok C hx).2 boot_isinstance (pa_cons (A.o C h4) (pa_cons (pe_bltn (v := .ty t) (blB_ok C h7).1 (blB_ok C h7).2 b1 rfl b2 b3) pa_nil (nst_star h3 _ _)) (nst_star h2 _ _)) (by decide) (by decide) (he := nst_star h2 _ _) (hpl := by rw [nst_star h3]; rfl)) fun σ H Q q => ?_
  obtain ⟨F, env, E, q⟩ := un1_run (uOf_op1 X fun d => bo (isiD t d)) σ H Q q
  exact ⟨F, env, E, q.mono (fun p _ h => fun v F' H' E' s m n => ⟨v, rfl, h v F' H' E' s m n⟩) fun _ x => x⟩
/-- type(x) is int -/
def rTyD (X : Cx) (neg : Bool) (t : String) : V → Hp → VK → Prop := fun x H Q => ∃ F d, Sub F H ∧ Vw X.K F H x d ∧ excD d = false ∧ Q (.bl (if tyD d = t then !neg else neg)) H
theorem ty_spec (neg : Bool) (t : String) : Op1 X (rTyD X neg t) (istyD neg t) := by
  intro F H env σ x d sl Q E hv e k
  unfold istyD at e
  split at e
  · cases e
  rename_i hx
  cases e
  exact ⟨F, d, E.sub, hv, by simpa using hx, k.dat E (.bl _)⟩
theorem ofS_int : Str.ofString "int" = ("int" : Str) := rfl
theorem snd_isty (neg : Bool) (t : String) (A : Snd Φ exA L a) : Snd Φ exA L (.isty neg a t) := by
  have main : ∀ (X : Cx) (T : Tab) (W : WX), Cok X T Φ exA L W → ∀ e : Expr, (onO (vCmp e) fun p => decide (p.2.1 = if neg then .IsNot else .Is) && decide (vName p.2.2 = some ("int" : Str)) && decide (t = "int") && blB T "int" &&
      onO (vB T "type" p.1) fun es => onO (one? es) fun z => nst z && ck a T .e z) = true → PE X e (tEx X.K exA W (dE Φ (.isty neg a t))) ∧ PT X e (tTx X.K exA W (dE Φ (.isty neg a t))) ∧ isBop e = false := fun X T W C e h => by
    obtain ⟨⟨x, p, y⟩, hv, h⟩ := onO_ok h
    obtain ⟨h1, h2, h3, h4, h5⟩ := and5 h
    clear h
    simp only at h1 h2 h3 h4 h5
    obtain ⟨es, g1, h5⟩ := onO_ok h5
    obtain ⟨z, g2, h5⟩ := onO_ok h5
    obtain ⟨g3, g4⟩ := and2 h5
    obtain ⟨q, rfl⟩ := vCmp_some hv
    obtain ⟨p1, p2, rfl, hx⟩ := vB_some g1
    obtain rfl := one_some g2
    obtain ⟨pz, rfl⟩ := vName_some (of_decide_eq_true h2)
    obtain rfl := of_decide_eq_true h3
    have h1 := of_decide_eq_true h1
    subst h1
    have hi : PE X (.Name ("int" : Str) pz) (tC (.ty "int")) := pe_bltn (v := .ty "int") (blB_ok C h4).1 (blB_ok C h4).2 (by decide +kernel) rfl (by decide) (by decide)
    have ht := pe_callTy (p := p1) (pos := p2) ty_ok (blB_ok C hx).1 (blB_ok C hx).2 (by decide +kernel) (pa_o1 (A.o C g4) g3) (by decide) (by decide) (he := nst_star g3 _ _) (hpl := rfl)
    have run : ∀ σ H Q, tEx X.K exA W (un1 a (dE Φ a) (istyD neg "int")) σ H Q →
        tOp (fun x y H Q => ∃ m n, x = .ty m ∧ y = .ty n ∧ Q (.bl (if neg then !decide (m = n) else decide (m = n))) H) (tCB (fun vs H Q => ∃ x F d, vs = [x] ∧ Sub F H ∧ Vw X.K F H x d ∧ excD d = false ∧ Q (.ty (tyD d)) H) fun σ H Q => tOx X.K exA W a (dE Φ a) σ H fun v H1 => Q [v] H1) (tC (.ty "int")) σ H Q := fun σ H Q q => by
      obtain ⟨F, env, E, q⟩ := un1_run (ty_spec neg "int") σ H Q q
      refine ⟨F, env, E, q.mono (fun p _ h => fun v F' H' E' s m n => ?_) fun _ x => x⟩
      obtain ⟨F2, d, g1, g2, gx, g3⟩ := h v F' H' E' s m n
      refine ⟨v, F2, d, rfl, g1, g2, gx, _, _, rfl, rfl, ?_⟩
      have e : (if neg then !decide (tyD d = "int") else decide (tyD d = "int")) = (if tyD d = "int" then !neg else neg) := by
        by_cases z : tyD d = "int" <;> cases neg <;> simp [z]
      rw [e]; exact g3
    cases neg with
    | true => exact ⟨PE.imp (pe_cmpR op_isNotTy ht hi (nomark _)) run, PT.imp (pt_cmpR op_isNotTy ht hi (nomark _)) fun σ H Q q => tx_val run q, rfl⟩
    | false => exact ⟨PE.imp (pe_cmpR op_isTy ht hi (nomark _)) run, PT.imp (pt_cmpR op_isTy ht hi (nomark _)) fun σ H Q q => tx_val run q, rfl⟩
  exact .cmps (fun X T W C e h => (main X T W C e h).1) (fun X T W C e h => ⟨(main X T W C e h).2.1, fun b => by rw [(main X T W C e h).2.2] at b; cases b⟩) (fun T x => rfl) (fun _ es => by cases es <;> rfl) rfl
end
end Vl
set_option maxHeartbeats 2000000
namespace Vl
open PySem PySem.Spec PyProof.Rows L2
section
variable {Φ : Nat → Fn} {exA : Str → Option Addr} {L : Nat} {X : Cx} {W : WX} {T : Tab} {a b c : CE}
/-! join -/
def rJoin (K : PySem.W.Frag) : R2 := fun x y H Q => (∃ a, x = .str a) ∧ ∃ a p, ∃ ys : List Str, x = .str a ∧ y = .ref p ∧ (SqL K H p (ys.map V.str) ∨ SqT K H p (ys.map V.str)) ∧ (ys.map (·.length)).sum + ys.length * a.length ≤ 16777216 ∧ Q (.str (Txt.join a ys)) H
theorem join_spec : Op2 X (rJoin X.K) (fun d e => (joinD d e).map .fz) := by
  intro F H env σ x y d d' sl Q E h1 h2 e k
  rw [Option.map_eq_some_iff] at e
  obtain ⟨o, e, rfl⟩ := e
  cases d <;> first | cases e | skip
  rename_i z
  replace e : ((seqD d').bind fun xs => (strsD xs).bind fun ys => if (ys.map (·.length)).sum + ys.length * z.length ≤ 16777216 then some (PyData.str (Txt.join z ys)) else none) = some o := e
  rw [Option.bind_eq_some_iff] at e
  obtain ⟨xs, e1, e⟩ := e
  rw [Option.bind_eq_some_iff] at e
  obtain ⟨ys, e2, e⟩ := e
  split at e
  · rename_i hz
    cases e
    have hx := h1.str
    subst hx
    have hs := strsD_map xs e2
    subst hs
    refine ⟨⟨z, rfl⟩, ?_⟩
    cases d' <;> first | cases e1 | skip
    · obtain ⟨p, us, rfl, hq, r⟩ := h2.list E.sub
      have := r.strs
      subst this
      exact ⟨z, p, ys, rfl, rfl, .inl hq, hz, k.dat E (.str _)⟩
    · obtain ⟨p, us, rfl, hq, r⟩ := h2.tup E.sub
      have := r.strs
      subst this
      exact ⟨z, p, ys, rfl, rfl, .inr hq, hz, k.dat E (.str _)⟩
  · cases e
theorem snd_join (z : Str) (B : Snd Φ exA L b) : Snd Φ exA L (.join (.str z) b) := by
  refine .std (fun X T W C e h => ?_) (fun T e h => pm_t h) (fun T x h => h) (fun _ es => by cases es <;> rfl) rfl
  obtain ⟨⟨z', y⟩, hv, h⟩ := onO_ok (show onO (vJoin e) _ = true from h)
  obtain ⟨h1, h2, h3⟩ := and3 h
  clear h
  simp only at h1 h2 h3
  have h1 := of_decide_eq_true h1
  subst h1
  obtain ⟨k, q, ap, p, rfl, hl⟩ := vJoin_some hv
  have A : PE X (.Constant (.str z') k q) (tOx X.K exA W (.str z') (dE Φ (.str z'))) := pe_opnd (pe_cst pe_str fun F => .str z') fun i hi => by cases hi
  refine PE.imp (pe_join A (B.o C h3) (nst_star h2 _ _) rfl hl) fun σ H Q q => ?_
  obtain ⟨F, env, E, q⟩ := un2_run (join_spec (X := X)) σ H Q q
  refine ⟨F, env, E, q.mono (fun p hp h => fun v F' H' E' s m n => ?_) fun _ x => x⟩
  have h := h v F' H' E' s m n
  have hp : Res.ok (Arg.tmp (.fz (.str z')), env) = .ok p := hp
  cases hp
  have m1 : Rp X.K F' v (.str z') := m.1
  cases m1
  refine ⟨⟨_, rfl⟩, ?_⟩
  obtain ⟨F2, env2, E2, q2⟩ := h
  refine ⟨F2, env2, E2, q2.mono (fun p _ h => fun v2 F' H' E' s m n => ?_) fun _ x => x⟩
  obtain ⟨_, a, pp, ys, g1, g2, g3⟩ := h v2 F' H' E' s m n
  exact ⟨a, pp, ys, g1, by rw [g2], g3⟩
/-! calls -/
theorem ckA_nst : ∀ {es : List Expr} {c : CE} {T : Tab}, ckA c T es = true → ∀ e ∈ es, nst e = true
  | [], _, _, _, e, he => by cases he
  | x :: es, c, T, h, e, he => by
    cases c <;> first | cases h | skip
    all_goals
      rename_i u v
      obtain ⟨h1, _, h3⟩ := and3 (show (nst x && ck u T .e x && ckA v T es) = true from h)
      rcases List.mem_cons.mp he with rfl | he
      · exact h1
      · exact ckA_nst h3 e he
theorem snd_call (k : Nat) (A : Snd Φ exA L a) : Snd Φ exA L (.call k a) := by
  refine .std (fun X T W C e h => ?_) (fun T e h => pm_t h) (fun T x h => h) (fun _ es => by cases es <;> rfl) rfl
  obtain ⟨⟨x, es⟩, hv, h⟩ := onO_ok (show onO (vCall e) _ = true from h)
  obtain ⟨h1, h2, h3, h4⟩ := and4 h
  clear h
  simp only at h1 h2 h3 h4
  obtain ⟨p, p', rfl⟩ := vCall_some hv
  obtain ⟨h1, hne⟩ := of_decide_eq_true h1
  obtain ⟨f, fd, ps, g1, g2, g34, G⟩ := C.wl.fn k (x, es.length) h1
  obtain ⟨g3, g4⟩ := g34.get hne
  exact pe_callx G C.rm C.gu C.tk (glB_ok C h2) g1 g2 g3 g4.symm (A.a X T W C es h4) (fun env p hp => A.n T es h4 env p hp) (fun e0 => by subst e0; cases a <;> first | rfl | cases h4) (dbg_ok h3).1 fun e he r => nst_star (ckA_nst h4 e he) r _
theorem fbn_spec : Op1 X (fun x H Q => ∃ i, x = .int i ∧ ¬ i < 0 ∧ (binText i).length ≤ sizeLine ∧ Q (.str (binText i)) H) fbnD := by
  intro F H env σ x d sl Q E hv e k
  unfold fbnD at e
  split at e <;> first | cases e | skip
  have hv := hv.int
  subst hv
  split at e
  · rename_i hz
    cases e
    exact ⟨_, rfl, hz.1, hz.2, k.dat E (.str _)⟩
  · cases e
theorem snd_fbn (A : Snd Φ exA L a) : Snd Φ exA L (.fbn a) := by
  refine .std (fun X T W C e h => ?_) (fun T e h => pm_t h) (fun T x h => h) (fun _ es => by cases es <;> rfl) rfl
  obtain ⟨x, hv, h⟩ := onO_ok (show onO (vFbn e) _ = true from h)
  obtain ⟨k, p1, p2, p3, p4, rfl⟩ := vFbn_some hv
  exact pe_un1 (A.o C h) (fun ta he => pe_fbn he) fbn_spec
theorem spl_spec (z : Str) : Op1 X (fun x H Q => (∃ a, x = .str a) ∧ ∃ a b, x = .str a ∧ [V.str z] = [.str b] ∧ (b.length == 0) = false ∧ a.length + 2 ≤ sizeLine ∧ rNewStrs (Txt.split a b) H Q) (splD z) := by
  intro F H env σ x d sl Q E hv e k
  unfold splD at e
  split at e <;> first | cases e | skip
  have hv := hv.str
  subst hv
  split at e
  · rename_i hz
    cases e
    refine ⟨⟨_, rfl⟩, _, z, rfl, rfl, hz.1, hz.2, fun p hp => ?_⟩
    refine k.newL E (xs := (Txt.split _ z).map V.str) ⟨by simp, fun i v d e1 e2 => ?_⟩ hp
    rw [List.getElem?_map] at e1 e2
    cases q : (Txt.split _ z)[i]? with
    | none => rw [q] at e1; cases e1
    | some y => rw [q] at e1 e2; cases e1; cases e2; exact .str y
  · cases e
theorem snd_spl (z : Str) (A : Snd Φ exA L a) : Snd Φ exA L (.spl a z) := by
  refine .std (fun X T W C e h => ?_) (fun T e h => pm_t h) (fun T x h => h) (fun _ es => by cases es <;> rfl) rfl
  obtain ⟨⟨o, z'⟩, hv, h⟩ := onO_ok (show onO (vSpl e) _ = true from h)
  obtain ⟨h1, h2⟩ := and2 h
  have h1 := of_decide_eq_true h1
  simp only at h1 h2
  subst h1
  obtain ⟨x, i, q, k, p1, ap, p, rfl, rfl, hl⟩ := vSpl_some hv
  refine pe_un1 (A.o C h2) ?_ (spl_spec z')
  exact fun ta he => PE.imp (pe_split he pe_str rfl rfl hl) fun σ H Q q => q
theorem snd_callk (k : Nat) (A : Snd Φ exA L a) (B : Snd Φ exA L b) : Snd Φ exA L (.callk k a b) := by
  refine .std (fun X T W C e h => ?_) (fun T e h => pm_t h) (fun T x h => h) (fun _ es => by cases es <;> rfl) rfl
  obtain ⟨⟨x, ea, eb⟩, hv, h⟩ := onO_ok (show onO (vCallk e) _ = true from h)
  obtain ⟨h1, h2, h3, h4, h5, h6⟩ := and6 h
  clear h
  simp only at h1 h2 h3 h4 h5 h6
  obtain ⟨p, p', p'', rfl⟩ := vCallk_some hv
  obtain ⟨f, fd, ps, g1, g2, g3, G⟩ := C.wl.fn k (x, 1002) (of_decide_eq_true h1)
  exact pe_callk G C.rm C.gu C.tk (glB_ok C h2) g1 g2 g3 (A.e X T W C ea h5) (B.e X T W C eb h6) (dbg_ok h3).1 (nst_star h4 _ _)
/-! arguments -/
theorem Snd.args {c : CE} (h : ∀ T m x, ck c T m x = false) (ha : ∀ (X : Cx) (T : Tab) (W : WX), Cok X T Φ exA L W → ∀ es : List Expr, ckA c T es = true → PA X es (tAx X.K exA W (dA Φ c)))
    (hn : ∀ (T : Tab) (es : List Expr), ckA c T es = true → ∀ env p, dA Φ c env = .ok p → p.1.length = es.length) : Snd Φ exA L c where
  e := fun X T W C x e => by rw [h] at e; cases e
  t := fun X T W C x e => by rw [h] at e; cases e
  i := fun X T W C tg x _ e => by rw [h] at e; cases e
  a := ha
  n := hn
  v := fun X T W C x i _ e => by rw [h] at e; cases e
theorem snd_nil : Snd Φ exA L .nil := by
  refine .args (fun _ _ _ => rfl) (fun X T W C es h => ?_) fun T es h env p hp => ?_
  · cases es with
    | nil => exact pa_nilx
    | cons _ _ => cases h
  · cases es with
    | nil => cases hp; rfl
    | cons _ _ => cases h
theorem snd_cons (A : Snd Φ exA L a) (B : Snd Φ exA L b) : Snd Φ exA L (.cons a b) := by
  refine .args (fun _ _ _ => rfl) (fun X T W C es h => ?_) fun T es h env p hp => ?_
  · cases es with
    | nil => cases h
    | cons e es =>
      obtain ⟨h1, h2, h3⟩ := and3 (show (nst e && ck a T .e e && ckA b T es) = true from h)
      exact pa_consx (A.e X T W C e h2) (B.a X T W C es h3) (nst_star h1 _ _)
  · cases es with
    | nil => cases h
    | cons e es =>
      obtain ⟨h1, h2, h3⟩ := and3 (show (nst e && ck a T .e e && ckA b T es) = true from h)
      have hp : (dE Φ a env).bind (fun p => (Res.of p.1.item).bind fun d => (dA Φ b p.2).bind fun q => .ok (.tmp (.fz d) :: q.1, q.2)) = .ok p := hp
      obtain ⟨p1, e1, hp⟩ := bind_ok hp
      obtain ⟨d, e2, hp⟩ := bind_ok hp
      obtain ⟨q, e3, hp⟩ := bind_ok hp
      cases hp
      simp [B.n T es h3 _ _ e3]
theorem snd_consO (A : Snd Φ exA L a) (B : Snd Φ exA L b) : Snd Φ exA L (.consO a b) := by
  refine .args (fun _ _ _ => rfl) (fun X T W C es h => ?_) fun T es h env p hp => ?_
  · cases es with
    | nil => cases h
    | cons e es =>
      obtain ⟨h1, h2, h3⟩ := and3 (show (nst e && ck a T .e e && ckA b T es) = true from h)
      exact pa_consO (A.o C h2) (B.a X T W C es h3) (nst_star h1 _ _)
  · cases es with
    | nil => cases h
    | cons e es =>
      obtain ⟨h1, h2, h3⟩ := and3 (show (nst e && ck a T .e e && ckA b T es) = true from h)
      have hp : (opnd a (dE Φ a) env).bind (fun p => (dA Φ b p.2).bind fun q => .ok (p.1 :: q.1, q.2)) = .ok p := hp
      obtain ⟨p1, e1, hp⟩ := bind_ok hp
      obtain ⟨q, e3, hp⟩ := bind_ok hp
      cases hp
      simp [B.n T es h3 _ _ e3]
/-! slices -/
theorem PO.imp {e : Option Expr} {t t' : TO} (h : PO X e t) (f : ∀ σ H Q, t' σ H Q → t σ H Q) : PO X e t' := ⟨fun pins s σ H Q I q => h.run pins s σ H Q I (f σ H Q q)⟩
def tPx (K : PySem.W.Frag) (exA : Str → Option Addr) (W : WX) (r : Env' → Res (Sl × Env')) : TO := fun σ H Q => ∃ F env, EnvOk K F H env σ ∧
  OnR (r env) (fun p => ∃ o, partD p.1 = some o ∧ ∀ F' H', EnvOk K F' H' p.2 σ → Step F H (Ow env σ) F' H' (Ow p.2 σ) → Q o H') (Xk exA W F H (Ow env σ))
theorem po_x {e : Expr} {r : Env' → Res (Sl × Env')} (h : PE X e (tEx X.K exA W r)) : PO X (some e) (tPx X.K exA W r) := by
  refine ⟨fun pins s σ H Q I q => ?_⟩
  rw [evalPart_some]
  obtain ⟨F, env, E, q⟩ := q
  refine thn (h.run pins s σ H (fun x H1 => ∃ o, ((x = .non ∧ o = none) ∨ ∃ i, x = .int i ∧ o = some i) ∧ Q o H1) I ⟨F, env, E, q.mono (fun p _ h => ?_) fun _ x => x⟩) fun u s1 ⟨x, H1, I1, r1, o, hx, q1⟩ => ?_
  · obtain ⟨o, ho, k⟩ := h
    intro v F' H' E' st t
    refine ⟨o, ?_, k F' H' E' st⟩
    unfold partD at ho
    have ok := t.ok
    split at ho <;> cases ho <;> rename_i he <;> rw [he] at ok
    · have ok : Rp X.K F' v .none := ok
      cases ok; exact .inl ⟨rfl, rfl⟩
    · have ok : Rp X.K F' v (.int _) := ok
      cases ok; exact .inr ⟨_, rfl, rfl⟩
  · rcases hx with ⟨rfl, rfl⟩ | ⟨i, rfl, rfl⟩
    · cases r1
      exact ⟨none, H1, I1, .none, q1⟩
    · obtain ⟨t, rfl⟩ := r1
      exact ⟨some i, H1, I1, .int i t, q1⟩
theorem po_no : PO X none (tPx X.K exA W (dE Φ .nop)) := by
  refine PO.imp po_none fun σ H Q q => ?_
  obtain ⟨F, env, E, q⟩ := q
  have q : ∃ o, partD (.fz .none) = some o ∧ ∀ F' H', EnvOk X.K F' H' env σ → Step F H (Ow env σ) F' H' (Ow env σ) → Q o H' := q
  obtain ⟨o, ho, k⟩ := q
  cases ho
  exact k F H E (Step.refl _ _ _)
theorem po_by (A : Snd Φ exA L a) (C : Cok X T Φ exA L W) {o : Option Expr} (h : onP (partC a) o (ck a T .e) = true) : PO X o (tPx X.K exA W (dE Φ a)) := by
  cases o with
  | none =>
    cases a <;> first | cases h | skip
    exact po_no
  | some e => exact po_x (A.e X T W C e h)
theorem snd_sl (A : Snd Φ exA L a) (B : Snd Φ exA L b) (D : Snd Φ exA L c) : Snd Φ exA L (.sl a b c) := by
  refine .std (fun X T W C e h => ?_) (fun T e h => pm_t h) (fun T x h => h) (fun _ es => by cases es <;> rfl) rfl
  obtain ⟨⟨x, y⟩, hv, h⟩ := onO_ok (show onO (vSub e) _ = true from h)
  obtain ⟨⟨lo, hi⟩, hw, h⟩ := onO_ok h
  obtain ⟨h1, h2, h3⟩ := and3 h
  clear h
  obtain ⟨p, rfl⟩ := vSub_some hv
  obtain ⟨p2, hy⟩ := vSli_some hw
  simp only at hy h1 h2 h3
  subst hy
  refine PE.imp (pe_slice sl_ok (A.o C h1) (po_by B C h2) (po_by D C h3)) fun σ H Q q => ?_
  obtain ⟨F, env, E, q⟩ := q
  have q : OnR ((opnd a (dE Φ a) env).bind fun p => (dE Φ b p.2).bind fun q => (Res.of (partD q.1)).bind fun l => (dE Φ c q.2).bind fun r => (Res.of (partD r.1)).bind fun h => (Res.of (p.1.view r.2)).bind fun d => (Res.of (slD d l h)).bind fun s => .ok (s, r.2)) (fun p => Kt X.K F H env σ p.2 p.1 Q) (Xk exA W F H (Ow env σ)) := q
  refine ⟨F, env, E, q.bind.mono (fun p _ h1 => ?_) fun _ x => x⟩
  intro v F1 H1 E1 s1 m1 _
  refine ⟨F1, p.2, E1, h1.bind.mono (fun q hq h2 => ?_) fun _ x => x.after s1⟩
  obtain ⟨l, e1, h3⟩ := h2.bind.of
  refine ⟨l, e1, fun F2 H2 E2 s2 => ⟨F2, q.2, E2, h3.bind.mono (fun r hr h4 => ?_) fun _ x => (x.after s1).after s2⟩⟩
  obtain ⟨hh, e2, h5⟩ := h4.bind.of
  refine ⟨hh, e2, fun F3 H3 E3 s3 => ?_⟩
  obtain ⟨d, e3, h6⟩ := h5.bind.of
  obtain ⟨s, e4, h7⟩ := h6.bind.of
  exact ⟨F3, r.2, σ, d, s, E3, ((m1.stay s2).stay s3).view E3 e3, e4, Kt.after (Kt.after (Kt.after h7 s1) s2) s3⟩
/-! t[::-1] -/
def rRevT (K : PySem.W.Frag) : V → Hp → VK → Prop := fun x H Q => ∃ t xs, x = .ref t ∧ SqT K H t xs ∧ ∀ p, H p = none → Q (.ref p) (upd H p (.tup xs.reverse))
theorem pe_revx {e st : Expr} {te : TE} {p2 pos : Pos} (he : PE X e te) (hst : PE X st (tC (.int (-1)))) : PE X (.Subscript e (.Slice none none (some st) p2) pos) (fun σ H Q => te σ H fun x H1 => rRevT X.K x H1 Q) := by
  refine ⟨fun pins s σ H Q I h => ?_⟩
  refine Subscript_ (thn (he.run pins s σ H _ I h) fun v s1 ⟨x, H1, I1, r1, q1⟩ => wpAny_Slice ?_)
  rw [evalPart_none]
  refine wpAny_pure (wpAny_pure ?_)
  rw [evalPart_some]
  refine thn (hst.run pins s1 σ H1 (fun y H' => y = .int (-1) ∧ H' = H1) I1 ⟨rfl, rfl⟩) fun u s2 ⟨y, H2, I2, r2, e1, e2⟩ => ?_
  subst e1 e2
  obtain ⟨tk, rfl⟩ := r2
  obtain ⟨t, xs, rfl, hq, k⟩ := q1
  cases r1
  have I4 : Inv X pins σ H2 { s2 with heap := s2.heap.push { cls := .type "slice", data := .fields #[.none, .none, .int (-1) tk] } } := I2.kept (t' := s2.toks) fun b ob z => Heap.get?_push_of_some _ z
  obtain ⟨its, rv, pt, hz⟩ := I4.tuple hq
  have ht : IsTup (s2.heap.push { cls := .type "slice", data := .fields #[.none, .none, .int (-1) tk] }) t its.toArray := pt
  have hl := rv.length
  refine tail_any (ops := [.ref t, .ref s2.heap.objs.size]) ht.typeIs slot_tuple_getitem.lookup (tup_rev ht (Heap.IsSliceOf.new ..) (by rw [List.size_toArray]; omega) ?_) (by with_unfolding_all rfl)
  refine ⟨.ref _, _, I4.laid (t' := s2.toks) (fun b o z => Heap.get?_push_of_some _ z) (Nat.le_refl _) (show ObjOk X.prog X.w _ _ _ (.tup xs.reverse) from ⟨by rw [List.length_reverse]; omega, its.reverse, rv.reverse, ?_⟩), rfl, k _ I4.fresh⟩
  have := IsTup.new (s2.heap.push { cls := .type "slice", data := .fields #[.none, .none, .int (-1) tk] }) its.toArray.toList.reverse.toArray
  exact this
theorem rev_spec : Op1 X (fun x H Q => rBack X.K x (.int (-1)) H Q) revD := by
  intro F H env σ x d sl Q E hv e k
  unfold revD at e
  split at e <;> first | cases e | skip
  · obtain ⟨p, xs, rfl, g, r⟩ := hv.tup E.sub
    exact ⟨rfl, p, xs, rfl, .inl ⟨g, fun q hq => k.newT E r.reverse hq⟩⟩
  · obtain ⟨p, xs, rfl, g, r⟩ := hv.list E.sub
    exact ⟨rfl, p, xs, rfl, .inr ⟨g, fun q hq => k.newL E r.reverse hq⟩⟩
theorem snd_rev (A : Snd Φ exA L a) : Snd Φ exA L (.rev a) := by
  refine .std (fun X T W C e h => ?_) (fun T e h => pm_t h) (fun T x h => h) (fun _ es => by cases es <;> rfl) rfl
  obtain ⟨⟨x, y⟩, hv, h⟩ := onO_ok (show onO (vSub e) _ = true from h)
  obtain ⟨st, hw, h⟩ := onO_ok h
  obtain ⟨⟨o, z⟩, hz, h⟩ := onO_ok h
  obtain ⟨h1, h2, h3⟩ := and3 h
  clear h
  simp only at h1 h2 h3 hw
  obtain ⟨p, rfl⟩ := vSub_some hv
  obtain ⟨p2, rfl⟩ := vSli1_some hw
  obtain ⟨p3, rfl⟩ := vUn_some hz
  obtain ⟨k1, p4, rfl⟩ := vInt_some (of_decide_eq_true h2)
  have h1 := of_decide_eq_true h1
  subst h1
  have hm : PE X (.UnaryOp .USub (.Constant (.int 1) k1 p4) p3) (tC (.int (-1))) := PE.imp (pe_un un_neg pe_int) fun σ H Q q => ⟨1, rfl, q⟩
  exact PE.imp (pe_back (A.o C h3) hm) (un1_run (f := revD) rev_spec)
end
end Vl
set_option maxHeartbeats 2000000
namespace Vl
open PySem PySem.Spec PyProof.Rows L2
/-! exceptions that are held as values: isinstance; count and index of a list of flat things -/
section
variable {X : Cx} {pins : List (Addr × Obj)} {σ : L2.St} {H : Hp} {s : Shared}
theorem exc_kit (I : Inv X pins σ H s) {a C : Addr} (h : H a = some (ExcH C a)) (E : ExcC X.K C) : ∃ P : Heap → Prop, PySem.W.KitX X.K (.ref a) (.ref C) P ∧ P s.heap := by
  obtain ⟨⟨oe, vs, g1, g2, g3⟩, _⟩ := (show ObjOk X.prog X.w H s.heap a (ExcH C a) from I.hok a _ h)
  obtain ⟨oc, od, oda, osl⟩ := oe
  obtain ⟨z1, z2⟩ := g2
  dsimp only at z1 z2 g3
  subst z1 z2 g3
  exact ⟨_, PySem.W.handS_kitx_exc E.hg E.hk E.hs E.hd E.ha E.hn E.ht E.hm, ⟨g1, rfl, rfl, trivial⟩⟩
/-- isinstance of an exception: one class, or a tuple of classes that was just laid -/
def rIsx (X : Cx) : List V → Hp → VK → Prop := fun xs H Q => ∃ (a C : Addr) (c : V) (b : Bool), xs = [.ref a, c] ∧ H a = some (ExcH C a) ∧ ExcC X.K C ∧
  ((∃ u, ClsV c u ∧ PySem.W.kitOne X.K (.ref C) u = some b) ∨ ∃ (tp : Addr) (Ds : List Addr), c = .ref tp ∧ H tp = some (.tup (Ds.map V.ref)) ∧ PySem.W.kitAny X.K (.ref C) (Ds.map Value.ref) = some b) ∧ Q (.bl b) H
theorem refs_cls : ∀ Ds : List Addr, Paired ClsV (Ds.map V.ref) (Ds.map Value.ref)
  | [] => .nil
  | D :: r => .cons (.own D) (refs_cls r)
theorem call_isx : CallR X (.builtin "isinstance") (rIsx X) := by
  intro pins s σ H xs us Q I r h
  obtain ⟨a, C, c, b, rfl, hH, E, hc, q⟩ := h
  obtain ⟨u1, u2, rfl, r1, r2⟩ := vals2 r
  cases (show u1 = Value.ref a from r1)
  obtain ⟨P, Z, p⟩ := exc_kit I hH E
  rcases hc with ⟨u, k, e⟩ | ⟨tp, Ds, rfl, hT, e⟩
  · have e2 := k.eq r2
    subst e2
    exact PySem.W.kia_one Z I.kIn p e (fun z => nomatch z) fun tk => ⟨.bl b, H, I.tok tk, rfl, q⟩
  · cases (show u2 = Value.ref tp from r2)
    obtain ⟨_, its, rv, o, h1, h2, n, h3⟩ := (show ObjOk X.prog X.w H s.heap tp (.tup (Ds.map V.ref)) from I.hok tp _ hT)
    have e3 := ClsV.all (refs_cls Ds) rv
    subst e3
    obtain ⟨oc, od, dt, sl⟩ := o
    simp only at h2 h3
    subst h2 h3
    exact PySem.W.kia_tup Z I.kIn p h1 e (fun z => nomatch z) fun tk => ⟨.bl b, H, I.tok tk, rfl, q⟩
end
section
variable {X : Cx} {T : Tab} {Φ : Nat → Fn} {exA : Str → Option Addr} {L : Nat} {W : WX} {a b : CE}
theorem clN_ok {y : Str} (C : Cok X T Φ exA L W) (h : clN T y = true) : Gl X y ∧ (y == ("__debug__" : Str)) = false ∧ (∃ D : Addr, X.mg y = some (.ref D)) ∧ y ∈ T.cl ∧ y ≠ ("ValueError" : Str) := by
  obtain ⟨h1, h2, h3, h4⟩ := and4 h
  have h3 := of_decide_eq_true h3
  exact ⟨glB_ok C h1, (dbg_ok h2).1, C.wl.cl y h3, h3, of_decide_eq_true h4⟩
/-- the classes' places -/
inductive Clss (X : Cx) (T : Tab) : List Str → List Addr → Prop where
  | nil : Clss X T [] []
  | cons {y : Str} {D : Addr} {ys : List Str} {Ds : List Addr} (m : X.mg y = some (.ref D)) (i : y ∈ T.cl) (r : Clss X T ys Ds) : Clss X T (y :: ys) (D :: Ds)
theorem Clss.len {ys : List Str} {Ds : List Addr} (h : Clss X T ys Ds) : Ds.length = ys.length := by
  induction h with
  | nil => rfl
  | cons _ _ _ ih => simp [ih]
def tPuts (vs : List V) : TA := fun _ H Q => Q vs H
theorem pa_cls (C : Cok X T Φ exA L W) : ∀ (ys : List Str) (es : List Expr), clL T ys es = true → ∃ Ds, Clss X T ys Ds ∧ PA X es (tPuts (Ds.map V.ref)) ∧ es.length = ys.length
  | [], [], _ => ⟨[], .nil, pa_nil, rfl⟩
  | y :: ys, e :: es, h => by
    obtain ⟨h1, h2, h3, h4⟩ := and4 (show (nst e && decide (vName e = some y) && clN T y && clL T ys es) = true from h)
    obtain ⟨p, rfl⟩ := vName_some (of_decide_eq_true h2)
    obtain ⟨g1, g2, ⟨D, g3⟩, g4, _⟩ := clN_ok C h3
    obtain ⟨Ds, k1, k2, k3⟩ := pa_cls C ys es h4
    exact ⟨D :: Ds, .cons g3 g4 k1, PA.imp (pa_cons (pe_glob g1 g3 (v := .ref D) rfl g2) k2 (nst_star h1 _ _)) fun _ _ _ q => q, by simp [k3]⟩
  | [], _ :: _, h => by cases h
  | _ :: _, [], h => by cases h
theorem any_cls {c : Str} {Cc : Addr} (z : XcOk X.K X.mg T.cl c Cc) : ∀ {ys : List Str} {Ds : List Addr}, Clss X T ys Ds → PySem.W.kitAny X.K (.ref Cc) (Ds.map Value.ref) = some (ys.any (subX c))
  | _, _, .nil => kitAny_nil
  | y :: ys, D :: Ds, .cons m i r => by
    have h1 := z.own y i D m
    have h2 := any_cls z r
    refine kitAny_cons (cs := Ds.map Value.ref) h1 (fun e => ?_) fun e => ?_
    · rw [List.any_cons, e, Bool.false_or]; exact h2
    · rw [List.any_cons, e, Bool.true_or]
/-- what is known of an exception that is asked -/
theorem isx_dat {rs cs : List Str} {F H : Hp} {x : V} {d : PyData} {sl : Sl} (C : Cok X T Φ exA L W) (hr : rs.all (fun c => decide (c ∈ T.xs)) = true) (S : Sub F H) (hv : Vw X.K F H x d) (e : bo (isxD rs cs d) = some sl) :
    ∃ (a Cc : Addr) (c : Str), x = .ref a ∧ H a = some (ExcH Cc a) ∧ XcOk X.K X.mg T.cl c Cc ∧ sl = .fz (.bool (cs.any (subX c))) := by
  have h := hv.all S
  unfold isxD at e
  split at e
  · rename_i c
    split at e
    · rename_i hc
      cases e
      cases h with
      | @exc a Cc _ h1 h2 =>
        have hx := of_decide_eq_true (List.all_eq_true.mp hr c hc)
        obtain ⟨C', _, _, _, _, e1, _⟩ := C.wl.ex c hx
        have z := C.wl.xc c C' e1
        have e2 := z.ns
        rw [h2] at e2
        cases e2
        exact ⟨a, Cc, c, rfl, h1, z, rfl⟩
    · cases e
  · cases e
theorem snd_isx (rs cs : List Str) (A : Snd Φ exA L a) : Snd Φ exA L (.isx a rs cs) := by
  refine .std (fun X T W C e h => ?_) (fun T e h => pm_t h) (fun T x h => h) (fun _ es => by cases es <;> rfl) rfl
  obtain ⟨es, hv, h⟩ := onO_ok (show onO (vB T "isinstance" e) _ = true from h)
  obtain ⟨⟨y, z⟩, h1, h⟩ := onO_ok h
  obtain ⟨h2, h3, h4, h5, h6⟩ := and5 h
  clear h
  simp only at h2 h3 h4 h5 h6
  obtain ⟨p, p', rfl, hx⟩ := vB_some hv
  obtain rfl := two_some h1
  -- the second argument
  have go : ∀ (tc : TE), PE X z tc → (∀ (a Cc : Addr) (c : Str) (H : Hp) (σ : L2.St) (Q : VK), H a = some (ExcH Cc a) → XcOk X.K X.mg T.cl c Cc → (∀ H', (H' = H ∨ ∃ tp o, H tp = none ∧ H' = upd H tp o) → Q (.bl (cs.any (subX c))) H') → tc σ H fun v H' => rIsx X [.ref a, v] H' Q) →
      PE X (.Call (.Name "isinstance" p) [y, z] [] p') (tEx X.K exA W (dE Φ (.isx a rs cs))) := fun tc hz hq => by
    refine PE.imp (pe_callB call_isx (blB_ok C hx).1 (blB_ok C hx).2 boot_isinstance (pa_cons (A.o C h4) (pa_cons hz pa_nil (nst_star h3 _ _)) (nst_star h2 _ _)) (by decide) (by decide) (he := nst_star h2 _ _) (hpl := by rw [nst_star h3]; rfl)) fun σ H Q q => ?_
    obtain ⟨F, env, E, q⟩ := un1_run (uOf_op1 X fun d => bo (isxD rs cs d)) σ H Q q
    refine ⟨F, env, E, q.mono (fun p _ h => fun v F' H' E' s m n => ?_) fun _ x => x⟩
    obtain ⟨F2, env2, σ2, d, sl, E2, v2, e2, k2⟩ := h v F' H' E' s m n
    obtain ⟨a0, Cc, c, rfl, g1, g2, rfl⟩ := isx_dat C h5 E2.sub v2 e2
    refine hq a0 Cc c H' σ _ g1 g2 fun H3 g3 => ?_
    rcases g3 with rfl | ⟨tp, o, g3, rfl⟩
    · exact k2.dat E2 (.bl _)
    · exact (k2.after (Step.layF E2 _ g3)).dat (E2.layF g3) (.bl _)
  cases z with
  | Name x px =>
    obtain ⟨i1, i2⟩ := and2 (show (decide (cs = [x]) && (clN T x || (decide (x = ("ValueError" : Str)) && blB T x))) = true from h6)
    have i1 := of_decide_eq_true i1
    subst i1
    rw [Bool.or_eq_true] at i2
    rcases i2 with i2 | i2
    · obtain ⟨g1, g2, ⟨D, g3⟩, g4, _⟩ := clN_ok C i2
      refine go _ (pe_glob g1 g3 (v := .ref D) rfl g2) fun a0 Cc c H σ Q k1 k2 k3 => ?_
      refine ⟨a0, Cc, .ref D, subX c x, rfl, k1, k2.cls, .inl ⟨_, .own D, k2.own x g4 D g3⟩, ?_⟩
      have := k3 H (.inl rfl)
      simpa using this
    · obtain ⟨i3, i4⟩ := and2 i2
      have i3 := of_decide_eq_true i3
      subst i3
      refine go _ (pe_bltn (v := .ty "ValueError") (blB_ok C i4).1 (blB_ok C i4).2 (by decide +kernel) rfl (by decide) (by decide)) fun a0 Cc c H σ Q k1 k2 k3 => ?_
      refine ⟨a0, Cc, .ty "ValueError", true, rfl, k1, k2.cls, .inl ⟨_, .ty "ValueError", k2.val⟩, ?_⟩
      have := k3 H (.inl rfl)
      simpa [subX] using this
  | Tuple es cx px =>
    obtain ⟨hn, h6⟩ := and2 (show (decide (cs.length ≤ 100) && clL T cs es) = true from h6)
    obtain ⟨Ds, k1, k2, k3⟩ := pa_cls C cs es h6
    refine go _ (pe_tup k2) fun a0 Cc c H σ Q k4 k5 k6 => ?_
    refine ⟨?_, fun t ht => ?_⟩
    · rw [List.length_map, k1.len, line_eq]
      exact Nat.le_trans (of_decide_eq_true hn) (by decide)
    · have na : a0 ≠ t := by rintro rfl; rw [k4] at ht; cases ht
      exact ⟨a0, Cc, .ref t, cs.any (subX c), rfl, (upd_ne na).trans k4, k5.cls, .inr ⟨t, Ds, rfl, upd_same, any_cls k5 k1⟩, k6 _ (.inr ⟨t, _, ht, rfl⟩)⟩
  | _ => cases h6
/-! count, index -/
def rLmt (X : Cx) (ix : Bool) : V → List V → Hp → VK → Prop := fun x xs H Q => ∃ (F : Hp) (a : Addr) (ys : List V) (ds : List PyData) (y : V) (d : PyData) (n : Nat), x = .ref a ∧ xs = [y] ∧ H a = some (.lst ys) ∧ Sub F H ∧ RpA X.K F ys ds ∧ Rp X.K H y d ∧ lmtD ix ds d = some n ∧ Q (.int (n : Nat)) H
theorem flat_cnt {K : PySem.W.Frag} {F : Hp} {y : V} {d : PyData} (hy : Rp K F y d) (fy : flatD d = true) : ∀ {ys : List V} {ds : List PyData}, RpA K F ys ds → ds.all flatD = true → ys.countP (fun z => eqV z y) = ds.countP (fun e => PyData.eqv e d)
  | [], [], _, _ => rfl
  | [], _ :: _, h, _ => by have := h.n; simp at this
  | _ :: _, [], h, _ => by have := h.n; simp at this
  | v :: xs, e :: es, h, f => by
    rw [List.all_cons, Bool.and_eq_true] at f
    rw [List.countP_cons, List.countP_cons, flat_cnt hy fy h.tail f.2, flat_eqv h.head hy f.1 fy]
theorem vals_cnt {P : V → Bool} {p : Value → Bool} : ∀ {ys : List V} {its : List Value}, Vals ys its → (∀ v u, v ∈ ys → RelV v u → p u = P v) → its.countP p = ys.countP P
  | _, _, .nil, _ => rfl
  | _, _, .cons r t, h => by
    rw [List.countP_cons, List.countP_cons, vals_cnt t fun v u m q => h v u (List.mem_cons_of_mem _ m) q, h _ _ List.mem_cons_self r]
theorem mt_cntF : MtR X "list.count" (rLmt X false) := by
  intro pins s σ H x xs v us Q I rx rxs h
  obtain ⟨F, a, ys, ds, y, d, n, rfl, rfl, hs, S, ry, rd, e, q⟩ := h
  unfold lmtD at e
  split at e <;> first | cases e | skip
  rename_i hc
  rw [Bool.and_eq_true] at hc
  have ryH : RpA X.K H ys ds := ry.sub S
  have fy := flat_V rd hc.1
  have fys := flat_all ryH hc.2
  cases rx
  obtain ⟨u, rfl, ru⟩ := rxs.one
  obtain ⟨its, rv, ⟨⟨cls, dd, data, sl⟩, m, ho, h1, hdn, h2⟩, hlen⟩ := I.list (show SqL X.K H a ys from .inl (.inl hs))
  simp only at h1 h2
  subst h1 h2
  refine call_meets PySem.F.slot_list_count ⟨_, ho, rfl⟩ PySem.F.entry_list_count (PySem.F.args_list_count_2 _ _)
    (SeqAt.list_countAt a its.toArray m dd sl u (eqU y)) ⟨ho, fun w hw => mem_eqAt ru fy rv fys w (by simpa using hw), ?_⟩
  have ec : its.toArray.toList.countP (eqU y) = ds.countP (fun z => PyData.eqv z d) := by
    rw [← flat_cnt rd hc.1 ryH hc.2]
    exact vals_cnt rv fun v w hv r => eqU_of r (List.all_eq_true.mp fys v hv)
  refine ⟨.int (ds.countP (fun z => PyData.eqv z d) : Nat), H, I.tok _, ⟨s.toks, ?_⟩, q⟩
  show Value.int ((its.toArray.toList.countP (eqU y) : Nat) : Int) s.toks = _
  rw [ec]
theorem mt_idxF : MtR X "list.index" (rLmt X true) := by
  intro pins s σ H x xs v us Q I rx rxs h
  obtain ⟨F, a, ys, ds, y, d, n, rfl, rfl, hs, S, ry, rd, e, q⟩ := h
  unfold lmtD at e
  split at e <;> first | cases e | skip
  rename_i hc
  rw [Bool.and_eq_true] at hc
  have ryH : RpA X.K H ys ds := ry.sub S
  simp only [if_true] at e
  split at e <;> first | cases e | skip
  rename_i hany
  have lt : ds.findIdx (fun y => PyData.eqv y d) < ds.length := List.findIdx_lt_length_of_exists (by obtain ⟨w, h1, h2⟩ := List.any_eq_true.mp hany; exact ⟨w, h1, h2⟩)
  have at_ : ∀ {m : Nat} {z : V}, ys[m]? = some z → ∃ e, ds[m]? = some e ∧ eqV z y = PyData.eqv e d := fun {m z} hz => by
    obtain ⟨e, h1, h2⟩ := ryH.getV hz
    exact ⟨e, h1, flat_eqv h2 rd (List.all_eq_true.mp hc.2 e (List.mem_of_getElem? h1)) hc.1⟩
  have hn := ryH.n
  have lt2 : ds.findIdx (fun y => PyData.eqv y d) < ys.length := by omega
  refine mt_index pins s σ H _ _ _ _ Q I rx rxs ⟨a, ys, y, _, ys[ds.findIdx (fun y => PyData.eqv y d)], rfl, rfl, .inl (.inl hs), flat_V rd hc.1, flat_all ryH hc.2, List.getElem?_eq_getElem lt2, ?_, fun m z hm hz => ?_, q⟩
  · obtain ⟨e, h1, h2⟩ := at_ (List.getElem?_eq_getElem lt2)
    rw [h2]
    rw [List.getElem?_eq_getElem lt] at h1
    cases h1
    exact List.findIdx_getElem (p := fun y => PyData.eqv y d) (w := lt)
  · obtain ⟨e, h1, h2⟩ := at_ hz
    rw [h2]
    have hlt : m < ds.length := by omega
    rw [List.getElem?_eq_getElem hlt] at h1
    cases h1
    have := List.not_of_lt_findIdx hm
    simpa using this
theorem slot_ol {K : PySem.W.Frag} {F H : Hp} {env : Env'} {σ : L2.St} {i : Nat} {ds : List PyData} (E : EnvOk K F H env σ) (h : olD env[i]? = some ds) : ∃ a xs, σ[i]? = some (some (.ref a)) ∧ H a = some (.lst xs) ∧ RpA K F xs ds := by
  unfold olD at h
  split at h
  · rename_i ds' e
    cases h
    obtain ⟨v, g1, a, xs, rfl, _, g2, g3⟩ := E.ok i _ e (by simp)
    exact ⟨a, xs, g1, g2, g3⟩
  · cases h
theorem lmt_run (ix : Bool) {i : Nat} {rb : Env' → Res (Sl × Env')} : ∀ σ H Q, tEx X.K exA W (fun env => (Res.of (olD env[i]?)).bind fun _ => (opnd b rb env).bind fun p => (Res.of (p.1.view p.2)).bind fun d => (Res.of (olD p.2[i]?)).bind fun ds => (Res.of (lmtD ix ds d)).bind fun n => .ok (.fz (.int (n : Nat)), p.2)) σ H Q →
    tBM X.K "list" (rLmt X ix) (tVar i) (fun σ H Q => tOx X.K exA W b rb σ H fun v H1 => Q [v] H1) σ H Q := by
  intro σ H Q q
  obtain ⟨F, env, E, q⟩ := q
  obtain ⟨d0, e0, q⟩ := q.bind.of
  obtain ⟨a0, xs0, g1, g3, _⟩ := slot_ol E e0
  refine ⟨_, g1, .inl ⟨rfl, xs0, .inl (.inl g3)⟩, F, env, E, q.bind.mono (fun p _ h => ?_) fun _ x => x⟩
  intro v F1 H1 E1 s1 m1 _
  obtain ⟨d, e1, h3⟩ := h.bind.of
  obtain ⟨ds, e2, h4⟩ := h3.bind.of
  obtain ⟨n, e3, h5⟩ := h4.bind.of
  obtain ⟨a, xs, k1, k3, k4⟩ := slot_ol E1 e2
  rw [g1] at k1
  cases k1
  have hv := m1.view E1 e1
  refine ⟨F1, a0, xs, ds, v, d, n, rfl, rfl, k3, E1.sub, k4, hv.all E1.sub, e3, ?_⟩
  exact (h5.after s1).dat E1 (.int _)
theorem snd_lmt (ix : Bool) (i : Nat) (B : Snd Φ exA L b) : Snd Φ exA L (.lmt ix i b) := by
  refine .std (fun X T W C e h => ?_) (fun T e h => pm_t h) (fun T x h => h) (fun _ es => by cases es <;> rfl) rfl
  obtain ⟨⟨o, nm, x⟩, hv, h⟩ := onO_ok (show onO (vLm e) _ = true from h)
  obtain ⟨h1, h2, h3, h4⟩ := and4 h
  simp only at h1 h2 h3 h4
  clear h
  obtain ⟨ap, cp, rfl, hl⟩ := vLm_some hv
  obtain rfl := of_decide_eq_true h1
  have hn : attributeBase o (lmN ix) X.env (eval o X.env) = eval o X.env := by
    unfold ckLoc at h2
    cases o <;> first | rfl | cases h2
  have ha := pa_o1 (B.o C h4) h3
  cases ix with
  | true => exact PE.imp (pe_bm PySem.F.plainAttrs_list PySem.F.slot_list_index PySem.F.type_list_index mt_idxF (loc_ok C h2) ha hn (by rw [nst_star h3]; rfl) hl (nst_star h3 _ _) rfl) (lmt_run true)
  | false => exact PE.imp (pe_bm PySem.F.plainAttrs_list PySem.F.slot_list_count PySem.F.type_list_count mt_cntF (loc_ok C h2) ha hn (by rw [nst_star h3]; rfl) hl (nst_star h3 _ _) rfl) (lmt_run false)
/-! isqrt -/
theorem cr_isqrt : CallR X (.builtin "math.isqrt") (fun vs H Q => ∃ x, vs = [x] ∧ uOf X sqrD x H Q) := by
  intro pins s σ H vs us Q I r h
  obtain ⟨x, rfl, F, env, σ', d, sl, E, h1, e, k⟩ := h
  unfold sqrD at e
  split at e <;> first | cases e | skip
  rename_i i
  split at e <;> first | cases e | skip
  rename_i hz
  have h1 := h1.int
  subst h1
  obtain ⟨u, rfl, rx⟩ := vals1 r
  obtain ⟨t, rfl⟩ := rx
  exact PySem.W.mg_isqrt hz.1 hz.2 ⟨.int _, H, I.tok _, ⟨_, rfl⟩, k.dat E (.int _)⟩
theorem snd_sqr (A : Snd Φ exA L a) : Snd Φ exA L (.sqr a) := by
  refine .std (fun X T W C e h => ?_) (fun T e h => pm_t h) (fun T x h => h) (fun _ es => by cases es <;> rfl) rfl
  obtain ⟨⟨x, es⟩, hv, h⟩ := onO_ok (show onO (vCall e) _ = true from h)
  obtain ⟨h1, h2, h3, h4⟩ := and4 h
  simp only at h1 h2 h3 h4
  clear h
  obtain ⟨y, g1, g2⟩ := onO_ok h4
  obtain ⟨g3, g4⟩ := and2 g2
  obtain ⟨p, p', rfl⟩ := vCall_some hv
  obtain rfl := one_some g1
  obtain rfl := of_decide_eq_true h1
  refine PE.imp (pe_callBfun cr_isqrt (glB_ok C h3) (C.wl.sq h2) (pa_o1 (A.o C g4) g3) rfl (nst_star g3 _ _) rfl) fun σ H Q q => ?_
  obtain ⟨F, env, E, q⟩ := un1_run (uOf_op1 X sqrD) σ H Q q
  exact ⟨F, env, E, q.mono (fun p _ h => fun v F' H' E' s m n => ⟨v, rfl, h v F' H' E' s m n⟩) fun _ x => x⟩
/-! range(a, b, -1) -/
theorem iter_rngC {K : PySem.W.Frag} {F : Hp} {lo c : Int} {n : Nat} : IterD K F (Itc lo c n) (rngC lo c n) := by
  refine ⟨n, fun _ => True, YFn fun i => .int (lo + (i : Nat) * c), walk_rangeC, by simp [rngC], fun _ _ => trivial, fun i H x H' hi _ y => ?_⟩
  obtain ⟨e, hx⟩ := y
  refine ⟨.int (lo + (i : Nat) * c), ?_, .inl ⟨e, ?_⟩⟩
  · unfold rngC
    rw [List.getElem?_map, List.getElem?_range hi]
    rfl
  · rw [hx]; exact .int _
theorem pi_rng3x {e e2 e3 tg : Expr} {p pos : Pos} {r r' : Env' → Res (Sl × Env')} (hg : Gl X "range") (hm : X.mg "range" = none) (h : PE X e (tEx X.K exA W r)) (h' : PE X e2 (tEx X.K exA W r')) (h3 : PE X e3 (tC (.int (-1)))) (hn : nst e = true) (hn2 : nst e2 = true) (hn3 : nst e3 = true) :
    PI X tg (.Call (.Name "range" p) [e, e2, e3] [] pos) (tIx X.K exA W (itR fun env => (r env).bind fun p => (r' p.2).bind fun q => (match p.1, q.1 with | .fz (.int i), .fz (.int j) => if inR i && inR j then .ok (.fz (.list (rngC i (-1) (i - j).toNat)), q.2) else .no | _, _ => .no))) := by
  refine PI.imp (pi_range3 hg hm (pa_cons h (pa_cons h' (pa_cons h3 pa_nil (nst_star hn3 _ _)) (nst_star hn2 _ _)) (nst_star hn _ _)) (nst_star hn _ _) (by rw [nst_star hn2, nst_star hn3]; rfl)) fun σ H R q => ?_
  obtain ⟨F, env, E, q⟩ := q
  refine ⟨F, env, E, q.bind.bind.mono (fun pp e0 h1 => ?_) fun _ x => x⟩
  intro v F1 H1 E1 s1 t1
  clear e0
  refine ⟨F1, pp.2, E1, OnR.mono (OnR.bind h1) (fun pq e0 h2 => ?_) fun _ x => Xk.after x s1⟩
  intro w F2 H2 E2 s2 t2
  clear e0
  obtain ⟨sl, env1⟩ := pp
  obtain ⟨sl2, env2⟩ := pq
  cases sl <;> first | exact h2.elim | skip
  rename_i d
  cases d <;> first | exact h2.elim | skip
  rename_i i
  cases sl2 <;> first | exact h2.elim | skip
  rename_i d
  cases d <;> first | exact h2.elim | skip
  rename_i j
  replace h2 : OnR (if inR i && inR j then Res.ok (Sl.fz (.list (rngC i (-1) (i - j).toNat)), env2) else Res.no) _ _ := h2
  cases hi : (inR i && inR j) with
  | false => rw [hi] at h2; exact h2.elim
  | true =>
    rw [hi] at h2
    rw [Bool.and_eq_true] at hi
    have hv : v = .int i := by have := t1.ok; cases this; rfl
    have hw : w = .int j := by have := t2.ok; cases this; rfl
    subst hv hw
    exact ⟨i, j, -1, (i - j).toNat, rfl, RgC.neg (inR_ok hi.1).1 (inR_ok hi.1).2 (inR_ok hi.2).1 (inR_ok hi.2).2, h2 _ F2 H2 E2 (s1.trans s2) iter_rngC⟩
theorem snd_rng3 (A : Snd Φ exA L a) (B : Snd Φ exA L b) : Snd Φ exA L (.rng3 a b (.neg (.int 1))) where
  e := fun X T W C x h => by
    replace h : (decide (Md.e = .i) && _) = true := h
    cases h
  t := fun X T W C x h => by
    replace h : (decide (Md.t = .i) && _) = true := h
    cases h
  i := fun X T W C tg x _ h => by
    obtain ⟨es, hv, h⟩ := onO_ok (show onO (vB T "range" x) _ = true from h)
    obtain ⟨⟨y, z, u⟩, h1, h⟩ := onO_ok h
    obtain ⟨h2, h3, h4, h5, h6, h7⟩ := and6 h
    simp only at h2 h3 h4 h5 h6 h7
    obtain ⟨⟨o, k⟩, g1, g2⟩ := onO_ok h7
    obtain ⟨g3, g4⟩ := and2 g2
    obtain ⟨p, p', rfl, hx⟩ := vB_some hv
    obtain rfl := three_some h1
    obtain ⟨p3, rfl⟩ := vUn_some g1
    obtain ⟨k1, p4, rfl⟩ := vInt_some (of_decide_eq_true g4)
    have g3 := of_decide_eq_true g3
    subst g3
    have hm : PE X (.UnaryOp .USub (.Constant (.int 1) k1 p4) p3) (tC (.int (-1))) := PE.imp (pe_un un_neg pe_int) fun σ H Q q => ⟨1, rfl, q⟩
    exact pi_rng3x (blB_ok C hx).1 (blB_ok C hx).2 (A.e X T W C y h5) (B.e X T W C z h6) hm h2 h3 h4
  a := fun X T W C es h => by cases es <;> cases h
  n := fun T es h => by cases es <;> cases h
  v := fun X T W C x i hj h => by cases hj
end
end Vl
set_option maxHeartbeats 2000000
namespace Vl
open PySem PySem.Spec PyProof.Rows L2
section
variable {Φ : Nat → Fn} {exA : Str → Option Addr} {L : Nat} {X : Cx} {W : WX} {T : Tab} {a b c : CE}
/-! not, and, or, if -/
theorem bl_val {K : PySem.W.Frag} {F H : Hp} {O : Addr → Prop} {H₀ : Hp} {O₀ : Addr → Prop} {sl : Sl} {v : V} {k : Bool} (t : Tmp K F H O H₀ O₀ sl v) (h : blD sl = some k) : v = .bl k := by
  unfold blD at h
  split at h <;> cases h
  have ok : Rp K F v (.bool k) := t.ok
  cases ok; rfl
theorem snd_nt (A : Snd Φ exA L a) : Snd Φ exA L (.nt a) := by
  refine .cmps (fun X T W C e h => ?_) (fun X T W C e h => ?_) (fun T x => rfl) (fun _ es => by cases es <;> rfl) rfl
  all_goals
    obtain ⟨⟨o, x⟩, hv, h⟩ := onO_ok (show onO (vUn e) _ = true from h)
    obtain ⟨h1, h2⟩ := and2 h
    clear h
    simp only at h1 h2
    obtain ⟨q, rfl⟩ := vUn_some hv
    have h1 := of_decide_eq_true h1
    subst h1
  · refine PE.imp (pe_not (A.e X T W C x h2)) fun σ H Q q => ?_
    obtain ⟨F, env, E, q⟩ := q
    have q : OnR ((dE Φ a env).bind fun p => (Res.of (blD p.1)).bind fun b => .ok (.fz (.bool (!b)), p.2)) (fun p => Kt X.K F H env σ p.2 p.1 Q) (Xk exA W F H (Ow env σ)) := q
    refine ⟨F, env, E, q.bind.mono (fun p _ h1 => ?_) fun _ x => x⟩
    obtain ⟨k, e1, h3⟩ := h1.bind.of
    intro v F1 H1 E1 s1 t1
    have h3 : Kt X.K F H env σ p.2 (.fz (.bool (!k))) Q := h3
    exact ⟨k, bl_val t1 e1, (Kt.after h3 s1).dat E1 (.bl _)⟩
  · refine ⟨PT.imp (pt_not (A.t X T W C x h2).1) fun σ H Q q => ?_, fun b => by cases b⟩
    obtain ⟨F, env, E, q⟩ := q
    have q : OnR ((dE Φ a env).bind fun p => (Res.of (blD p.1)).bind fun b => .ok (.fz (.bool (!b)), p.2)) (fun p => ∃ b, blD p.1 = some b ∧ ∀ F' H', EnvOk X.K F' H' p.2 σ → Step F H (Ow env σ) F' H' (Ow p.2 σ) → Q b H') (Xk exA W F H (Ow env σ)) := q
    refine ⟨F, env, E, q.bind.mono (fun p _ h1 => ?_) fun _ x => x⟩
    obtain ⟨k, e1, h3⟩ := h1.bind.of
    obtain ⟨b', hb, kk⟩ := (show ∃ b, blD (.fz (.bool (!k))) = some b ∧ ∀ F' H', EnvOk X.K F' H' p.2 σ → Step F H (Ow env σ) F' H' (Ow p.2 σ) → Q b H' from h3)
    cases hb
    exact ⟨k, e1, kk⟩
theorem bopE {o : BoolOp} {p : Pos} {y : Expr} {r : List Expr} {t : TE} (h : PE X (bop o p (y :: r)) t) : PE X (.BoolOp o (y :: r) p) t := by
  cases r with
  | nil => exact pe_one h
  | cons z r => exact h
theorem bopA {p : Pos} {y : Expr} {r : List Expr} {t : TT} (h : PT X (bop .And p (y :: r)) t ∧ (isBop (bop .And p (y :: r)) = true → PW X (bop .And p (y :: r)) t)) : PW X (.BoolOp .And (y :: r) p) t := by
  cases r with
  | nil => exact pw_and1 h.1
  | cons z r => exact h.2 rfl
theorem bopO {p : Pos} {y : Expr} {r : List Expr} {t : TT} (h : PT X (bop .Or p (y :: r)) t ∧ (isBop (bop .Or p (y :: r)) = true → PW X (bop .Or p (y :: r)) t)) : PW X (.BoolOp .Or (y :: r) p) t := by
  cases r with
  | nil => exact pw_or1 h.1
  | cons z r => exact h.2 rfl
theorem snd_and (A : Snd Φ exA L a) (B : Snd Φ exA L b) : Snd Φ exA L (.and a b) := by
  refine .cmps (fun X T W C e h => ?_) (fun X T W C e h => ?_) (fun T x => rfl) (fun _ es => by cases es <;> rfl) rfl
  all_goals
    obtain ⟨⟨o, x, y, r, p⟩, hv, h⟩ := onO_ok (show onO (vBop e) _ = true from h)
    obtain ⟨h1, h2, h3⟩ := and3 h
    clear h
    simp only at h1 h2 h3
    obtain rfl := vBop_some hv
    have h1 := of_decide_eq_true h1
    subst h1
  · refine PE.imp (pe_and (A.e X T W C x h2) (bopE (B.e X T W C _ h3))) fun σ H Q q => ?_
    obtain ⟨F, env, E, q⟩ := q
    have q : OnR ((dE Φ a env).bind fun p => (Res.of (blD p.1)).bind fun r => if r then dE Φ b p.2 else .ok (.fz (.bool false), p.2)) (fun p => Kt X.K F H env σ p.2 p.1 Q) (Xk exA W F H (Ow env σ)) := q
    refine ⟨F, env, E, q.bind.mono (fun p _ h1 => ?_) fun _ x => x⟩
    obtain ⟨k, e1, h3⟩ := h1.bind.of
    intro v F1 H1 E1 s1 t1
    refine ⟨k, bl_val t1 e1, ?_⟩
    cases k with
    | false =>
      have h3 : Kt X.K F H env σ p.2 (.fz (.bool false)) Q := h3
      exact (Kt.after h3 s1).dat E1 (.bl _)
    | true =>
      rw [if_pos rfl] at h3 ⊢
      exact ⟨F1, p.2, E1, h3.mono (fun p2 _ h => Kt.after h s1) fun _ x => x.after s1⟩
  · have hw : PW X (.BoolOp .And (x :: y :: r) p) (tTx X.K exA W (dE Φ (.and a b))) := by
      refine PW.imp (pw_and (A.t X T W C x h2).1 (bopA (B.t X T W C _ h3))) fun σ H Q q => ?_
      obtain ⟨F, env, E, q⟩ := q
      have q : OnR ((dE Φ a env).bind fun p => (Res.of (blD p.1)).bind fun r => if r then dE Φ b p.2 else .ok (.fz (.bool false), p.2)) (fun p => ∃ b, blD p.1 = some b ∧ ∀ F' H', EnvOk X.K F' H' p.2 σ → Step F H (Ow env σ) F' H' (Ow p.2 σ) → Q b H') (Xk exA W F H (Ow env σ)) := q
      refine ⟨F, env, E, q.bind.mono (fun p _ h1 => ?_) fun _ x => x⟩
      obtain ⟨k, e1, h3⟩ := h1.bind.of
      refine ⟨k, e1, fun F1 H1 E1 s1 => ?_⟩
      cases k with
      | false =>
        obtain ⟨b', hb, kk⟩ := (show ∃ b, blD (.fz (.bool false)) = some b ∧ ∀ F' H', EnvOk X.K F' H' p.2 σ → Step F H (Ow env σ) F' H' (Ow p.2 σ) → Q b H' from h3)
        cases hb
        exact kk F1 H1 E1 s1
      | true =>
        rw [if_pos rfl] at h3 ⊢
        exact ⟨F1, p.2, E1, h3.mono (fun p2 _ ⟨b2, hb2, kk⟩ => ⟨b2, hb2, fun F2 H2 E2 s2 => kk F2 H2 E2 (s1.trans s2)⟩) fun _ x => x.after s1⟩
    exact ⟨hw.pt, fun _ => hw⟩
theorem snd_or (A : Snd Φ exA L a) (B : Snd Φ exA L b) : Snd Φ exA L (.or a b) := by
  refine .cmps (fun X T W C e h => ?_) (fun X T W C e h => ?_) (fun T x => rfl) (fun _ es => by cases es <;> rfl) rfl
  all_goals
    obtain ⟨⟨o, x, y, r, p⟩, hv, h⟩ := onO_ok (show onO (vBop e) _ = true from h)
    obtain ⟨h1, h2, h3⟩ := and3 h
    clear h
    simp only at h1 h2 h3
    obtain rfl := vBop_some hv
    have h1 := of_decide_eq_true h1
    subst h1
  · refine PE.imp (pe_or (A.e X T W C x h2) (bopE (B.e X T W C _ h3))) fun σ H Q q => ?_
    obtain ⟨F, env, E, q⟩ := q
    have q : OnR ((dE Φ a env).bind fun p => (Res.of (blD p.1)).bind fun r => if r then .ok (.fz (.bool true), p.2) else dE Φ b p.2) (fun p => Kt X.K F H env σ p.2 p.1 Q) (Xk exA W F H (Ow env σ)) := q
    refine ⟨F, env, E, q.bind.mono (fun p _ h1 => ?_) fun _ x => x⟩
    obtain ⟨k, e1, h3⟩ := h1.bind.of
    intro v F1 H1 E1 s1 t1
    refine ⟨k, bl_val t1 e1, ?_⟩
    cases k with
    | true =>
      have h3 : Kt X.K F H env σ p.2 (.fz (.bool true)) Q := h3
      exact (Kt.after h3 s1).dat E1 (.bl _)
    | false =>
      rw [if_neg (by simp)] at h3 ⊢
      exact ⟨F1, p.2, E1, h3.mono (fun p2 _ h => Kt.after h s1) fun _ x => x.after s1⟩
  · have hw : PW X (.BoolOp .Or (x :: y :: r) p) (tTx X.K exA W (dE Φ (.or a b))) := by
      refine PW.imp (pw_or (A.t X T W C x h2).1 (bopO (B.t X T W C _ h3))) fun σ H Q q => ?_
      obtain ⟨F, env, E, q⟩ := q
      have q : OnR ((dE Φ a env).bind fun p => (Res.of (blD p.1)).bind fun r => if r then .ok (.fz (.bool true), p.2) else dE Φ b p.2) (fun p => ∃ b, blD p.1 = some b ∧ ∀ F' H', EnvOk X.K F' H' p.2 σ → Step F H (Ow env σ) F' H' (Ow p.2 σ) → Q b H') (Xk exA W F H (Ow env σ)) := q
      refine ⟨F, env, E, q.bind.mono (fun p _ h1 => ?_) fun _ x => x⟩
      obtain ⟨k, e1, h3⟩ := h1.bind.of
      refine ⟨k, e1, fun F1 H1 E1 s1 => ?_⟩
      cases k with
      | true =>
        obtain ⟨b', hb, kk⟩ := (show ∃ b, blD (.fz (.bool true)) = some b ∧ ∀ F' H', EnvOk X.K F' H' p.2 σ → Step F H (Ow env σ) F' H' (Ow p.2 σ) → Q b H' from h3)
        cases hb
        exact kk F1 H1 E1 s1
      | false =>
        rw [if_neg (by simp)] at h3 ⊢
        exact ⟨F1, p.2, E1, h3.mono (fun p2 _ ⟨b2, hb2, kk⟩ => ⟨b2, hb2, fun F2 H2 E2 s2 => kk F2 H2 E2 (s1.trans s2)⟩) fun _ x => x.after s1⟩
    exact ⟨hw.pt, fun _ => hw⟩
theorem tru_of {F H : Hp} {v : V} {d : PyData} {k : Bool} (S : Sub F H) (h : Vw X.K F H v d) (e : truD d = some k) : TruV X.K v H k := by
  have h := h.all S
  cases h with
  | non => cases e; rfl
  | bl b => cases e; rfl
  | int i => cases e; rfl
  | str x =>
    have e : (if x.length ≤ line then some ((x.length : Int) != 0) else none) = some k := e
    split at e
    · rename_i hz; cases e; exact ⟨by rw [line_eq]; exact hz, rfl⟩
    · cases e
  | @lst a xs ds q n _ =>
    cases e
    refine .inl ⟨xs, q, ?_⟩
    cases xs <;> cases ds <;> first | rfl | (simp at n)
  | @tup a xs ds q n _ =>
    cases e
    refine .inr (.inl ⟨xs, q, ?_⟩)
    cases xs <;> cases ds <;> first | rfl | (simp at n)
  | dic q => cases e
  | exc _ _ => cases e
theorem snd_tru (A : Snd Φ exA L a) : Snd Φ exA L (.tru a) := by
  refine .cmps (fun X T W C e h => by cases h) (fun X T W C e h => ?_) (fun T x => rfl) (fun _ es => by cases es <;> rfl) rfl
  obtain ⟨h1, h2⟩ := and2 (show (plainT e && ck a T .e e) = true from h)
  refine ⟨PT.imp (pt_truth (A.o C h2) (plainT_ok h1 _)) fun σ H Q q => ?_, fun b => (plain_bop h1 b).elim⟩
  obtain ⟨F, env, E, q⟩ := q
  have q : OnR ((opnd a (dE Φ a) env).bind fun p => (Res.of (p.1.view p.2)).bind fun d => (Res.of (bo (truD d))).bind fun s => .ok (s, p.2)) (fun p => ∃ b, blD p.1 = some b ∧ ∀ F' H', EnvOk X.K F' H' p.2 σ → Step F H (Ow env σ) F' H' (Ow p.2 σ) → Q b H') (Xk exA W F H (Ow env σ)) := q
  refine ⟨F, env, E, q.bind.mono (fun p _ h1 => ?_) fun _ x => x⟩
  intro v1 F1 H1 E1 s1 m1 _
  obtain ⟨d, e1, h3⟩ := h1.bind.of
  obtain ⟨sl, e3, h5⟩ := h3.bind.of
  unfold bo at e3
  rw [Option.map_eq_some_iff] at e3
  obtain ⟨k, e3, rfl⟩ := e3
  obtain ⟨b', hb, kk⟩ := (show ∃ b, blD (.fz (.bool k)) = some b ∧ ∀ F' H', EnvOk X.K F' H' p.2 σ → Step F H (Ow env σ) F' H' (Ow p.2 σ) → Q b H' from h5)
  cases hb
  exact ⟨k, tru_of E1.sub (m1.view E1 e1) e3, kk F1 H1 E1 s1⟩
theorem snd_ite (D : Snd Φ exA L c) (A : Snd Φ exA L a) (B : Snd Φ exA L b) : Snd Φ exA L (.ite c a b) := by
  refine .std (fun X T W C e h => ?_) (fun T e h => by cases h) (fun T x h => h) (fun _ es => by cases es <;> rfl) rfl
  obtain ⟨⟨t, x, y⟩, hv, h⟩ := onO_ok (show onO (vIf e) _ = true from h)
  obtain ⟨h1, h2, h3⟩ := and3 h
  clear h
  simp only at h1 h2 h3
  obtain ⟨p, rfl⟩ := vIf_some hv
  refine PE.imp (pe_ifExp (D.t X T W C t h1).1 (A.e X T W C x h2) (B.e X T W C y h3)) fun σ H Q q => ?_
  obtain ⟨F, env, E, q⟩ := q
  have q : OnR ((dE Φ c env).bind fun p => (Res.of (blD p.1)).bind fun r => if r then dE Φ a p.2 else dE Φ b p.2) (fun p => Kt X.K F H env σ p.2 p.1 Q) (Xk exA W F H (Ow env σ)) := q
  refine ⟨F, env, E, q.bind.mono (fun p _ h1 => ?_) fun _ x => x⟩
  obtain ⟨k, e1, h3⟩ := h1.bind.of
  refine ⟨k, e1, fun F1 H1 E1 s1 => ?_⟩
  cases k with
  | false =>
    rw [if_neg (by simp)] at h3 ⊢
    exact ⟨F1, p.2, E1, h3.mono (fun p2 _ h => Kt.after h s1) fun _ x => x.after s1⟩
  | true =>
    rw [if_pos rfl] at h3 ⊢
    exact ⟨F1, p.2, E1, h3.mono (fun p2 _ h => Kt.after h s1) fun _ x => x.after s1⟩
/-! enumerate, zip, reversed -/
theorem enu_get {ds : List PyData} {i : Nat} {d : PyData} (h : ds[i]? = some d) : (enuL ds)[i]? = some (.tuple [.int i, d]) := by
  have hi : i < ds.length := (List.getElem?_eq_some_iff.mp h).1
  unfold enuL
  rw [List.getElem?_map, List.getElem?_range hi]
  show some (PyData.tuple [.int i, ds.getD i .none]) = _
  rw [List.getD_eq_getElem?_getD, h]
  rfl
theorem enu_len (ds : List PyData) : (enuL ds).length = ds.length := by unfold enuL; rw [List.length_map, List.length_range]
theorem iter_enuL {K : PySem.W.Frag} {F : Hp} {ad : Addr} {xs : List V} {ds : List PyData} (r : RpA K F xs ds) (hs : SqL K F ad xs) : IterD K F (Ite K ad) (enuL ds) := by
  refine ⟨xs.length, _, _, walk_enum, by rw [enu_len]; exact r.n, fun H S => sqL_sub S hs, fun i H x H' hi S y => ?_⟩
  obtain ⟨T, x1, y1, g1, g2, g3, g4, g5⟩ := y
  cases g4
  obtain ⟨d, e1, e2⟩ := r.getV g5
  exact ⟨_, enu_get e1, .inr ⟨T, _, _, _, _, g1, g2, g3, rfl, .int _, e2⟩⟩
theorem iter_enuT {K : PySem.W.Frag} {F : Hp} {ad : Addr} {xs : List V} {ds : List PyData} (r : RpA K F xs ds) (hs : SqT K F ad xs) : IterD K F (Iet K ad) (enuL ds) := by
  refine ⟨xs.length, _, _, walk_enumT, by rw [enu_len]; exact r.n, fun H S => sqT_sub S hs, fun i H x H' hi S y => ?_⟩
  obtain ⟨T, x1, y1, g1, g2, g3, g4, g5⟩ := y
  cases g4
  obtain ⟨d, e1, e2⟩ := r.getV g5
  exact ⟨_, enu_get e1, .inr ⟨T, _, _, _, _, g1, g2, g3, rfl, .int _, e2⟩⟩
theorem snd_enu (A : Snd Φ exA L a) : Snd Φ exA L (.enu a) where
  e := fun X T W C x h => by cases h
  t := fun X T W C x h => by cases h
  i := fun X T W C tg x ht h => by
    obtain ⟨es, hv, h⟩ := onO_ok (show onO (vB T "enumerate" x) _ = true from h)
    obtain ⟨y, h1, h⟩ := onO_ok h
    obtain ⟨h2, h3⟩ := and2 h
    obtain ⟨p, p', rfl, hx⟩ := vB_some hv
    obtain rfl := one_some h1
    have ht : isTupE tg = true := ht
    cases tg <;> first | cases ht | skip
    refine PI.imp (pi_enumE (blB_ok C hx).1 (blB_ok C hx).2 (pa_one (A.e X T W C y h3) h2) (nst_star h2 _ _)) fun σ H R q => ?_
    obtain ⟨F, env, E, q⟩ := q
    refine ⟨F, env, E, q.bind.bind.mono (fun p e0 h1 => ?_) fun _ x => x⟩
    intro v F1 H1 E1 s1 t1
    clear e0
    obtain ⟨d, e1, h1⟩ := h1.bind.of
    rw [Option.bind_eq_some_iff] at e1
    obtain ⟨d', e1, e2⟩ := e1
    obtain ⟨F2, E2, s2, _, rp⟩ := freezeT E1 s1 t1 e1
    unfold enuD at e2
    split at e2 <;> first | cases e2 | skip
    · cases rp with
      | @lst a xs _ hs n ee => exact ⟨a, xs, rfl, .inl ⟨sqL_sub E2.sub hs, h1 _ F2 H1 E2 s2 (iter_enuL ⟨n, ee⟩ hs)⟩⟩
    · cases rp with
      | @tup a xs _ hs n ee => exact ⟨a, xs, rfl, .inr ⟨sqT_sub E2.sub hs, h1 _ F2 H1 E2 s2 (iter_enuT ⟨n, ee⟩ hs)⟩⟩
  a := fun X T W C es h => by cases es <;> cases h
  n := fun T es h => by cases es <;> cases h
  v := fun X T W C x i hj h => by cases hj
theorem iter_zipL {K : PySem.W.Frag} {F : Hp} {a b : Addr} {xs ys : List V} {ds es : List PyData} (r : RpA K F xs ds) (q : RpA K F ys es) (hs : SqL K F a xs) (ht : SqL K F b ys) : IterD K F (Itz K a b) ((List.zip ds es).map fun z => .tuple [z.1, z.2]) := by
  refine ⟨min xs.length ys.length, _, _, walk_zip rfl, by rw [List.length_map, List.length_zip, r.n, q.n], fun H S => ⟨sqL_sub S hs, sqL_sub S ht⟩, fun i H x H' hi S y => ?_⟩
  obtain ⟨T, x1, y1, g1, g2, g3, g4, g5⟩ := y
  obtain ⟨d, e1, e2⟩ := r.getV g4
  obtain ⟨e, f1, f2⟩ := q.getV g5
  refine ⟨_, ?_, .inr ⟨T, _, _, _, _, g1, g2, g3, rfl, e2, f2⟩⟩
  rw [List.getElem?_map, List.getElem?_zip_eq_some (z := (d, e)) |>.mpr ⟨e1, f1⟩]
  rfl
theorem snd_zp (A : Snd Φ exA L a) (B : Snd Φ exA L b) : Snd Φ exA L (.zp a b) where
  e := fun X T W C x h => by cases h
  t := fun X T W C x h => by cases h
  i := fun X T W C tg x ht h => by
    obtain ⟨es, hv, h⟩ := onO_ok (show onO (vB T "zip" x) _ = true from h)
    obtain ⟨⟨y, z⟩, h1, h⟩ := onO_ok h
    obtain ⟨h2, h3, h4, h5⟩ := and4 h
    obtain ⟨p, p', rfl, hx⟩ := vB_some hv
    obtain rfl := two_some h1
    have ht : isTupE tg = true := ht
    cases tg <;> first | cases ht | skip
    refine PI.imp (pi_zip (blB_ok C hx).1 (blB_ok C hx).2 (pa_two (A.e X T W C y h4) (B.e X T W C z h5) h2 h3) (by rw [nst_star h2]) (by rw [nst_star h3]; rfl)) fun σ H R q => ?_
    obtain ⟨F, env, E, q⟩ := q
    refine ⟨F, env, E, q.bind.bind.mono (fun p e0 h1 => ?_) fun _ x => x⟩
    intro v F1 H1 E1 s1 t1
    clear e0
    obtain ⟨d, e1, h1⟩ := h1.bind.of
    obtain ⟨F2, E2, s2, _, rp⟩ := freezeT E1 s1 t1 e1
    refine ⟨F2, p.2, E2, OnR.mono (OnR.bind h1) (fun pq e0 h2 => ?_) fun _ x => Xk.after x s2⟩
    intro w F3 H3 E3 s3 t3
    clear e0
    obtain ⟨d2, g1, h2⟩ := h2.bind.of
    rw [Option.bind_eq_some_iff] at g1
    obtain ⟨d', g1, g2⟩ := g1
    obtain ⟨F4, E4, s4, sb, rp4⟩ := freezeT E3 s3 t3 g1
    have rp := rp.sub s4.fz
    unfold zipD at g2
    split at g2 <;> first | cases g2 | skip
    cases rp with
    | @lst a xs _ hs n ee =>
      cases rp4 with
      | @lst b ys _ hs2 n2 ee2 => exact ⟨a, b, xs, ys, rfl, sqL_sub E4.sub hs, sqL_sub E4.sub hs2, h2 _ F4 H3 E4 (s2.trans s4) (iter_zipL ⟨n, ee⟩ ⟨n2, ee2⟩ hs hs2)⟩
  a := fun X T W C es h => by cases es <;> cases h
  n := fun T es h => by cases es <;> cases h
  v := fun X T W C x i hj h => by cases hj
theorem iter_rev {K : PySem.W.Frag} {F : Hp} {a : Addr} {xs : List V} {ds : List PyData} (r : RpA K F xs ds) (hs : SqL K F a xs) : IterD K F (Itv K a xs.length) ds.reverse := by
  refine ⟨xs.length, _, _, walk_rev, by rw [List.length_reverse]; exact r.n, fun H S => sqL_sub S hs, fun i H x H' hi S y => ?_⟩
  obtain ⟨rfl, g⟩ := y
  obtain ⟨d, e1, e2⟩ := r.getV g
  refine ⟨d, ?_, .inl ⟨rfl, e2⟩⟩
  rw [List.getElem?_reverse (by rw [← r.n]; exact hi), ← r.n]
  exact e1
theorem snd_rvd (A : Snd Φ exA L a) : Snd Φ exA L (.rvd a) where
  e := fun X T W C x h => by cases h
  t := fun X T W C x h => by cases h
  i := fun X T W C tg x _ h => by
    obtain ⟨es, hv, h⟩ := onO_ok (show onO (vB T "reversed" x) _ = true from h)
    obtain ⟨y, h1, h⟩ := onO_ok h
    obtain ⟨h2, h3⟩ := and2 h
    obtain ⟨p, p', rfl, hx⟩ := vB_some hv
    obtain rfl := one_some h1
    refine PI.imp (pi_reversed (blB_ok C hx).1 (blB_ok C hx).2 (pa_one (A.e X T W C y h3) h2) (nst_star h2 _ _)) fun σ H R q => ?_
    obtain ⟨F, env, E, q⟩ := q
    refine ⟨F, env, E, q.bind.bind.mono (fun p e0 h1 => ?_) fun _ x => x⟩
    intro v F1 H1 E1 s1 t1
    clear e0
    obtain ⟨d, e1, h1⟩ := h1.bind.of
    rw [Option.bind_eq_some_iff] at e1
    obtain ⟨d', e1, e2⟩ := e1
    obtain ⟨F2, E2, s2, _, rp⟩ := freezeT E1 s1 t1 e1
    unfold rvdD at e2
    split at e2 <;> first | cases e2 | skip
    cases rp with
    | @lst a xs _ hs n ee => exact ⟨a, xs, rfl, sqL_sub E2.sub hs, h1 _ F2 H1 E2 s2 (iter_rev ⟨n, ee⟩ hs)⟩
  a := fun X T W C es h => by cases es <;> cases h
  n := fun T es h => by cases es <;> cases h
  v := fun X T W C x i hj h => by cases hj
/-! ranges -/
theorem snd_rng1 (A : Snd Φ exA L a) : Snd Φ exA L (.rng1 a) where
  e := fun X T W C x h => by cases h
  t := fun X T W C x h => by cases h
  i := fun X T W C tg x _ h => by
    obtain ⟨es, hv, h⟩ := onO_ok (show onO (vB T "range" x) _ = true from h)
    obtain ⟨y, h1, h⟩ := onO_ok h
    obtain ⟨h2, h3⟩ := and2 h
    obtain ⟨p, p', rfl, hx⟩ := vB_some hv
    obtain rfl := one_some h1
    exact pi_rng1x (blB_ok C hx).1 (blB_ok C hx).2 (A.e X T W C y h3) h2
  a := fun X T W C es h => by cases es <;> cases h
  n := fun T es h => by cases es <;> cases h
  v := fun X T W C x i hj h => by cases hj
theorem snd_rng2 (A : Snd Φ exA L a) (B : Snd Φ exA L b) : Snd Φ exA L (.rng2 a b) where
  e := fun X T W C x h => by cases h
  t := fun X T W C x h => by cases h
  i := fun X T W C tg x _ h => by
    obtain ⟨es, hv, h⟩ := onO_ok (show onO (vB T "range" x) _ = true from h)
    obtain ⟨⟨y, z⟩, h1, h⟩ := onO_ok h
    obtain ⟨h2, h3, h4, h5⟩ := and4 h
    obtain ⟨p, p', rfl, hx⟩ := vB_some hv
    obtain rfl := two_some h1
    exact pi_rng2x (blB_ok C hx).1 (blB_ok C hx).2 (A.e X T W C y h4) (B.e X T W C z h5) h2 h3
  a := fun X T W C es h => by cases es <;> cases h
  n := fun T es h => by cases es <;> cases h
  v := fun X T W C x i hj h => by cases hj
/-! comprehensions -/
theorem Cok.blk (C : Cok X T Φ exA L W) (s : Shared) (H : Hp) (scope : Scope) (cl : List (Str × Addr)) (A : Addr) (fp : List Addr) : Cok (X.blk s H scope (compEnvC scope cl A X.env) fp) (T.blk scope) Φ exA L noX where
  wl := ⟨C.wl.bl, C.wl.gs, C.wl.fn, C.wl.ex, C.wl.xc, C.wl.cl, C.wl.sq⟩
  n := C.n
  s := by
    show relabC X.env.scope scope = relabC T.sc scope
    rw [C.s]
  nd := C.nd
  calm := C.calm
  gu := C.gu
  rm := C.rm
  tk := fun u s' ⟨a, B, sI, pins, σ, H, cls, d, e, I, nb, up, sky, na, os, ag, w⟩ => w.elim
  st := fun x h => by
    have h : (match (relabC T.sc scope).names.lookup x with | some .local => true | some .cell => scope.names.lookup x == some .cell | _ => false) = true := h
    have hs : (compEnvC scope cl A X.env).scope = relabC T.sc scope := by
      show relabC X.env.scope scope = relabC T.sc scope
      rw [C.s]
    show L2.Loc (compEnvC scope cl A X.env).scope x ∧ ((scope.names.lookup x == some .cell) = true ∨ (compEnvC scope cl A X.env).scope.names.lookup x = some .local)
    rw [hs]
    unfold L2.Loc
    split at h
    · rename_i hl; exact ⟨.inl hl, .inr hl⟩
    · rename_i hl; exact ⟨.inr hl, .inl h⟩
    · cases h
theorem PTs.imp {es : List Expr} {t t' : TT} (h : PTs X es t) (f : ∀ σ H Q, t' σ H Q → t σ H Q) : PTs X es t' := ⟨fun pins s σ H Q I q => h.run pins s σ H Q I (f σ H Q q)⟩
theorem ifs_ok (D : Snd Φ exA L c) (C : Cok X T Φ exA L W) {ifs : List Expr} (h : ifsC c ifs (ck c T .t) = true) : PTs X ifs (tTx X.K exA W (dE Φ c)) := by
  unfold ifsC at h
  split at h
  · split at h
    · refine PTs.imp pts_nil fun σ H Q q => ?_
      obtain ⟨F, env, E, q⟩ := q
      obtain ⟨b', hb, kk⟩ := (show ∃ b, blD (.fz (.bool true)) = some b ∧ ∀ F' H', EnvOk X.K F' H' env σ → Step F H (Ow env σ) F' H' (Ow env σ) → Q b H' from q)
      cases hb
      exact kk F H E (Step.refl _ _ _)
    · cases h
  · exact pts_one (D.t X T W C _ h).1
  · cases h
theorem isSet_fold {e : Expr} (h : (!isSet e) = true) (env : Env) : ∀ x, foldedSetIterable e env x = pure x := by
  cases e <;> first | (intro _; rfl) | cases h
theorem snd_lc (own : List Nat) (tg : Tg) {it el : CE} (I : Snd Φ exA L it) (D : Snd Φ exA L c) (S : Snd Φ exA L el) : Snd Φ exA L (.lc own tg it c el) := by
  refine .std (fun X T W C e h => ?_) (fun T e h => pm_t h) (fun T x h => h) (fun _ es => by cases es <;> rfl) rfl
  obtain ⟨v, hv, h⟩ := onO_ok (show onO (vLc e) _ = true from h)
  obtain ⟨h1, h2, h3, h4, h5, h6, h7⟩ := and7 h
  clear h
  obtain ⟨p, rfl⟩ := vLc_some hv
  have ok : BlkOk X.N X.env.scope v.scope (ownN T own) := by rw [C.n, C.s]; exact blkOk_by h1
  have := pe_lcx (X := X) (exA := exA) (W := W) (pos := p) (tg := tg) (ri := dE Φ it) (rc := dE Φ c) (re := dE Φ el) C.calm (by rw [C.n]; exact C.nd) (I.i X T W C v.tg v.iter (and2 h5).2 h2) ok
    (fun j hj => by rw [ownN_snd]; exact tgIn_ok h4 hj)
    (fun s H A cl fp => pg_sound (C.blk s H v.scope cl A fp) tg v.tg (and2 h5).1)
    (fun s H A cl fp => ifs_ok D (C.blk s H v.scope cl A fp) h6)
    (fun s H A cl fp => S.e _ _ _ (C.blk s H v.scope cl A fp) v.elt h7) (isSet_fold h3 _)
  rw [ownN_snd] at this
  exact this
theorem sound (Φ : Nat → Fn) (exA : Str → Option Addr) (L : Nat) (c : CE) : Snd Φ exA L c := by
  induction c with
  | int i => exact snd_int i
  | bl b => exact snd_bl b
  | non => exact snd_non
  | str s => exact snd_str s
  | loc i => exact snd_loc i
  | gl x d => exact snd_gl x d
  | neg a A => exact snd_neg A
  | bin o a b A B => exact snd_bin o A B
  | cmp o a b A B => exact snd_cmp o A B
  | chn o o' a b c A B D => exact snd_chn o o' A B D
  | isn n a A => exact snd_isn n A
  | isty n a t A => exact snd_isty n t A
  | nt a A => exact snd_nt A
  | and a b A B => exact snd_and A B
  | or a b A B => exact snd_or A B
  | ite t a b D A B => exact snd_ite D A B
  | ix a i A B => exact snd_ix A B
  | sl a lo hi A B D => exact snd_sl A B D
  | rev a A => exact snd_rev A
  | nop => exact .not (fun _ _ _ => rfl) (fun _ es => by cases es <;> rfl) rfl
  | lst a A => exact snd_lst A
  | tup a A => exact snd_tup A
  | dic => exact snd_dic
  | nil => exact snd_nil
  | cons a r A B => exact snd_cons A B
  | consO a r A B => exact snd_consO A B
  | tru a A => exact snd_tru A
  | isi a t A => exact snd_isi t A
  | sqr a A => exact snd_sqr A
  | isx a rs cs A => exact snd_isx rs cs A
  | lmt ix i b B => exact snd_lmt ix i B
  | b1 f a A => exact snd_b1 f A
  | b2 f a b A B => exact snd_b2 f A B
  | join a b A B =>
    cases a with
    | str z => exact snd_join z B
    | _ => exact .not (fun _ _ _ => rfl) (fun _ es => by cases es <;> rfl) rfl
  | call k a A => exact snd_call k A
  | callk k a b A B => exact snd_callk k A B
  | fbn a A => exact snd_fbn A
  | spl a z A => exact snd_spl z A
  | lc own tg it c e I D S => exact snd_lc own tg I D S
  | rng1 a A => exact snd_rng1 A
  | rng2 a b A B => exact snd_rng2 A B
  | rng3 a b c A B D =>
    cases c with
    | neg z =>
      cases z with
      | int i =>
        by_cases hi : i = 1
        · subst hi; exact snd_rng3 A B
        · refine .not (fun T m x => ?_) (fun _ es => by cases es <;> rfl) rfl
          unfold ck
          split <;> first | rfl | (rename_i e _ _ _; cases e; exact absurd rfl hi) | skip
          all_goals first | rfl | (exfalso; simp_all)
      | _ => exact .not (fun _ _ _ => rfl) (fun _ es => by cases es <;> rfl) rfl
    | _ => exact .not (fun _ _ _ => rfl) (fun _ es => by cases es <;> rfl) rfl
  | enu a A => exact snd_enu A
  | zp a b A B => exact snd_zp A B
  | rvd a A => exact snd_rvd A
end
end Vl
set_option maxHeartbeats 2000000
namespace Vl
open PySem PySem.Spec PyProof.Rows L2

/-! statements -/
inductive Fl where
  | nx (env : Env') | rt (sl : Sl) (env : Env') | bk (env : Env') | ct (env : Env')
inductive CS where
  | asg (tg : Tg) (e : CE) | par (is : List Nat) (e : CE) | parO (is : List Nat) (e : CE) | setix (i : Nat) (k e : CE) | aug (i : Nat) (sub : Bool) (e : CE)
  | app (i : Nat) (e : CE) | ext (i : Nat) (e : CE) | ins (i : Nat) (k e : CE) | popA (i : Nat) (k : CE) | pop (i : Nat) | rvs (i : Nat)
  | ex (e : CE) | ite (t : CE) (a b : CS) | whl (n : Nat) (t : CE) (b : CS) | fr (tg : Tg) (it : CE) (b : CS)
  | tryc (ie ic : Nat) (rs : List Str) (b : CS)
  | ret (e : CE) | retM (i : Nat) | retN | rai (c : Str) | pass | brk | cnt | nev
  | nil | seq (a r : CS)
def setAll : List Nat → List PyData → Env' → Option Env'
  | [], [], env => some env
  | i :: is, d :: ds, env => if i < env.length then setAll is ds (env.set i (.fz d)) else none
  | _, _, _ => none
/-- what was reckoned, each into its slot, from the left; a new list is owned by its slot -/
def setArgs : List Nat → List Arg → Env' → Option Env'
  | [], [], env => some env
  | i :: is, .tmp sl :: as, env => if i < env.length then setArgs is as (env.set i sl) else none
  | _, _, _ => none
def stE (tg : Tg) (sl : Sl) (env : Env') : Option Env' := match tg with
  | .loc i => if i < env.length then some (env.set i sl) else none
  | tg => sl.item.bind fun d => bindT tg d env
def intS : Option Sl → Option Int
  | some (.fz (.int i)) => some i
  | _ => none
def wLoop (t : Env' → Res (Sl × Env')) (b : Env' → Res Fl) : Nat → Env' → Res Fl
  | 0, _ => .no
  | n + 1, env => (t env).bind fun p => (Res.of (blD p.1)).bind fun c => if c then (b p.2).bind fun f => (match f with
    | .nx e => wLoop t b n e
    | .ct e => wLoop t b n e
    | .bk e => .ok (.nx e)
    | .rt s e => .ok (.rt s e)) else .ok (.nx p.2)
def fLoop (tg : Tg) (b : Env' → Res Fl) : List PyData → Env' → Res Fl
  | [], env => .ok (.nx env)
  | d :: ds, env => (Res.of (bindT tg d env)).bind fun e => (b e).bind fun f => (match f with
    | .nx e => fLoop tg b ds e
    | .ct e => fLoop tg b ds e
    | .bk e => .ok (.nx e)
    | .rt s e => .ok (.rt s e))
/-- behind an exception nothing is known of what was owned -/
def forget : Env' → Env' := List.map fun sl => match sl with
  | .ol _ => .un
  | sl => sl
/-- try: b; except RowError as e: caught = e -/
def tryR (ie ic : Nat) (rs : List Str) (r : Env' → Res Fl) (env : Env') : Res Fl := match r env with
  | .ok f => .ok f
  | .exc c => if c ∈ rs ∧ ie < env.length ∧ ic < env.length ∧ ie ≠ ic then .ok (.nx (((forget env).set ie .un).set ic (.fz (.dict [(.str c, .none)])))) else .no
  | .no => .no
def dS (Φ : Nat → Fn) : CS → Env' → Res Fl
  | .asg tg e, env => (dE Φ e env).bind fun p => (Res.of (stE tg p.1 p.2)).bind fun e => .ok (.nx e)
  | .par is e, env => (dA Φ e env).bind fun p => (Res.of (itemsOf p.1)).bind fun xs => (Res.of (setAll is xs.reverse p.2)).bind fun e => .ok (.nx e)
  | .parO is e, env => (dA Φ e env).bind fun p => (Res.of (setArgs is p.1 p.2)).bind fun e => .ok (.nx e)
  | .setix i k e, env => (dE Φ e env).bind fun p => (Res.of p.1.item).bind fun x => (Res.of (olD p.2[i]?)).bind fun _ => (dE Φ k p.2).bind fun q => (Res.of (intS (some q.1))).bind fun j => (Res.of (olD q.2[i]?)).bind fun ds => (Res.of (ixN ds.length j)).bind fun m => .ok (.nx (q.2.set i (.ol (ds.set m x))))
  | .aug i sub e, env => (Res.of (intS env[i]?)).bind fun a => (dE Φ e env).bind fun p => (Res.of (intS (some p.1))).bind fun b => .ok (.nx (p.2.set i (.fz (.int (if sub then a - b else a + b)))))
  | .app i e, env => (Res.of (olD env[i]?)).bind fun _ => (dE Φ e env).bind fun p => (Res.of p.1.item).bind fun x => (Res.of (olD p.2[i]?)).bind fun ds => if ds.length < line then .ok (.nx (p.2.set i (.ol (ds ++ [x])))) else .no
  | .ext i e, env => (Res.of (olD env[i]?)).bind fun _ => (dE Φ e env).bind fun p => (Res.of (olD (some p.1))).bind fun xs => (Res.of (olD p.2[i]?)).bind fun ds => if ds.length + xs.length ≤ line then .ok (.nx (p.2.set i (.ol (ds ++ xs)))) else .no
  | .ins i k e, env => (Res.of (olD env[i]?)).bind fun _ => (dE Φ k env).bind fun q => (Res.of (intS (some q.1))).bind fun j => (dE Φ e q.2).bind fun p => (Res.of p.1.item).bind fun x => (Res.of (olD p.2[i]?)).bind fun ds =>
      if ds.length < line ∧ 0 ≤ j ∧ j < 2 ^ 63 then .ok (.nx (p.2.set i (.ol (ds.take j.toNat ++ [x] ++ ds.drop j.toNat)))) else .no
  | .popA i k, env => (Res.of (olD env[i]?)).bind fun _ => (dE Φ k env).bind fun q => (Res.of (intS (some q.1))).bind fun j => (Res.of (olD q.2[i]?)).bind fun ds => (Res.of (seqIndex? j ds.length)).bind fun m =>
      if -(2 ^ 63) ≤ j ∧ j < 2 ^ 63 ∧ m < ds.length then .ok (.nx (q.2.set i (.ol (ds.eraseIdx m)))) else .no
  | .pop i, env => (Res.of (olD env[i]?)).bind fun ds => if ds ≠ [] then .ok (.nx (env.set i (.ol ds.dropLast))) else .no
  | .rvs i, env => (Res.of (olD env[i]?)).bind fun ds => .ok (.nx (env.set i (.ol ds.reverse)))
  | .ex e, env => (dE Φ e env).bind fun p => .ok (.nx p.2)
  | .ite t a b, env => (dE Φ t env).bind fun p => (Res.of (blD p.1)).bind fun c => if c then dS Φ a p.2 else dS Φ b p.2
  | .whl n t b, env => wLoop (dE Φ t) (dS Φ b) n env
  | .fr tg it b, env => (itR (dE Φ it) env).bind fun p => fLoop tg (dS Φ b) p.1 p.2
  | .tryc ie ic rs b, env => tryR ie ic rs (dS Φ b) env
  | .ret e, env => (dE Φ e env).bind fun p => .ok (.rt p.1 p.2)
  | .retM i, env => (match env[i]? with
    | some (.ol ds) => .ok (.rt (.ol ds) (env.set i .un))
    | some (.fz d) => .ok (.rt (.fz d) env)
    | _ => .no)
  | .retN, env => .ok (.rt (.fz .none) env)
  | .rai c, env => .exc c
  | .pass, env => .ok (.nx env)
  | .brk, env => .ok (.bk env)
  | .cnt, env => .ok (.ct env)
  | .nev, _ => .no
  | .nil, env => .ok (.nx env)
  | .seq a r, env => (dS Φ a env).bind fun f => (match f with
    | .nx e => dS Φ r e
    | f => .ok f)

/-- what is behind a statement; P: the slots whose value stays -/
def Kst (K : PySem.W.Frag) (F H : Hp) (env : Env') (σ : L2.St) (P : List Nat) (f : Fl) (D : Ends) : Prop := match f with
  | .nx e => ∀ σ' F' H', EnvOk K F' H' e σ' → Step F H (Ow env σ) F' H' (Ow e σ') → (∀ j ∈ P, σ'[j]? = σ[j]?) → D.nx σ' H'
  | .bk e => ∀ σ' F' H', EnvOk K F' H' e σ' → Step F H (Ow env σ) F' H' (Ow e σ') → (∀ j ∈ P, σ'[j]? = σ[j]?) → D.bk σ' H'
  | .ct e => ∀ σ' F' H', EnvOk K F' H' e σ' → Step F H (Ow env σ) F' H' (Ow e σ') → (∀ j ∈ P, σ'[j]? = σ[j]?) → D.ct σ' H'
  | .rt sl e => ∀ v σ' F' H', EnvOk K F' H' e σ' → Step F H (Ow env σ) F' H' (Ow e σ') → (∀ j ∈ P, σ'[j]? = σ[j]?) → Tmp K F' H' (Ow e σ') H (Ow env σ) sl v → D.rt v H'
def tSx (K : PySem.W.Frag) (exA : Str → Option Addr) (W : WX) (P : List Nat) (r : Env' → Res Fl) : TS := fun D σ H => ∃ F env, EnvOk K F H env σ ∧ OnR (r env) (fun f => Kst K F H env σ P f D) (Xk exA W F H (Ow env σ))
section
variable {K : PySem.W.Frag} {F H F1 H1 : Hp} {env env1 : Env'} {σ σ1 : L2.St} {P : List Nat} {D : Ends} {f : Fl}
theorem Kst.after (k : Kst K F H env σ P f D) (s : Step F H (Ow env σ) F1 H1 (Ow env1 σ1)) (h : ∀ j ∈ P, σ1[j]? = σ[j]?) : Kst K F1 H1 env1 σ1 P f D := by
  cases f with
  | nx e => exact fun σ' F' H' E st p => k σ' F' H' E (s.trans st) fun j hj => (p j hj).trans (h j hj)
  | bk e => exact fun σ' F' H' E st p => k σ' F' H' E (s.trans st) fun j hj => (p j hj).trans (h j hj)
  | ct e => exact fun σ' F' H' E st p => k σ' F' H' E (s.trans st) fun j hj => (p j hj).trans (h j hj)
  | rt sl e => exact fun v σ' F' H' E st p t => k v σ' F' H' E (s.trans st) (fun j hj => (p j hj).trans (h j hj)) (t.up s)
/-- the end of a statement, at hand -/
theorem Kst.nx {e : Env'} (k : Kst K F H env σ P (.nx e) D) {σ' : L2.St} {F' H' : Hp} (E : EnvOk K F' H' e σ') (s : Step F H (Ow env σ) F' H' (Ow e σ')) (p : ∀ j ∈ P, σ'[j]? = σ[j]?) : D.nx σ' H' := k σ' F' H' E s p
end
section
variable {X : Cx} {st : Stmt} {sts : List Stmt} {exA : Str → Option Addr} {W : WX} {P : List Nat} {ra rb : Env' → Res Fl}
theorem PS.imp {t t' : TS} (h : PS X st t) (f : ∀ D σ H, t' D σ H → t D σ H) : PS X st t' := ⟨fun pins s σ H D I q => h.run pins s σ H D I (f D σ H q)⟩
theorem PSs.imp {t t' : TS} (h : PSs X sts t) (f : ∀ D σ H, t' D σ H → t D σ H) : PSs X sts t' := ⟨fun pins s σ H D I q => h.run pins s σ H D I (f D σ H q)⟩
theorem pss_nilx : PSs X [] (tSx X.K exA W P fun env => .ok (.nx env)) := by
  refine PSs.imp pss_nil fun D σ H q => ?_
  obtain ⟨F, env, E, q⟩ := q
  exact Kst.nx (show Kst X.K F H env σ P (.nx env) D from q) E (Step.refl _ _ _) fun _ _ => rfl
theorem pss_consx (ha : PS X st (tSx X.K exA W P ra)) (hb : PSs X sts (tSx X.K exA W P rb)) : PSs X (st :: sts) (tSx X.K exA W P fun env => (ra env).bind fun f => (match f with
    | .nx e => rb e
    | f => .ok f)) := by
  refine PSs.imp (pss_cons ha hb) fun D σ H q => ?_
  obtain ⟨F, env, E, q⟩ := q
  refine ⟨F, env, E, q.bind.mono (fun f _ h => ?_) fun _ x => x⟩
  cases f with
  | nx e => exact fun σ' F' H' E' s p => ⟨F', e, E', h.mono (fun f _ k => k.after s p) fun _ x => x.after s⟩
  | bk e => exact h
  | ct e => exact h
  | rt sl e => exact h
theorem ps_jumpx : PS X (.Pass pos) (tSx X.K exA W P fun env => .ok (.nx env)) := by
  refine PS.imp ps_pass fun D σ H q => ?_
  obtain ⟨F, env, E, q⟩ := q
  exact Kst.nx (show Kst X.K F H env σ P (.nx env) D from q) E (Step.refl _ _ _) fun _ _ => rfl
theorem ps_docx {x : Str} {j : Nat} {pos pos' : Pos} : PS X (.Expr (.Constant (.str x) j pos) pos') (tSx X.K exA W P fun env => .ok (.nx env)) := by
  refine PS.imp ps_doc fun D σ H q => ?_
  obtain ⟨F, env, E, q⟩ := q
  exact Kst.nx (show Kst X.K F H env σ P (.nx env) D from q) E (Step.refl _ _ _) fun _ _ => rfl
theorem ps_brkx {pos : Pos} : PS X (.Break pos) (tSx X.K exA W P fun env => .ok (.bk env)) := by
  refine PS.imp ps_break fun D σ H q => ?_
  obtain ⟨F, env, E, q⟩ := q
  exact (show Kst X.K F H env σ P (.bk env) D from q) σ F H E (Step.refl _ _ _) fun _ _ => rfl
theorem ps_cntx {pos : Pos} : PS X (.Continue pos) (tSx X.K exA W P fun env => .ok (.ct env)) := by
  refine PS.imp ps_continue fun D σ H q => ?_
  obtain ⟨F, env, E, q⟩ := q
  exact (show Kst X.K F H env σ P (.ct env) D from q) σ F H E (Step.refl _ _ _) fun _ _ => rfl
theorem ps_retNx {pos : Pos} : PS X (.Return none pos) (tSx X.K exA W P fun env => .ok (.rt (.fz .none) env)) := by
  refine PS.imp ps_retN fun D σ H q => ?_
  obtain ⟨F, env, E, q⟩ := q
  exact (show Kst X.K F H env σ P (.rt (.fz .none) env) D from q) .non σ F H E (Step.refl _ _ _) (fun _ _ => rfl) (.fz .non)
theorem ps_retx {e : Expr} {r : Env' → Res (Sl × Env')} {pos : Pos} (h : PE X e (tEx X.K exA W r)) : PS X (.Return (some e) pos) (tSx X.K exA W P fun env => (r env).bind fun p => .ok (.rt p.1 p.2)) := by
  refine PS.imp (ps_ret h) fun D σ H q => ?_
  obtain ⟨F, env, E, q⟩ := q
  refine ⟨F, env, E, q.bind.mono (fun p _ h => ?_) fun _ x => x⟩
  exact fun v F' H' E' s t => (show Kst X.K F H env σ P (.rt p.1 p.2) D from h) v σ F' H' E' s (fun _ _ => rfl) t
/-- a slot's list leaves the frame -/
theorem EnvOk.mv {K : PySem.W.Frag} {F H : Hp} {env : Env'} {σ : L2.St} {i : Nat} {ds : List PyData} (E : EnvOk K F H env σ) (h : env[i]? = some (.ol ds)) : ∃ a xs, σ[i]? = some (some (.ref a)) ∧ F a = none ∧ H a = some (.lst xs) ∧ RpA K F xs ds ∧
    EnvOk K F H (env.set i .un) σ ∧ ∀ x, Ow (env.set i .un) σ x → Ow env σ x ∧ x ≠ a := by
  obtain ⟨v, e1, a, xs, rfl, f, hh, r⟩ := E.ok i _ h (by simp)
  refine ⟨a, xs, e1, f, hh, r, ⟨E.sub, by rw [List.length_set]; exact E.len, fun j tl hj n => ?_, fun j k s1 s2 u w x h1 h2 h3 h4 o1 o2 => ?_⟩, fun x ⟨j, tl, w, h1, h2, o⟩ => ?_⟩
  · rcases get_set hj with ⟨rfl, rfl⟩ | ⟨ne, hj⟩
    · exact absurd rfl n
    · exact E.ok j tl hj n
  · rcases get_set h1 with ⟨rfl, rfl⟩ | ⟨n1, h1⟩
    · exact o1.elim
    · rcases get_set h2 with ⟨rfl, rfl⟩ | ⟨n2, h2⟩
      · exact o2.elim
      · exact E.inj j k s1 s2 u w x h1 h2 h3 h4 o1 o2
  · rcases get_set h1 with ⟨rfl, rfl⟩ | ⟨ne, h1⟩
    · exact o.elim
    · refine ⟨⟨j, tl, w, h1, h2, o⟩, fun z => ne ?_⟩
      subst z
      exact E.inj j i _ _ _ _ _ h1 h h2 e1 o rfl
theorem ps_retMx {e : Expr} {i : Nat} {pos : Pos} (h : PE X e (tVar i)) : PS X (.Return (some e) pos) (tSx X.K exA W P fun env => (match env[i]? with
    | some (.ol ds) => .ok (.rt (.ol ds) (env.set i .un))
    | some (.fz d) => .ok (.rt (.fz d) env)
    | _ => .no)) := by
  refine PS.imp (ps_ret h) fun D σ H q => ?_
  obtain ⟨F, env, E, q⟩ := q
  have q : OnR (match env[i]? with
    | some (.ol ds) => Res.ok (.rt (.ol ds) (env.set i .un))
    | some (.fz d) => .ok (.rt (.fz d) env)
    | _ => .no) (fun f => Kst X.K F H env σ P f D) (Xk exA W F H (Ow env σ)) := q
  cases hs : env[i]? with
  | none => rw [hs] at q; exact q.elim
  | some sl =>
    rw [hs] at q
    cases sl with
    | un => exact q.elim
    | fz d =>
      obtain ⟨v, e1, ok⟩ := E.ok i _ hs (by simp)
      exact ⟨v, e1, (show Kst X.K F H env σ P (.rt (.fz d) env) D from q) v σ F H E (Step.refl _ _ _) (fun _ _ => rfl) (.fz ok)⟩
    | ol ds =>
      obtain ⟨a, xs, e1, f, hh, r, E', ow⟩ := E.mv hs
      refine ⟨_, e1, (show Kst X.K F H env σ P (.rt (.ol ds) (env.set i .un)) D from q) (.ref a) σ F H E' ((Step.refl F H (Ow env σ)).weak fun x h => (ow x h).1) (fun _ _ => rfl) ⟨⟨a, xs, rfl, f, hh, r⟩, fun x o z => ?_, fun x o => ?_⟩⟩
      · have o : V.ref a = V.ref x := o
        cases o
        exact (ow a z).2 rfl
      · have o : V.ref a = V.ref x := o
        cases o
        exact .inl ⟨i, _, _, hs, e1, rfl⟩
theorem ps_exx {e : Expr} {r : Env' → Res (Sl × Env')} {pos : Pos} (h : PE X e (tEx X.K exA W r)) (hs : swapsWith e none pos.line X.env = pure false) : PS X (.Expr e pos) (tSx X.K exA W P fun env => (r env).bind fun p => .ok (.nx p.2)) := by
  refine PS.imp (ps_expr h hs) fun D σ H q => ?_
  obtain ⟨F, env, E, q⟩ := q
  refine ⟨F, env, E, q.bind.mono (fun p _ h => ?_) fun _ x => x⟩
  exact fun v F' H' E' s t => (show Kst X.K F H env σ P (.nx p.2) D from h).nx E' s fun _ _ => rfl
theorem ps_itex {c : Expr} {a b : List Stmt} {rt : Env' → Res (Sl × Env')} {pos : Pos} (hc : PT X c (tTx X.K exA W rt)) (ha : PSs X a (tSx X.K exA W P ra)) (hb : PSs X b (tSx X.K exA W P rb)) :
    PS X (.If c a b pos) (tSx X.K exA W P fun env => (rt env).bind fun p => (Res.of (blD p.1)).bind fun c => if c then ra p.2 else rb p.2) := by
  refine PS.imp (ps_if hc ha hb) fun D σ H q => ?_
  obtain ⟨F, env, E, q⟩ := q
  refine ⟨F, env, E, q.bind.mono (fun p _ h => ?_) fun _ x => x⟩
  obtain ⟨k, e1, h3⟩ := h.bind.of
  refine ⟨k, e1, fun F1 H1 E1 s1 => ?_⟩
  cases k with
  | true =>
    rw [if_pos rfl] at h3 ⊢
    exact ⟨F1, p.2, E1, h3.mono (fun f _ k => k.after s1 fun _ _ => rfl) fun _ x => x.after s1⟩
  | false =>
    rw [if_neg (by simp)] at h3 ⊢
    exact ⟨F1, p.2, E1, h3.mono (fun f _ k => k.after s1 fun _ _ => rfl) fun _ x => x.after s1⟩
end
end Vl
set_option maxHeartbeats 2000000
namespace Vl
open PySem PySem.Spec PyProof.Rows L2
section
variable {K : PySem.W.Frag} {F H F1 H1 : Hp} {env : Env'} {σ : L2.St} {i : Nat} {ds : List PyData}
/-- a slot's list is written in place -/
theorem EnvOk.wr (E : EnvOk K F H env σ) (h : env[i]? = some (.ol ds)) : ∃ a xs, σ[i]? = some (some (.ref a)) ∧ F a = none ∧ H a = some (.lst xs) ∧ RpA K F xs ds ∧
    ∀ ys es, RpA K F ys es → EnvOk K F (upd H a (.lst ys)) (env.set i (.ol es)) σ ∧ Step F H (Ow env σ) F (upd H a (.lst ys)) (Ow (env.set i (.ol es)) σ) := by
  obtain ⟨v, e1, a, xs, rfl, f, hh, r⟩ := E.ok i _ h (by simp)
  have hi : i < env.length := by
    rcases Nat.lt_or_ge i env.length with z | z
    · exact z
    · rw [List.getElem?_eq_none z] at h; cases h
  refine ⟨a, xs, e1, f, hh, r, fun ys es ry => ?_⟩
  have ow : ∀ x, Ow (env.set i (.ol es)) σ x → Ow env σ x := fun x ⟨j, tl, w, h1, h2, o⟩ => by
    rcases get_set h1 with ⟨rfl, rfl⟩ | ⟨ne, h1⟩
    · exact ⟨j, _, w, h, h2, o⟩
    · exact ⟨j, tl, w, h1, h2, o⟩
  refine ⟨⟨fun x u hx => ?_, by rw [List.length_set]; exact E.len, fun j tl hj n => ?_, fun j k s1 s2 u w x h1 h2 h3 h4 o1 o2 => ?_⟩, fun _ _ z => z, fun x u hx n => ?_, fun x hx => .inl hx, fun x hx => .inl (ow x hx)⟩
  · rw [upd_ne (ne_of_none hx f)]; exact E.sub _ _ hx
  · rcases get_set hj with ⟨rfl, rfl⟩ | ⟨ne, hj⟩
    · exact ⟨_, e1, a, ys, rfl, f, upd_same, ry⟩
    · obtain ⟨w, g1, g2⟩ := E.ok j tl hj n
      refine ⟨w, g1, g2.sub (fun _ _ z => z) fun x o => ⟨(g2.there o).1, ?_⟩⟩
      rw [upd_ne]
      rintro rfl
      exact ne (E.inj j i _ _ _ _ _ hj h g1 e1 o rfl)
  · have back : ∀ (m : Nat) (s : Sl) (z : V), (env.set i (.ol es))[m]? = some s → own s z x → ∃ s', env[m]? = some s' ∧ own s' z x := fun m s z hm o => by
      rcases get_set hm with ⟨rfl, rfl⟩ | ⟨ne, hm⟩
      · exact ⟨_, h, o⟩
      · exact ⟨s, hm, o⟩
    obtain ⟨t1, g1, p1⟩ := back j s1 u h1 o1
    obtain ⟨t2, g2, p2⟩ := back k s2 w h2 o2
    exact E.inj j k t1 t2 u w x g1 g2 h3 h4 p1 p2
  · rw [upd_ne]; exact hx
    rintro rfl
    exact n ⟨i, _, _, h, e1, rfl⟩
theorem olD_some {o : Option Sl} {ds : List PyData} (h : olD o = some ds) : o = some (.ol ds) := by
  unfold olD at h
  split at h <;> cases h
  rfl
theorem intS_some {o : Option Sl} {j : Int} (h : intS o = some j) : o = some (.fz (.int j)) := by
  unfold intS at h
  split at h <;> cases h
  rfl
theorem tmp_int {O : Addr → Prop} {H₀ : Hp} {O₀ : Addr → Prop} {sl : Sl} {v : V} {j : Int} (t : Tmp K F H O H₀ O₀ sl v) (h : intS (some sl) = some j) : v = .int j := by
  have h := intS_some h
  cases h
  have ok : Rp K F v (.int j) := t.ok
  cases ok; rfl
theorem slot_int {j : Int} (E : EnvOk K F H env σ) (h : intS env[i]? = some j) : σ[i]? = some (some (.int j)) := by
  obtain ⟨v, e1, ok⟩ := E.ok i _ (intS_some h) (by simp)
  have ok : Rp K F v (.int j) := ok
  cases ok; exact e1
end
section
variable {X : Cx} {st : Stmt} {exA : Str → Option Addr} {W : WX} {P : List Nat} {i : Nat} {x : Str} {r rk : Env' → Res (Sl × Env')} {e k : Expr} {pos p2 p3 p4 : Pos}
/-- name = e -/
theorem asg_run (hi : i ∉ P) : ∀ D σ H, tSx X.K exA W P (fun env => (r env).bind fun p => (Res.of (stE (.loc i) p.1 p.2)).bind fun e => .ok (.nx e)) D σ H → tAsg (tEx X.K exA W r) (gName i) D σ H := by
  intro D σ H q
  obtain ⟨F, env, E, q⟩ := q
  refine ⟨F, env, E, q.bind.mono (fun p _ h => ?_) fun _ x => x⟩
  obtain ⟨e, e1, h3⟩ := h.bind.of
  replace e1 : (if i < p.2.length then some (p.2.set i p.1) else none) = some e := e1
  split at e1
  · rename_i hlt
    cases e1
    intro v F1 H1 E1 s1 t1
    have h3 : Kst X.K F H env σ P (.nx (p.2.set i p.1)) D := h3
    have E2 := E1.set hlt t1.ok t1.no
    refine h3.nx E2 ⟨s1.fz, s1.keep, s1.new, fun a o => ?_⟩ fun j hj => ?_
    · rcases Ow.set (by rw [← E1.len]; exact hlt) o with z | z
      · exact s1.own a z
      · exact t1.fr a z
    · rw [List.getElem?_set_ne]
      rintro rfl
      exact hi hj
  · cases e1
/-- a, (b, c) = e -/
theorem asgT_run {tg : Tg} (hl : ∀ i, tg ≠ .loc i) (hP : ∀ j ∈ P, tgHas tg j = false) : ∀ D σ H, tSx X.K exA W P (fun env => (r env).bind fun p => (Res.of (stE tg p.1 p.2)).bind fun e => .ok (.nx e)) D σ H → tAsg (tEx X.K exA W r) (gTx X.K tg) D σ H := by
  intro D σ H q
  obtain ⟨F, env, E, q⟩ := q
  refine ⟨F, env, E, q.bind.mono (fun p _ h => ?_) fun _ x => x⟩
  obtain ⟨e, e1, h3⟩ := h.bind.of
  have e1 : (p.1.item.bind fun d => bindT tg d p.2) = some e := by
    cases tg with
    | loc i => exact absurd rfl (hl i)
    | tup _ => exact e1
    | nil => exact e1
    | cons _ _ => exact e1
  rw [Option.bind_eq_some_iff] at e1
  obtain ⟨d, e1, e2⟩ := e1
  intro v F1 H1 E1 s1 t1
  obtain ⟨F2, E2, s2, _, rp⟩ := freezeT E1 s1 t1 e1
  have h3 : Kst X.K F H env σ P (.nx e) D := h3
  exact ⟨F2, p.2, d, e, E2, rp, e2, fun σ' E' ow same => h3.nx E' (s2.weak ow) fun j hj => same j (hP j hj)⟩
theorem ps_asgT {t : Expr} {tg : Tg} (he : PE X e (tEx X.K exA W r)) (hg : PG X t (gTx X.K tg)) (hl : ∀ i, tg ≠ .loc i) (hP : ∀ j ∈ P, tgHas tg j = false) (hs : swapsWithSole [t] e pos.line X.env = pure false) (hw : swappedStores [t] e X.env = pure none)
    (h1 : (assignEach [t] X.env).map (·.2) = [assign t X.env]) : PS X (.Assign [t] e pos) (tSx X.K exA W P fun env => (r env).bind fun p => (Res.of (stE tg p.1 p.2)).bind fun e => .ok (.nx e)) :=
  PS.imp (ps_asg he hg hs hw h1) (asgT_run hl hP)
/-- name += e, name -= e -/
theorem aug_run (sub : Bool) (hi : i ∉ P) : ∀ D σ H, tSx X.K exA W P (fun env => (Res.of (intS env[i]?)).bind fun a => (r env).bind fun p => (Res.of (intS (some p.1))).bind fun b => .ok (.nx (p.2.set i (.fz (.int (if sub then a - b else a + b)))))) D σ H →
    tAug i (tEx X.K exA W r) (ipI fun a b => if sub then a - b else a + b) D σ H := by
  intro D σ H q
  obtain ⟨F, env, E, q⟩ := q
  obtain ⟨a, e1, q⟩ := q.bind.of
  refine ⟨.int a, slot_int E e1, F, env, E, q.bind.mono (fun p _ h => ?_) fun _ x => x⟩
  obtain ⟨b, e2, h3⟩ := h.bind.of
  intro v F1 H1 E1 s1 t1
  have hv := tmp_int t1 e2
  subst hv
  refine ⟨a, b, rfl, rfl, ?_⟩
  have h3 : Kst X.K F H env σ P (.nx (p.2.set i (.fz (.int (if sub then a - b else a + b))))) D := h3
  have hlt : i < p.2.length := by
    rw [E1.len, ← E.len]
    rcases Nat.lt_or_ge i env.length with z | z
    · exact z
    · rw [List.getElem?_eq_none z] at e1; cases e1
  obtain ⟨E2, ow⟩ := E1.setFz hlt (.int (if sub then a - b else a + b))
  refine h3.nx E2 (s1.weak ow) fun j hj => ?_
  rw [List.getElem?_set_ne]
  rintro rfl
  exact hi hj
/-! methods of lists -/
theorem tyV_list {K : PySem.W.Frag} {H : Hp} {a : Addr} {xs : List V} (h : H a = some (.lst xs)) : tyV K "list" (.ref a) H := .inl ⟨rfl, xs, .inl (.inl h)⟩
theorem app_run : ∀ D σ H, tSx X.K exA W P (fun env => (Res.of (olD env[i]?)).bind fun _ => (r env).bind fun p => (Res.of p.1.item).bind fun x => (Res.of (olD p.2[i]?)).bind fun ds => if ds.length < line then .ok (.nx (p.2.set i (.ol (ds ++ [x])))) else .no) D σ H →
    tDrop (tBM X.K "list" rAppend (tVar i) (fun σ H Q => tEx X.K exA W r σ H fun v H1 => Q [v] H1)) D σ H := by
  intro D σ H q
  obtain ⟨F, env, E, q⟩ := q
  obtain ⟨d0, e0, q⟩ := q.bind.of
  obtain ⟨a0, xs0, g1, g2, g3, _, _⟩ := E.wr (olD_some e0)
  refine ⟨_, g1, tyV_list g3, F, env, E, q.bind.mono (fun p _ h => ?_) fun _ x => x⟩
  obtain ⟨xd, e1, h3⟩ := h.bind.of
  obtain ⟨ds, e2, h4⟩ := h3.bind.of
  intro v F1 H1 E1 s1 t1
  obtain ⟨F2, E2, s2, _, rp⟩ := freezeT E1 s1 t1 e1
  obtain ⟨a, xs, k1, k2, k3, k4, k5⟩ := E2.wr (olD_some e2)
  rw [g1] at k1
  cases k1
  split at h4
  · rename_i hz
    obtain ⟨E3, s3⟩ := k5 (xs ++ [v]) (ds ++ [xd]) (k4.append (.cons rp .nil))
    refine ⟨_, xs, v, rfl, rfl, k3, by rw [k4.n, line_eq]; exact hz, ?_⟩
    exact (show Kst X.K F H env σ P (.nx (p.2.set i (.ol (ds ++ [xd])))) D from h4).nx E3 (s2.trans s3) fun _ _ => rfl
  · exact h4.elim
theorem ext_run : ∀ D σ H, tSx X.K exA W P (fun env => (Res.of (olD env[i]?)).bind fun _ => (r env).bind fun p => (Res.of (olD (some p.1))).bind fun xs => (Res.of (olD p.2[i]?)).bind fun ds => if ds.length + xs.length ≤ line then .ok (.nx (p.2.set i (.ol (ds ++ xs)))) else .no) D σ H →
    tDrop (tBM X.K "list" rExtend (tVar i) (fun σ H Q => tEx X.K exA W r σ H fun v H1 => Q [v] H1)) D σ H := by
  intro D σ H q
  obtain ⟨F, env, E, q⟩ := q
  obtain ⟨d0, e0, q⟩ := q.bind.of
  obtain ⟨a0, xs0, g1, g2, g3, _, _⟩ := E.wr (olD_some e0)
  refine ⟨_, g1, tyV_list g3, F, env, E, q.bind.mono (fun p _ h => ?_) fun _ x => x⟩
  obtain ⟨zs, e1, h3⟩ := h.bind.of
  obtain ⟨ds, e2, h4⟩ := h3.bind.of
  intro v F1 H1 E1 s1 t1
  have e1 := olD_some e1
  have e1 := Option.some.inj e1
  rw [e1] at t1
  obtain ⟨b, us, rfl, f, hb, rb⟩ := t1.ok
  obtain ⟨a, xs, k1, k2, k3, k4, k5⟩ := E1.wr (olD_some e2)
  rw [g1] at k1
  cases k1
  split at h4
  · rename_i hz
    obtain ⟨E3, s3⟩ := k5 (xs ++ us) (ds ++ zs) (k4.append rb)
    refine ⟨_, b, xs, us, rfl, rfl, k3, hb, by rw [k4.n, rb.n, line_eq]; exact hz, ?_⟩
    exact (show Kst X.K F H env σ P (.nx (p.2.set i (.ol (ds ++ zs)))) D from h4).nx E3 (s1.trans s3) fun _ _ => rfl
  · exact h4.elim
def rInsX : V → List V → Hp → VK → Prop := fun x vs H Q => ∃ (l : Addr) (xs : List V) (i : Int) (y : V), x = .ref l ∧ vs = [.int i, y] ∧ H l = some (.lst xs) ∧ xs.length < sizeLine ∧ 0 ≤ i ∧ i < 2 ^ 63 ∧
    Q .non (upd H l (.lst (xs.take i.toNat ++ [y] ++ xs.drop i.toNat)))
theorem ins_run : ∀ D σ H, tSx X.K exA W P (fun env => (Res.of (olD env[i]?)).bind fun _ => (rk env).bind fun q => (Res.of (intS (some q.1))).bind fun j => (r q.2).bind fun p => (Res.of p.1.item).bind fun x => (Res.of (olD p.2[i]?)).bind fun ds =>
      if ds.length < line ∧ 0 ≤ j ∧ j < 2 ^ 63 then .ok (.nx (p.2.set i (.ol (ds.take j.toNat ++ [x] ++ ds.drop j.toNat)))) else .no) D σ H →
    tDrop (tBM X.K "list" rInsX (tVar i) (fun σ H Q => tEx X.K exA W rk σ H fun v H1 => tEx X.K exA W r σ H1 fun w H2 => Q [v, w] H2)) D σ H := by
  intro D σ H q
  obtain ⟨F, env, E, q⟩ := q
  obtain ⟨d0, e0, q⟩ := q.bind.of
  obtain ⟨a0, xs0, g1, g2, g3, _, _⟩ := E.wr (olD_some e0)
  refine ⟨_, g1, tyV_list g3, F, env, E, q.bind.mono (fun p0 _ h => ?_) fun _ x => x⟩
  obtain ⟨j, ej, h⟩ := h.bind.of
  intro w F0 H0 E0 s0 t0
  have hw := tmp_int t0 ej
  subst hw
  refine ⟨F0, p0.2, E0, h.bind.mono (fun p _ h => ?_) fun _ x => x.after s0⟩
  obtain ⟨xd, e1, h3⟩ := h.bind.of
  obtain ⟨ds, e2, h4⟩ := h3.bind.of
  intro v F1 H1 E1 s1 t1
  obtain ⟨F2, E2, s2, _, rp⟩ := freezeT E1 s1 t1 e1
  obtain ⟨a, xs, k1, k2, k3, k4, k5⟩ := E2.wr (olD_some e2)
  rw [g1] at k1
  cases k1
  split at h4
  · rename_i hz
    obtain ⟨E3, s3⟩ := k5 (xs.take j.toNat ++ [v] ++ xs.drop j.toNat) (ds.take j.toNat ++ [xd] ++ ds.drop j.toNat) (((k4.take _).append (.cons rp .nil)).append (k4.drop _))
    refine ⟨_, xs, j, v, rfl, rfl, k3, by rw [k4.n, line_eq]; exact hz.1, hz.2.1, hz.2.2, ?_⟩
    exact (show Kst X.K F H env σ P (.nx (p.2.set i (.ol (ds.take j.toNat ++ [xd] ++ ds.drop j.toNat)))) D from h4).nx E3 ((s0.trans s2).trans s3) fun _ _ => rfl
  · exact h4.elim
theorem popA_run : ∀ D σ H, tSx X.K exA W P (fun env => (Res.of (olD env[i]?)).bind fun _ => (rk env).bind fun q => (Res.of (intS (some q.1))).bind fun j => (Res.of (olD q.2[i]?)).bind fun ds => (Res.of (seqIndex? j ds.length)).bind fun m =>
      if -(2 ^ 63) ≤ j ∧ j < 2 ^ 63 ∧ m < ds.length then .ok (.nx (q.2.set i (.ol (ds.eraseIdx m)))) else .no) D σ H →
    tDrop (tBM X.K "list" rPopAt (tVar i) (fun σ H Q => tEx X.K exA W rk σ H fun v H1 => Q [v] H1)) D σ H := by
  intro D σ H q
  obtain ⟨F, env, E, q⟩ := q
  obtain ⟨d0, e0, q⟩ := q.bind.of
  obtain ⟨a0, xs0, g1, g2, g3, _, _⟩ := E.wr (olD_some e0)
  refine ⟨_, g1, tyV_list g3, F, env, E, q.bind.mono (fun p _ h => ?_) fun _ x => x⟩
  obtain ⟨j, ej, h⟩ := h.bind.of
  obtain ⟨ds, e2, h⟩ := h.bind.of
  obtain ⟨m, e3, h4⟩ := h.bind.of
  intro w F1 H1 E1 s1 t0
  have hw := tmp_int t0 ej
  subst hw
  obtain ⟨a, xs, k1, k2, k3, k4, k5⟩ := E1.wr (olD_some e2)
  rw [g1] at k1
  cases k1
  split at h4
  · rename_i hz
    obtain ⟨E3, s3⟩ := k5 (xs.eraseIdx m) (ds.eraseIdx m) (k4.eraseIdx m)
    have hm : m < xs.length := by rw [k4.n]; exact hz.2.2
    refine ⟨_, xs, j, m, xs[m], rfl, rfl, k3, hz.1, hz.2.1, by rw [k4.n]; exact e3, List.getElem?_eq_getElem hm, ?_⟩
    exact (show Kst X.K F H env σ P (.nx (p.2.set i (.ol (ds.eraseIdx m)))) D from h4).nx E3 (s1.trans s3) fun _ _ => rfl
  · exact h4.elim
theorem RpA.dropLast {K : PySem.W.Frag} {F : Hp} {xs : List V} {ds : List PyData} (h : RpA K F xs ds) : RpA K F xs.dropLast ds.dropLast := by
  rw [List.dropLast_eq_take, List.dropLast_eq_take, h.n]
  exact h.take _
theorem pop_run : ∀ D σ H, tSx X.K exA W P (fun env => (Res.of (olD env[i]?)).bind fun ds => if ds ≠ [] then .ok (.nx (env.set i (.ol ds.dropLast))) else .no) D σ H →
    tDrop (tBM0 X.K "list" rPop (tVar i)) D σ H := by
  intro D σ H q
  obtain ⟨F, env, E, q⟩ := q
  obtain ⟨ds, e0, h4⟩ := q.bind.of
  obtain ⟨a, xs, k1, k2, k3, k4, k5⟩ := E.wr (olD_some e0)
  refine ⟨_, k1, tyV_list k3, ?_⟩
  split at h4
  · rename_i hz
    obtain ⟨E3, s3⟩ := k5 xs.dropLast ds.dropLast k4.dropLast
    have hm : xs.length - 1 < xs.length := by
      have : 0 < ds.length := List.length_pos_iff.mpr hz
      have := k4.n
      omega
    refine ⟨_, xs, xs[xs.length - 1], rfl, rfl, k3, List.getElem?_eq_getElem hm, ?_⟩
    exact (show Kst X.K F H env σ P (.nx (env.set i (.ol ds.dropLast))) D from h4).nx E3 s3 fun _ _ => rfl
  · exact h4.elim
theorem rvs_run : ∀ D σ H, tSx X.K exA W P (fun env => (Res.of (olD env[i]?)).bind fun ds => .ok (.nx (env.set i (.ol ds.reverse)))) D σ H →
    tDrop (tBM0 X.K "list" rReverse (tVar i)) D σ H := by
  intro D σ H q
  obtain ⟨F, env, E, q⟩ := q
  obtain ⟨ds, e0, h4⟩ := q.bind.of
  obtain ⟨a, xs, k1, k2, k3, k4, k5⟩ := E.wr (olD_some e0)
  obtain ⟨E3, s3⟩ := k5 xs.reverse ds.reverse k4.reverse
  refine ⟨_, k1, tyV_list k3, _, xs, rfl, rfl, k3, ?_⟩
  exact (show Kst X.K F H env σ P (.nx (env.set i (.ol ds.reverse))) D from h4).nx E3 s3 fun _ _ => rfl
/-- name[k] = e -/
theorem setix_run : ∀ D σ H, tSx X.K exA W P (fun env => (r env).bind fun p => (Res.of p.1.item).bind fun x => (Res.of (olD p.2[i]?)).bind fun _ => (rk p.2).bind fun q => (Res.of (intS (some q.1))).bind fun j => (Res.of (olD q.2[i]?)).bind fun ds => (Res.of (ixN ds.length j)).bind fun m => .ok (.nx (q.2.set i (.ol (ds.set m x))))) D σ H →
    tAsg (tEx X.K exA W r) (gSub (tVar i) (tEx X.K exA W rk) rSetL) D σ H := by
  intro D σ H q
  obtain ⟨F, env, E, q⟩ := q
  refine ⟨F, env, E, q.bind.mono (fun p _ h => ?_) fun _ x => x⟩
  obtain ⟨xd, e1, h⟩ := h.bind.of
  intro v F1 H1 E1 s1 t1
  obtain ⟨F2, E2, s2, _, rp⟩ := freezeT E1 s1 t1 e1
  obtain ⟨d0, e0, h⟩ := h.bind.of
  obtain ⟨a0, xs0, g1, g2, g3, _, _⟩ := E2.wr (olD_some e0)
  refine ⟨_, g1, F2, p.2, E2, h.bind.mono (fun q _ h => ?_) fun _ x => x.after s2⟩
  obtain ⟨j, ej, h⟩ := h.bind.of
  obtain ⟨ds, e2, h⟩ := h.bind.of
  obtain ⟨m, e3, h4⟩ := h.bind.of
  intro w F3 H3 E3 s3 t3
  have hw := tmp_int t3 ej
  subst hw
  obtain ⟨a, xs, k1, k2, k3, k4, k5⟩ := E3.wr (olD_some e2)
  rw [g1] at k1
  cases k1
  obtain ⟨E4, s4⟩ := k5 (xs.set m v) (ds.set m xd) (k4.set (rp.sub s3.fz) m)
  refine ⟨_, xs, j, m, rfl, rfl, k3, by rw [k4.n]; exact e3, ?_⟩
  exact (show Kst X.K F H env σ P (.nx (q.2.set i (.ol (ds.set m xd)))) D from h4).nx E4 ((s2.trans s3).trans s4) fun _ _ => rfl
end
end Vl
set_option maxHeartbeats 2000000
namespace Vl
open PySem PySem.Spec PyProof.Rows L2
section
variable {X : Cx} {exA : Str → Option Addr} {W : WX} {P : List Nat} {rt : Env' → Res (Sl × Env')} {rb : Env' → Res Fl} {pos : Pos}
/-! loops -/
theorem ps_whlx {c : Expr} {body : List Stmt} (hp : PassesOwn (model X.prog X.w) X.A X.env X.xe) (hc : PT X c (tTx X.K exA W rt)) (hb : PSs X body (tSx X.K exA W P rb)) (n : Nat) : PS X (.While c body [] pos) (tSx X.K exA W P (wLoop rt rb n)) := by
  refine PS.imp (ps_while hp hc hb) fun D σ H q => ?_
  refine ⟨fun m σ1 H1 => tSx X.K exA W P (wLoop rt rb m) D σ1 H1 ∧ ∀ j ∈ P, σ1[j]? = σ[j]?, ⟨n, q, fun _ _ => rfl⟩, fun m σ1 H1 w => ?_⟩
  obtain ⟨⟨F1, env1, E1, w⟩, pr⟩ := w
  cases m with
  | zero => exact w.elim
  | succ n =>
    have w : OnR ((rt env1).bind fun p => (Res.of (blD p.1)).bind fun c => if c then (rb p.2).bind fun f => (match f with
      | .nx e => wLoop rt rb n e
      | .ct e => wLoop rt rb n e
      | .bk e => .ok (.nx e)
      | .rt s e => .ok (.rt s e)) else .ok (.nx p.2)) (fun f => Kst X.K F1 H1 env1 σ1 P f D) (Xk exA W F1 H1 (Ow env1 σ1)) := w
    refine ⟨F1, env1, E1, w.bind.mono (fun p _ h => ?_) fun _ x => x⟩
    obtain ⟨k, e1, h3⟩ := h.bind.of
    refine ⟨k, e1, fun F2 H2 E2 s2 => ?_⟩
    cases k with
    | false =>
      rw [if_neg (by simp)] at h3 ⊢
      exact (show Kst X.K F1 H1 env1 σ1 P (.nx p.2) D from h3).nx E2 s2 fun _ _ => rfl
    | true =>
      rw [if_pos rfl] at h3 ⊢
      refine ⟨fun σ' H' => tSx X.K exA W P (wLoop rt rb n) D σ' H' ∧ ∀ j ∈ P, σ'[j]? = σ[j]?, fun σ' H' w => ⟨n, Nat.lt_succ_self n, w⟩, F2, p.2, E2, h3.bind.mono (fun f _ h => ?_) fun _ x => x.after s2⟩
      cases f with
      | nx e => exact fun σ' F' H' E' s pp => ⟨⟨F', e, E', OnR.mono h (fun f _ k => k.after (s2.trans s) pp) fun _ x => x.after (s2.trans s)⟩, fun j hj => (pp j hj).trans (pr j hj)⟩
      | ct e => exact fun σ' F' H' E' s pp => ⟨⟨F', e, E', OnR.mono h (fun f _ k => k.after (s2.trans s) pp) fun _ x => x.after (s2.trans s)⟩, fun j hj => (pp j hj).trans (pr j hj)⟩
      | bk e => exact fun σ' F' H' E' s pp => (show Kst X.K F1 H1 env1 σ1 P (.nx e) D from h).nx E' (s2.trans s) pp
      | rt sl e => exact fun v σ' F' H' E' s pp t => (show Kst X.K F1 H1 env1 σ1 P (.rt sl e) D from h) v σ' F' H' E' (s2.trans s) pp (t.up s2)
theorem ps_frx {tge iter : Expr} {body : List Stmt} {tg : Tg} (hp : PassesOwn (model X.prog X.w) X.A X.env X.xe) (hc : X.calm = true) (hi : PI X tge iter (tIx X.K exA W (itR rt))) (hg : PG X tge (gTx X.K tg)) (hP : ∀ j ∈ P, tgHas tg j = false) (hb : PSs X body (tSx X.K exA W P rb))
    (hs : ∀ x, foldedSetIterable iter X.env x = pure x) : PS X (.For tge iter body [] pos) (tSx X.K exA W P fun env => (itR rt env).bind fun p => fLoop tg rb p.1 p.2) := by
  refine PS.imp (ps_for hp hc hi hg hb hs) fun D σ H q => ?_
  obtain ⟨F, env, E, q⟩ := q
  refine ⟨F, env, E, q.bind.mono (fun p _ h => ?_) fun _ x => x⟩
  intro J F1 H1 E1 s1 it
  obtain ⟨n, G, Y, w, hn, hG, hY⟩ := it
  refine for_it w (fun i σc Hc => ∃ F' envc, EnvOk X.K F' Hc envc σc ∧ Step F1 H1 (Ow p.2 σ) F' Hc (Ow envc σc) ∧ (∀ j ∈ P, σc[j]? = σ[j]?) ∧ OnR (fLoop tg rb (p.1.drop i) envc) (fun f => Kst X.K F' Hc envc σc P f D) (Xk exA W F' Hc (Ow envc σc))) ?_ ?_ ?_ ?_
  · exact ⟨F1, p.2, E1, Step.refl _ _ _, fun _ _ => rfl, by rw [List.drop_zero]; exact h.mono (fun f _ k => k.after s1 fun _ _ => rfl) fun _ x => x.after s1⟩
  · rintro i σc Hc hi ⟨F', envc, a1, a2, a3, a4⟩
    exact hG _ fun a o z => a1.sub _ _ (a2.fz _ _ z)
  · rintro i x σc Hc H' hin ⟨F', envc, a1, a2, a3, a4⟩ y
    obtain ⟨d, hd, yy⟩ := hY i Hc x H' hin (fun a o z => a1.sub _ _ (a2.fz _ _ z)) y
    have lay : ∃ F2, EnvOk X.K F2 H' envc σc ∧ Step F' Hc (Ow envc σc) F2 H' (Ow envc σc) ∧ Rp X.K F2 x d := by
      rcases yy with ⟨rfl, rp⟩ | ⟨T, x1, x2, d1, d2, rfl, hT, rfl, rfl, r1, r2⟩
      · exact ⟨F', a1, Step.refl _ _ _, rp.sub a2.fz⟩
      · have fT := a1.noF hT
        refine ⟨upd F' T (.tup [x1, x2]), a1.layF hT, Step.layF a1 _ hT, ?_⟩
        exact .tup' (.inl (.inl upd_same)) (.cons ((r1.sub a2.fz).sub (sub_upd fT)) (.cons ((r2.sub a2.fz).sub (sub_upd fT)) .nil))
    obtain ⟨F2, b1, b2, b4⟩ := lay
    have hdr : p.1.drop i = d :: p.1.drop (i + 1) := by
      have hi : i < p.1.length := by omega
      rw [List.getElem?_eq_getElem hi] at hd
      cases hd
      exact List.drop_eq_getElem_cons hi
    rw [hdr] at a4
    have a4 : OnR ((Res.of (bindT tg d envc)).bind fun e => (rb e).bind fun f => (match f with
      | .nx e => fLoop tg rb (p.1.drop (i + 1)) e
      | .ct e => fLoop tg rb (p.1.drop (i + 1)) e
      | .bk e => .ok (.nx e)
      | .rt s e => .ok (.rt s e))) (fun f => Kst X.K F' Hc envc σc P f D) (Xk exA W F' Hc (Ow envc σc)) := a4
    obtain ⟨e, c1, a5⟩ := a4.bind.of
    refine ⟨F2, envc, d, e, b1, b4, c1, fun σ2 E2 ow2 same2 => ?_⟩
    have st : Step F' Hc (Ow envc σc) F2 H' (Ow e σ2) := b2.weak ow2
    have pr : ∀ j ∈ P, σ2[j]? = σc[j]? := fun j hj => same2 j (hP j hj)
    refine ⟨F2, e, E2, a5.bind.mono (fun f _ h => ?_) fun _ x => x.after st⟩
    cases f with
    | nx e' => exact fun σ' F3 H3 E' s pp => ⟨F3, e', E', a2.trans (st.trans s), fun j hj => ((pp j hj).trans (pr j hj)).trans (a3 j hj), OnR.mono h (fun f _ k => k.after (st.trans s) fun j hj => (pp j hj).trans (pr j hj)) fun _ x => x.after (st.trans s)⟩
    | ct e' => exact fun σ' F3 H3 E' s pp => ⟨F3, e', E', a2.trans (st.trans s), fun j hj => ((pp j hj).trans (pr j hj)).trans (a3 j hj), OnR.mono h (fun f _ k => k.after (st.trans s) fun j hj => (pp j hj).trans (pr j hj)) fun _ x => x.after (st.trans s)⟩
    | bk e' => exact fun σ' F3 H3 E' s pp => (show Kst X.K F' Hc envc σc P (.nx e') D from h).nx E' (st.trans s) fun j hj => (pp j hj).trans (pr j hj)
    | rt sl e' => exact fun v σ' F3 H3 E' s pp t => (show Kst X.K F' Hc envc σc P (.rt sl e') D from h) v σ' F3 H3 E' (st.trans s) (fun j hj => (pp j hj).trans (pr j hj)) (t.up st)
  · rintro σc Hc ⟨F', envc, a1, a2, a3, a4⟩
    rw [hn, List.drop_length] at a4
    exact (show Kst X.K F' Hc envc σc P (.nx envc) D from a4).nx a1 (Step.refl _ _ _) fun _ _ => rfl
/-! raise -/
theorem ps_raix {x m : Str} {j : Nat} {p p2 p3 : Pos} (hc : X.calm = true) (tk : Takes X W) (hx : ExOk X exA x) (hg : Gl X x) (hdb : (x == ("__debug__" : Str)) = false) :
    PS X (.Raise (some (.Call (.Name x p) [.Constant (.str m) j p2] [] p3)) none pos) (tSx X.K exA W P fun env => .exc x) := by
  obtain ⟨C, B, n, i, bm, h1, h2, h3, h4, h5, h6⟩ := hx
  refine PS.imp (ps_raise hc tk (pmk_own h5 h6 h2 h3 h4 hg hdb)) fun D σ H q => ?_
  obtain ⟨F, env, E, q⟩ := q
  have q : Xk exA W F H (Ow env σ) x := q
  obtain ⟨C', e, q⟩ := q
  rw [h1] at e
  cases e
  exact q σ F H (fun _ _ z => z) E.sub fun _ _ z _ => z
/-! a, b = x, y -/
structure NmOk (X : Cx) (i : Nat) (n : Str) : Prop where
  ix : X.N[i]? = some n
  lo : X.env.scope.names.lookup n = some .local
theorem ord_ok {pins : List (Addr × Obj)} {F H : Hp} (hN : X.N.Nodup) : ∀ (is : List Nat) (ns : List Str) (us : List Value) (vs : List V) (ds : List PyData) (σ : L2.St) (env env' : Env') (s : Shared), is.length = ns.length → (∀ (k i : Nat) (n : Str), is[k]? = some i → ns[k]? = some n → NmOk X i n ∧ i ∉ P) →
    Vals vs us → RpA X.K F vs ds → setAll is ds env = some env' → Inv X pins σ H s → EnvOk X.K F H env σ →
    wpAny (model X.prog X.w) X.A (assignInOrder (ns.map fun n => fun v => bindName X.env n v) us) (fun _ s' => ∃ σ', Inv X pins σ' H s' ∧ EnvOk X.K F H env' σ' ∧ (∀ a, Ow env' σ' a → Ow env σ a) ∧ ∀ j ∈ P, σ'[j]? = σ[j]?) X.xe s
  | [], [], us, vs, ds, σ, env, env', s, _, _, r, rp, h, I, E => by
    cases ds with
    | cons _ _ => cases h
    | nil =>
      cases h
      have := rp.n
      have hv : vs = [] := List.eq_nil_of_length_eq_zero this
      subst hv
      cases r
      exact assignInOrder_nil ⟨σ, I, E, fun _ h => h, fun _ _ => rfl⟩
  | i :: is, n :: ns, us, vs, ds, σ, env, env', s, hl, hk, r, rp, h, I, E => by
    cases ds with
    | nil => cases h
    | cons d ds =>
      cases r with
      | nil => have := rp.n; simp at this
      | @cons v u vs us r rr =>
        have h : (if i < env.length then setAll is ds (env.set i (.fz d)) else none) = some env' := h
        split at h
        · rename_i hlt
          obtain ⟨nm, hP⟩ := hk 0 i n rfl rfl
          obtain ⟨E1, ow⟩ := E.setFz hlt rp.head
          refine assignInOrder_cons (wpAny_bindName (store_ok I hN nm.ix (.inl nm.lo) r (fun s2 I2 => ?_) (.inr nm.lo)))
          refine thn (ord_ok hN is ns us vs ds _ _ env' s2 (by simpa using hl) (fun k a b h1 h2 => hk (k + 1) a b (by simpa using h1) (by simpa using h2)) rr rp.tail h I2 E1) fun _ s' ⟨σ', g1, g2, g3, g4⟩ => ⟨σ', g1, g2, fun a z => ow a (g3 a z), fun j hj => (g4 j hj).trans ?_⟩
          rw [List.getElem?_set_ne]
          rintro rfl
          exact hP hj
        · cases h
  | [], _ :: _, _, _, _, _, _, _, _, hl, _, _, _, _, _, _ => by simp at hl
  | _ :: _, [], _, _, _, _, _, _, _, hl, _, _, _, _, _, _ => by simp at hl
def storeAll : List Nat → List V → L2.St → Option L2.St
  | [], [], σ => some σ
  | i :: is, v :: vs, σ => storeAll is vs (σ.set i (some v))
  | _, _, _ => none
theorem setArgs_no : ∀ (is : List Nat) (as : List Arg) (env env' : Env'), setArgs is as env = some env' → ∀ k, Arg.slot k ∉ as
  | [], [], _, _, _, _ => by simp
  | i :: is, .tmp sl :: as, env, env', h, k => by
    have h : (if i < env.length then setArgs is as (env.set i sl) else none) = some env' := h
    split at h
    · rw [List.mem_cons, not_or]
      exact ⟨by simp, setArgs_no is as _ _ h k⟩
    · cases h
  | [], _ :: _, _, _, h, _ => by cases h
  | _ :: _, [], _, _, h, _ => by cases h
  | _ :: _, .slot _ :: _, _, _, h, _ => by cases h
/-- names, from the left -/
theorem args_store {K : PySem.W.Frag} {F H : Hp} : ∀ (is : List Nat) (as : List Arg) (vs : List V) (σ : L2.St) (env env' : Env') (B : Addr → Prop), as.length = vs.length → setArgs is as env = some env' → EnvOk K F H env σ →
    (∀ (i : Nat) (a : Arg) (v : V), as[i]? = some a → vs[i]? = some v → ArgOk K F H env σ a v) →
    (∀ (i j : Nat) (a b : Arg) (v w : V) (x : Addr), as[i]? = some a → as[j]? = some b → vs[i]? = some v → vs[j]? = some w → ownA a v x → ownA b w x → i = j) →
    (∀ (i : Nat) (a : Arg) (v : V) (x : Addr), as[i]? = some a → vs[i]? = some v → ownA a v x → B x) → (∀ x, Ow env σ x → B x) →
    ∃ σ', storeAll is vs σ = some σ' ∧ EnvOk K F H env' σ' ∧ (∀ x, Ow env' σ' x → B x) ∧ ∀ j, j ∉ is → σ'[j]? = σ[j]?
  | [], [], [], σ, env, env', B, _, h, E, _, _, _, hb => by
    cases h
    exact ⟨σ, rfl, E, hb, fun _ _ => rfl⟩
  | i :: is, .tmp sl :: as, v :: vs, σ, env, env', B, hl, h, E, ok, inj, fr, hb => by
    have h : (if i < env.length then setArgs is as (env.set i sl) else none) = some env' := h
    split at h
    · rename_i hlt
      obtain ⟨s1, s2⟩ := ok 0 (.tmp sl) v rfl rfl
      have E1 := E.set hlt s1 s2
      have hσ : i < σ.length := by rw [← E.len]; exact hlt
      have hB : ∀ x, Ow (env.set i sl) (σ.set i (some v)) x → B x := fun x o => (Ow.set hσ o).elim (hb x) fun o => fr 0 (.tmp sl) v x rfl rfl o
      have hok : ∀ (j : Nat) (a : Arg) (w : V), as[j]? = some a → vs[j]? = some w → ArgOk K F H (env.set i sl) (σ.set i (some v)) a w := fun j a w e1 e2 => by
        have := ok (j + 1) a w (by simpa using e1) (by simpa using e2)
        cases a with
        | slot k => exact absurd (List.mem_of_getElem? e1) (setArgs_no is as _ _ h k)
        | tmp tl =>
          obtain ⟨t1, t2⟩ := this
          refine ⟨t1, fun x o z => ?_⟩
          rcases Ow.set hσ z with z | z
          · exact t2 x o z
          · have := inj 0 (j + 1) (.tmp sl) (.tmp tl) v w x rfl (by simpa using e1) rfl (by simpa using e2) z o
            omega
      have hinj : ∀ (j k : Nat) (a b : Arg) (u w : V) (x : Addr), as[j]? = some a → as[k]? = some b → vs[j]? = some u → vs[k]? = some w → ownA a u x → ownA b w x → j = k := fun j k a b u w x e1 e2 e3 e4 o1 o2 => by
        have := inj (j + 1) (k + 1) a b u w x (by simpa using e1) (by simpa using e2) (by simpa using e3) (by simpa using e4) o1 o2
        omega
      obtain ⟨σ', g1, g2, g3, g4⟩ := args_store is as vs (σ.set i (some v)) (env.set i sl) env' B (by simpa using hl) h E1 hok hinj (fun j a w x e1 e2 o => fr (j + 1) a w x (by simpa using e1) (by simpa using e2) o) hB
      refine ⟨σ', g1, g2, g3, fun j hj => ?_⟩
      rw [List.mem_cons, not_or] at hj
      rw [g4 j hj.2, List.getElem?_set_ne (Ne.symm hj.1)]
    · cases h
  | [], _ :: _, _, _, _, _, _, _, h, _, _, _, _, _ => by cases h
  | _ :: _, [], _, _, _, _, _, _, h, _, _, _, _, _ => by cases h
  | _ :: _, .slot _ :: _, _, _, _, _, _, _, h, _, _, _, _, _ => by cases h
  | _ :: _, .tmp _ :: _, [], _, _, _, _, hl, _, _, _, _, _, _ => by simp at hl
  | [], [], _ :: _, _, _, _, _, hl, _, _, _, _, _, _ => by simp at hl
/-- names as a tuple's targets -/
theorem pgs_names (hN : X.N.Nodup) : ∀ (is : List Nat) (ts : List Expr), is.length = ts.length → (∀ (k i : Nat) (t : Expr), is[k]? = some i → ts[k]? = some t → ∃ x p, t = .Name x p ∧ X.N[i]? = some x ∧ L2.Loc X.env.scope x ∧ (X.fn x = true ∨ X.env.scope.names.lookup x = some .local)) →
    PGs X ts (fun vs σ H Q => ∃ σ', storeAll is vs σ = some σ' ∧ Q σ' H) ∧ (assignEach ts X.env).findIdx? (·.1) = none
  | [], [], _, _ => by
    refine ⟨PGs.imp pgs_nil fun vs σ H Q q => ?_, rfl⟩
    obtain ⟨σ', e, q⟩ := q
    cases vs with
    | nil => cases e; exact ⟨rfl, q⟩
    | cons _ _ => cases e
  | i :: is, t :: ts, hl, hk => by
    obtain ⟨x, p, rfl, g1, g2, g3⟩ := hk 0 i t rfl rfl
    obtain ⟨h1, h2⟩ := pgs_names hN is ts (by simpa using hl) fun k j u e1 e2 => hk (k + 1) j u (by simpa using e1) (by simpa using e2)
    refine ⟨PGs.imp (pgs_cons (pg_name hN g1 g2 g3) h1 rfl) fun vs σ H Q q => ?_, ?_⟩
    · obtain ⟨σ', e, q⟩ := q
      cases vs with
      | nil => cases e
      | cons v vs => exact ⟨v, vs, rfl, σ', e, q⟩
    · show ((false, assign (.Name x p) X.env) :: assignEach ts X.env).findIdx? (·.1) = none
      rw [List.findIdx?_cons]
      simp [h2]
  | [], _ :: _, hl, _ => by simp at hl
  | _ :: _, [], hl, _ => by simp at hl
theorem ps_parO {ts es : List Expr} {k k2 : Nat} {pt pt2 : Pos} {ra : Env' → Res (List Arg × Env')} {is : List Nat} (hc : X.calm = true) (hN : X.N.Nodup) (ha : PA X es (tAx X.K exA W ra)) (hl : is.length = ts.length)
    (hk : ∀ (k i : Nat) (t : Expr), is[k]? = some i → ts[k]? = some t → ∃ x p, t = .Name x p ∧ X.N[i]? = some x ∧ L2.Loc X.env.scope x ∧ (X.fn x = true ∨ X.env.scope.names.lookup x = some .local)) (hP : ∀ i ∈ is, i ∉ P)
    (hw : swappedStores [.Tuple ts k pt] (.Tuple es k2 pt2) X.env = pure none) (hn : ts.length = es.length) (hz : es.length ≤ 1000) (hal : ∀ env p, ra env = .ok p → p.1.length = es.length) (hae : (assignEach ts X.env).length = ts.length) :
    PS X (.Assign [.Tuple ts k pt] (.Tuple es k2 pt2) pos) (tSx X.K exA W P fun env => (ra env).bind fun p => (Res.of (setArgs is p.1 p.2)).bind fun e => .ok (.nx e)) := by
  refine ⟨fun pins s σ H D I q => ?_⟩
  obtain ⟨F, env, E, q⟩ := q
  obtain ⟨hg, hf⟩ := pgs_names (X := X) hN is ts hl hk
  refine wpAny_Assign_stores ?_ rfl hw
  refine Tuple_ (thn (ha.run _ pins s σ H (fun vs H1 => vs.length = es.length ∧ ∃ σ', storeAll is vs σ = some σ' ∧ D.nx σ' H1) I ⟨F, env, E, q.bind.mono (fun p hp h => ?_) fun _ x => x⟩) fun us s1 ⟨vs, H1, I1, r1, hvl, σ', e1, fin⟩ => ?_)
  · intro vs F1 H1 E1 st A
    obtain ⟨e, e1, h⟩ := h.bind.of
    have hB : ∀ (i : Nat) (a : Arg) (v : V) (x : Addr), p.1[i]? = some a → vs[i]? = some v → ownA a v x → Ow env σ x ∨ H x = none := A.fr
    obtain ⟨σ', g1, g2, g3, g4⟩ := args_store is p.1 vs σ p.2 e (fun x => Ow env σ x ∨ H x = none) A.n e1 E1 A.ok A.inj A.fr st.own
    refine ⟨by rw [← A.n, hal env p hp], σ', g1, ?_⟩
    exact (show Kst X.K F H env σ P (.nx e) D from h).nx g2 ⟨st.fz, st.keep, st.new, g3⟩ fun j hj => g4 j fun z => hP j z hj
  · refine wpAny_newObj_type ?_ ?_
    · have I2 : Inv X pins σ H1 { s1 with heap := s1.heap.push { cls := .type "tuple", data := .seq us.toArray } } := I1.kept (t' := s1.toks) fun b o z => Heap.get?_push_of_some _ z
      have hlen : us.length = ts.length := by rw [← r1.length, hvl, hn]
      have ht : IsTup (s1.heap.push { cls := .type "tuple", data := .seq us.toArray }) s1.heap.objs.size us.toArray := IsTup.new s1.heap _
      have h1 : (assignEach [Expr.Tuple ts k pt] X.env).map (·.2) = [assign (.Tuple ts k pt) X.env] := rfl
      rw [h1]
      show wpAny _ _ (assign (.Tuple ts k pt) X.env (.ref s1.heap.objs.size)) _ _ _
      refine assign_Tuple_tuple (I.ok.hd hc) ht (by rw [hae, List.size_toArray, hlen]) hf fun h' hx => ?_
      have I3 : Inv X pins σ H1 { s1 with heap := h' } := I2.kept (t' := s1.toks) fun b o e => hx b o (Nat.ne_of_lt (Heap.lt_size e)) e
      exact thn (hg.run pins _ σ H1 vs _ D.nx I3 (by simpa using r1) ⟨σ', e1, fin⟩) fun _ s2 q => q
    · show us.length ≤ sizeLine
      rw [sizeLine_eq, ← r1.length, hvl]
      omega
theorem RpA.rev {K : PySem.W.Frag} {F : Hp} {xs : List V} {ds : List PyData} (h : RpA K F xs ds) : RpA K F xs.reverse ds.reverse := h.reverse
theorem ps_parx {ts es : List Expr} {k k2 : Nat} {pt pt2 : Pos} {ra : Env' → Res (List Arg × Env')} {is : List Nat} {ns : List Str} (hc : X.calm = true) (hN : X.N.Nodup) (ha : PA X es (tAx X.K exA W ra)) (hl : is.length = ns.reverse.length)
    (hk : ∀ (k i : Nat) (n : Str), is[k]? = some i → ns.reverse[k]? = some n → NmOk X i n ∧ i ∉ P)
    (hw : swappedStores [.Tuple ts k pt] (.Tuple es k2 pt2) X.env = pure (some ns)) (hn : ns.length = es.length) (h3 : ns.length ≤ 3) (hal : ∀ env p, ra env = .ok p → p.1.length = es.length) :
    PS X (.Assign [.Tuple ts k pt] (.Tuple es k2 pt2) pos) (tSx X.K exA W P fun env => (ra env).bind fun p => (Res.of (itemsOf p.1)).bind fun xs => (Res.of (setAll is xs.reverse p.2)).bind fun e => .ok (.nx e)) := by
  refine ⟨fun pins s σ H D I q => ?_⟩
  obtain ⟨F, env, E, q⟩ := q
  rw [exec_Assign_arm]
  refine wpAny_bind (wpAny_standAt ?_)
  show wpAny _ _ (do if ← (pure false : Sem Bool) then _ else _) _ _ _
  refine wpAny_bind (wpAny_pure ?_)
  rw [if_neg Bool.false_ne_true]
  refine wpAny_bind (Tuple_ (thn (ha.run _ pins s σ H (fun vs H1 => ∃ F1 ds e, EnvOk X.K F1 H1 e σ ∧ RpA X.K F1 vs ds ∧ vs.length = es.length ∧ ∃ e', setAll is ds.reverse e = some e' ∧ ∀ σ', EnvOk X.K F1 H1 e' σ' → (∀ a, Ow e' σ' a → Ow e σ a) → (∀ j ∈ P, σ'[j]? = σ[j]?) → D.nx σ' H1) I ⟨F, env, E, q.bind.mono (fun p hp h => ?_) fun _ x => x⟩) fun us s1 ⟨vs, H1, I1, r1, F1, ds, e, E1, rp, hvl, e', e2, fin⟩ => ?_))
  · intro vs F1 H1 E1 st A
    obtain ⟨ds, e1, h⟩ := h.bind.of
    obtain ⟨e', e2, h⟩ := h.bind.of
    exact ⟨F1, ds, p.2, E1, items_rp A e1, by rw [← A.n, hal env p hp], e', e2, fun σ' E' ow pr => (show Kst X.K F H env σ P (.nx e') D from h).nx E' (st.weak ow) pr⟩
  · have hlen : us.length = ns.length := by rw [← r1.length, hvl, hn]
    refine wpAny_newObj_type ?_ ?_
    · have I2 : Inv X pins σ H1 { s1 with heap := s1.heap.push { cls := .type "tuple", data := .seq us.toArray } } := I1.kept (t' := s1.toks) fun b o z => Heap.get?_push_of_some _ z
      rw [hw]
      refine wpAny_bind (wpAny_pure ?_)
      show wpAny _ _ (assignStores X.env (.ref s1.heap.objs.size) (some ns) _) _ _ _
      unfold assignStores
      refine wpAny_bind (wpAny_rule ?_)
      have hsz : ns.length = us.toArray.size := by rw [List.size_toArray, hlen]
      rw [hsz]
      refine wpAny_bind (unpackItems_tuple (items := us.toArray) (I.ok.hd hc) (IsTup.new s1.heap _) fun h' hx' => ?_)
      have I3 := I2.kept (h' := h') (t' := s1.toks) fun b o z => hx' b o (Nat.ne_of_lt (Heap.lt_size z)) z
      refine wpAny_bind (thn (ord_ok (P := P) hN is ns.reverse us.reverse vs.reverse ds.reverse σ e e' _ hl hk r1.reverse rp.reverse e2 I3 E1) fun _ s' ⟨σ', g1, g2, g3, g4⟩ => wpAny_pure ⟨σ', H1, g1, fin σ' g2 g3 g4⟩)
    · show us.length ≤ sizeLine
      rw [sizeLine_eq]
      omega
end
end Vl
set_option maxHeartbeats 2000000
namespace Vl
open PySem PySem.Spec PyProof.Rows L2
/-! which stores are swapped -/
def nmB (sc : Scope) (ln : Nat) (e : Expr) : Option Str := match e with
  | .Name z q => if (sc.names.lookup z == some .local) && (q.line == ln) then some z else none
  | _ => none
def lnOf (ts : List Expr) : Nat := (ts.head?.map fun e => e.pos.line).getD 0
def parN (sc : Scope) (ts vs : List Expr) : List Str := ts.filterMap (nmB sc (lnOf ts))
def parC (sc : Scope) (ts vs : List Expr) : Bool :=
  (ts.length == 2 || ts.length == 3) && (vs.length == ts.length) && decide (sc.kind = .function) && vs.all nst && ((parN sc ts vs).length == ts.length) && ((parN sc ts vs).eraseDups.length == (parN sc ts vs).length) && !(vs.all (foldedForSure 8)) && !(vs.all (constantsAlone 8))
theorem and8 {a b c d e f g h : Bool} (z : (a && b && c && d && e && f && g && h) = true) : a = true ∧ b = true ∧ c = true ∧ d = true ∧ e = true ∧ f = true ∧ g = true ∧ h = true := by
  cases a <;> cases b <;> cases c <;> cases d <;> cases e <;> cases f <;> cases g <;> cases h <;> simp at z ⊢
theorem sw_some {sc : Scope} {ts vs : List Expr} {k k2 : Nat} {p p2 : Pos} {env : Env} (hs : env.scope = sc) (h : parC sc ts vs = true) : swappedStores [.Tuple ts k p] (.Tuple vs k2 p2) env = pure (some (parN sc ts vs)) := by
  obtain ⟨h1, h2, h3, h4, h5, h6, h7, h8⟩ := and8 h
  have hk : env.blockKind = .function := by
    have e : env.scope.kind = .function := by rw [hs]; exact of_decide_eq_true h3
    unfold Env.blockKind
    rw [e]; rfl
  have hst : (vs.any fun | .Starred .. => true | _ => false) = false := by
    rw [List.any_eq_false]
    intro e he
    have := List.all_eq_true.mp h4 e he
    cases e <;> simp [nst] at this ⊢
  have hn : (ts.filterMap fun
    | .Name id pos => if env.kindOf id == some .local && pos.line == (ts.head?.map (·.pos.line)).getD 0 then some id else none
    | _ => none) = parN sc ts vs := by
    unfold parN
    congr 1
    funext e
    unfold nmB lnOf Env.kindOf
    rw [hs]
  unfold swappedStores
  simp only [hk, h1, pure_bind]
  have g2 : (vs.length != ts.length) = false := by rw [beq_iff_eq] at h2; rw [h2]; simp
  have key : ∀ ns : List Str, ns = parN sc ts vs → ¬ ((ns.length != ts.length || ns.eraseDups.length != ns.length) = true) := by
    rintro _ rfl
    rw [beq_iff_eq] at h5 h6
    simp [h5, h6]
  have n7 : vs.all (foldedForSure 8) = false := by simpa using h7
  have n8 : vs.all (constantsAlone 8) = false := by simpa using h8
  rw [g2]
  refine (if_neg (by decide)).trans ?_
  refine (if_neg fun hc => absurd (hst.symm.trans hc) Bool.false_ne_true).trans ?_
  refine (if_neg (key _ hn)).trans ?_
  refine (if_neg (by rw [n7]; exact Bool.false_ne_true)).trans ?_
  refine (if_neg (by rw [n8]; exact Bool.false_ne_true)).trans ?_
  exact congrArg (fun n => pure (some n)) hn
/-- stored from the left, out of a tuple -/
def plnC (sc : Scope) (ts vs : List Expr) : Bool := !(ts.length == 2 || ts.length == 3) || (parN sc ts vs).length != ts.length
theorem sw_plain {sc : Scope} {ts vs : List Expr} {k k2 : Nat} {p p2 : Pos} {env : Env} (hs : env.scope = sc) (h : plnC sc ts vs = true) : swappedStores [.Tuple ts k p] (.Tuple vs k2 p2) env = pure none := by
  have hn : (ts.filterMap fun
    | .Name id pos => if env.kindOf id == some .local && pos.line == (ts.head?.map (·.pos.line)).getD 0 then some id else none
    | _ => none) = parN sc ts vs := by
    unfold parN
    congr 1
    funext e
    unfold nmB lnOf Env.kindOf
    rw [hs]
  unfold swappedStores
  simp only [pure_bind]
  have skip : ∀ (c : Prop) [Decidable c] (x : Sem (Option (List Str))), x = pure none → (if c then pure none else x) = pure none := by
    intro c _ x hx
    by_cases hc : c
    · rw [if_pos hc]
    · rw [if_neg hc, hx]
  unfold plnC at h
  rw [Bool.or_eq_true] at h
  rcases h with h | h
  · exact if_pos (by rw [h]; rfl)
  · refine skip _ _ (skip _ _ (if_pos ?_))
    have key : ∀ ns : List Str, ns = parN sc ts vs → (ns.length != ts.length || ns.eraseDups.length != ns.length) = true := by
      rintro _ rfl
      rw [h]; rfl
    exact key _ hn
theorem sw_fold {ts vs : List Expr} {k k2 : Nat} {p p2 : Pos} {env : Env} (h : vs.all (foldedForSure 8) = true) : swappedStores [.Tuple ts k p] (.Tuple vs k2 p2) env = pure none := by
  unfold swappedStores
  simp only [h, pure_bind, if_true]
  have : ∀ (c : Prop) [Decidable c] (x : Sem (Option (List Str))), x = pure none → (if c then pure none else x) = pure none := by
    intro c _ x hx
    by_cases hc : c
    · rw [if_pos hc]
    · rw [if_neg hc, hx]
  exact this _ _ (this _ _ (this _ _ rfl))
theorem sw_value {t e : Expr} {env : Env} (h : (match e with | .Tuple _ _ _ => true | _ => false) = false) : swappedStores [t] e env = pure none := by
  cases e <;> first | cases h | skip
  all_goals (cases t <;> rfl)
theorem sw_target {t e : Expr} {env : Env} (h : (match t with | .Tuple _ _ _ => true | .List _ _ => true | _ => false) = false) : swappedStores [t] e env = pure none := by
  cases t <;> first | cases h | skip
  all_goals (cases e <;> rfl)
end Vl
set_option maxHeartbeats 2000000
namespace Vl
open PySem PySem.Spec PyProof.Rows L2
/-! comprehensions that are stored -/
def isComp : Expr → Bool | .ListComp _ _ _ _ => true | .SetComp _ _ _ _ => true | .DictComp _ _ _ _ _ => true | _ => false
def isNm : Expr → Bool | .Name _ _ => true | _ => false
theorem sws_plain {e : Expr} (h : isComp e = false) (t : Option Expr) (ln : Nat) (env : Env) : swapsWith e t ln env = pure false := by cases e <;> first | rfl | cases h
theorem sws_target {t : Expr} (h : isNm t = false) (e : Expr) (ln : Nat) (env : Env) : swapsWith e (some t) ln env = pure false := by
  cases t <;> first | cases h | skip
  all_goals (cases e <;> rfl)
def swB (sc : Scope) (t : Str) (ln ln2 : Nat) (own : Scope) : Bool := decide (sc.kind = .function) && (sc.names.lookup t == some .local) && (ln == ln2) && !(own.names.any fun q => q.1 == t && (q.2 == .local || q.2 == .cell))
theorem sws_lc {sc : Scope} {env : Env} (hs : env.scope = sc) (hk : sc.kind = .function) {elt : Expr} {gs : List Comprehension} {own : Scope} {pos p : Pos} {t : Str} {ln : Nat} :
    swapsWith (.ListComp elt gs own pos) (some (.Name t p)) ln env = pure (swB sc t p.line pos.line own) := by
  have hb : env.blockKind = .function := by
    unfold Env.blockKind
    rw [hs, hk]; rfl
  have e1 : (env.blockKind == ScopeKind.function) = decide (sc.kind = .function) := by rw [hb, hk]; rfl
  show pure _ = pure _
  congr 1
  show (env.blockKind == .function && env.kindOf t == some .local && p.line == (Expr.ListComp elt gs own pos).pos.line && !(own.names.any fun (n, k) => n == t && (k == .local || k == .cell))) = _
  rw [e1]
  unfold swB Env.kindOf
  rw [hs]
  rfl
/-! the text of a statement -/
def vAsg : Stmt → Option (Expr × Expr × Pos) | .Assign [t] e p => some (t, e, p) | _ => none
def vAug : Stmt → Option (Expr × Operator × Expr) | .AugAssign t o e _ => some (t, o, e) | _ => none
def vExp : Stmt → Option Expr | .Expr e _ => some e | _ => none
def vIfS : Stmt → Option (Expr × List Stmt × List Stmt) | .If c a b _ => some (c, a, b) | _ => none
def vWhl : Stmt → Option (Expr × List Stmt) | .While c a [] _ => some (c, a) | _ => none
def vFor : Stmt → Option (Expr × Expr × List Stmt) | .For t i b [] _ => some (t, i, b) | _ => none
def vRet : Stmt → Option Expr | .Return (some e) _ => some e | _ => none
def vRai : Stmt → Option Str | .Raise (some (.Call (.Name x _) [.Constant (.str _) _ _] [] _)) none _ => some x | _ => none
structure MtV where
  o : Expr
  name : Str
  ap : Pos
  es : List Expr
  cp : Pos
def vMt : Expr → Option MtV | .Call (.Attribute o n ap) es [] cp => some ⟨o, n, ap, es, cp⟩ | _ => none
theorem vAsg_some {s : Stmt} {t e p} (h : vAsg s = some (t, e, p)) : s = .Assign [t] e p := by unfold vAsg at h; split at h <;> cases h; rfl
theorem vAug_some {s : Stmt} {t o e} (h : vAug s = some (t, o, e)) : ∃ p, s = .AugAssign t o e p := by unfold vAug at h; split at h <;> cases h; exact ⟨_, rfl⟩
theorem vExp_some {s : Stmt} {e} (h : vExp s = some e) : ∃ p, s = .Expr e p := by unfold vExp at h; split at h <;> cases h; exact ⟨_, rfl⟩
theorem vIfS_some {s : Stmt} {c a b} (h : vIfS s = some (c, a, b)) : ∃ p, s = .If c a b p := by unfold vIfS at h; split at h <;> cases h; exact ⟨_, rfl⟩
theorem vWhl_some {s : Stmt} {c a} (h : vWhl s = some (c, a)) : ∃ p, s = .While c a [] p := by unfold vWhl at h; split at h <;> cases h; exact ⟨_, rfl⟩
theorem vFor_some {s : Stmt} {t i b} (h : vFor s = some (t, i, b)) : ∃ p, s = .For t i b [] p := by unfold vFor at h; split at h <;> cases h; exact ⟨_, rfl⟩
theorem vRet_some {s : Stmt} {e} (h : vRet s = some e) : ∃ p, s = .Return (some e) p := by unfold vRet at h; split at h <;> cases h; exact ⟨_, rfl⟩
theorem vRai_some {s : Stmt} {x} (h : vRai s = some x) : ∃ m j p p2 p3 p4, s = .Raise (some (.Call (.Name x p) [.Constant (.str m) j p2] [] p3)) none p4 := by unfold vRai at h; split at h <;> cases h; exact ⟨_, _, _, _, _, _, rfl⟩
theorem vMt_some {e : Expr} {v : MtV} (h : vMt e = some v) : e = .Call (.Attribute v.o v.name v.ap) v.es [] v.cp := by unfold vMt at h; split at h <;> cases h; rfl
def ckSt (T : Tab) (P : List Nat) (i : Nat) (x : Str) : Bool := decide (T.N[i]? = some x) && T.st x && decide (i ∉ P)
def isTup : Expr → Bool | .Tuple _ _ _ => true | _ => false
def isLst : Expr → Bool | .List _ _ => true | _ => false
def tLoc : Tg → Option Nat | .loc i => some i | _ => none
/-- a comprehension's own scope and row -/
def lcRow : Expr → Option (Scope × Nat) | .ListComp _ [⟨_, _, _, 0⟩] own p => some (own, p.line) | _ => none
def nmsC (T : Tab) (P : List Nat) : List Nat → List Str → Bool
  | [], [] => true
  | i :: is, n :: ns => decide (T.N[i]? = some n) && (T.sc.names.lookup n == some .local) && decide (i ∉ P) && nmsC T P is ns
  | _, _ => false
def ckPar (T : Tab) (P : List Nat) (is : List Nat) (t e : Expr) (f : List Expr → Bool) : Bool := match t, e with
  | .Tuple ts _ _, .Tuple es _ _ => parC T.sc ts es && nmsC T P is (parN T.sc ts es).reverse && f es
  | _, _ => false
def ckNs (T : Tab) (P : List Nat) : List Nat → List Expr → Bool
  | [], [] => true
  | i :: is, t :: ts => onO (vName t) (fun x => ckSt T P i x) && ckNs T P is ts
  | _, _ => false
def ckPln (T : Tab) (P : List Nat) (is : List Nat) (t e : Expr) (f : List Expr → Bool) : Bool := match t, e with
  | .Tuple ts _ _, .Tuple es _ _ => plnC T.sc ts es && ckNs T P is ts && (ts.length == es.length) && decide (es.length ≤ 1000) && f es
  | _, _ => false
/-- a method of the list in slot i -/
def vM (T : Tab) (i : Nat) (name : Str) (s : Stmt) : Option (List Expr) := (vExp s).bind fun e => (vMt e).bind fun v => if v.name = name ∧ ckLoc T i v.o = true ∧ (v.ap.endLine == v.cp.line) = true then some v.es else none
theorem vM_some {T : Tab} {i : Nat} {name : Str} {s : Stmt} {es} (h : vM T i name s = some es) : ∃ o ap cp p, s = .Expr (.Call (.Attribute o name ap) es [] cp) p ∧ ckLoc T i o = true ∧ (ap.endLine == cp.line) = true := by
  unfold vM at h
  rw [Option.bind_eq_some_iff] at h
  obtain ⟨e, h1, h⟩ := h
  rw [Option.bind_eq_some_iff] at h
  obtain ⟨v, h2, h⟩ := h
  obtain ⟨p, rfl⟩ := vExp_some h1
  have h2 := vMt_some h2
  split at h
  · rename_i hh
    cases h
    obtain ⟨rfl, g1, g2⟩ := hh
    exact ⟨v.o, v.ap, v.cp, p, by rw [h2], g1, g2⟩
  · cases h
def isRetN : Stmt → Bool | .Return none _ => true | _ => false
def isPass : Stmt → Bool | .Pass _ => true | .Expr (.Constant (.str _) _ _) _ => true | _ => false
def isBrk : Stmt → Bool | .Break _ => true | _ => false
def isCnt : Stmt → Bool | .Continue _ => true | _ => false
theorem isRetN_ok {s : Stmt} (h : isRetN s = true) : ∃ p, s = .Return none p := by 
  unfold isRetN at h
  split at h
  · exact ⟨_, rfl⟩
  · cases h
theorem isPass_ok {s : Stmt} (h : isPass s = true) : (∃ p, s = .Pass p) ∨ ∃ x j p p', s = .Expr (.Constant (.str x) j p) p' := by
  unfold isPass at h
  split at h
  · exact .inl ⟨_, rfl⟩
  · exact .inr ⟨_, _, _, _, rfl⟩
  · cases h
theorem isBrk_ok {s : Stmt} (h : isBrk s = true) : ∃ p, s = .Break p := by
  unfold isBrk at h
  split at h
  · exact ⟨_, rfl⟩
  · cases h
theorem isCnt_ok {s : Stmt} (h : isCnt s = true) : ∃ p, s = .Continue p := by
  unfold isCnt at h
  split at h
  · exact ⟨_, rfl⟩
  · cases h
/-- nothing is called -/
def quiet : CE → Bool
  | .int _ => true | .bl _ => true | .non => true | .str _ => true | .loc _ => true | .gl _ _ => true | .nil => true
  | .cons a r => quiet a && quiet r
  | .cmp _ a b => quiet a && quiet b
  | _ => false
structure TryV where
  body : List Stmt
  x : Str
  n : Str
  m : Str
  n2 : Str
def vTry : Stmt → Option TryV
  | .Try body [.ExceptHandler (some (.Name x _)) (some n) [.Assign [.Name m _] (.Name n2 _) _] _] [] [] _ => some ⟨body, x, n, m, n2⟩
  | _ => none
theorem vTry_some {s : Stmt} {v : TryV} (h : vTry s = some v) : ∃ xp mp np ap hp p, s = .Try v.body [.ExceptHandler (some (.Name v.x xp)) (some v.n) [.Assign [.Name v.m mp] (.Name v.n2 np) ap] hp] [] [] p := by
  unfold vTry at h
  split at h <;> cases h
  exact ⟨_, _, _, _, _, _, rfl⟩
/-- a try's body: one call, or a chain of ifs with calls -/
def ckT : CS → Tab → List Stmt → Bool
  | .nil, _, [] => true
  | .seq (.ex (.call k as)) .nil, T, [s] => onO (vExp s) fun e => !isComp e && quiet as && ck (.call k as) T .e e
  | .seq (.ite t a b) .nil, T, [s] => onO (vIfS s) fun q => quiet t && ck t T .t q.1 && ckT a T q.2.1 && ckT b T q.2.2
  | _, _, _ => false
mutual
def ckS : CS → Tab → List Nat → Stmt → Bool
  | .asg tg e, T, P, s => onO (vAsg s) fun q => ck e T .e q.2.1 && (match tLoc tg with
    | some i => onO (vName q.1) fun x => ckSt T P i x && (!isComp q.2.1 || onO (lcRow q.2.1) fun r => (!swB T.sc x q.1.pos.line r.2 r.1 || (T.sc.names.lookup x == some .local)) && decide (T.sc.kind = .function))
    | none => !isNm q.1 && nst q.1 && !isLst q.1 && ckG T tg q.1 && P.all (fun j => !tgHas tg j) && (!isTup q.2.1 || onO (vTup q.2.1) fun vs => vs.all (foldedForSure 8)))
  | .par is e, T, P, s => onO (vAsg s) fun q => ckPar T P is q.1 q.2.1 (ckA e T)
  | .parO is e, T, P, s => onO (vAsg s) fun q => ckPln T P is q.1 q.2.1 (ckA e T)
  | .setix i k e, T, P, s => onO (vAsg s) fun q => onO (vSub q.1) fun z => ckLoc T i z.1 && PlainX z.2 && ck k T .e z.2 && ck e T .e q.2.1
  | .aug i sub e, T, P, s => onO (vAug s) fun q => onO (vName q.1) fun x => ckSt T P i x && decide (q.2.1 = if sub then .Sub else .Add) && ck e T .e q.2.2
  | .app i e, T, P, s => onO (vM T i "append" s) fun es => onO (one? es) fun x => nst x && ck e T .e x
  | .ext i e, T, P, s => onO (vM T i "extend" s) fun es => onO (one? es) fun x => nst x && ck e T .e x
  | .ins i k e, T, P, s => onO (vM T i "insert" s) fun es => onO (two? es) fun z => nst z.1 && nst z.2 && ck k T .e z.1 && ck e T .e z.2
  | .popA i k, T, P, s => onO (vM T i "pop" s) fun es => onO (one? es) fun x => nst x && ck k T .e x
  | .pop i, T, P, s => onO (vM T i "pop" s) fun es => es.isEmpty
  | .rvs i, T, P, s => onO (vM T i "reverse" s) fun es => es.isEmpty
  | .ex e, T, P, s => onO (vExp s) fun x => !isComp x && ck e T .e x
  | .ite t a b, T, P, s => onO (vIfS s) fun q => ck t T .t q.1 && ckB a T P q.2.1 && ckB b T P q.2.2
  | .whl _ t b, T, P, s => onO (vWhl s) fun q => ck t T .t q.1 && ckB b T P q.2
  | .fr tg it b, T, P, s => onO (vFor s) fun q => ck it T .i q.2.1 && (!isSet q.2.1 && (!ndT it || isTupE q.1)) && ckG T tg q.1 && P.all (fun j => !tgHas tg j) && ckB b T P q.2.2
  | .tryc ie ic rs b, T, P, s => onO (vTry s) fun v => decide (v.x = ("RowError" : Str)) && glB T v.x && decide (T.N[ie]? = some v.n) && decide (T.N[ic]? = some v.m) && (T.sc.names.lookup v.n == some .local) && (T.sc.names.lookup v.m == some .local) &&
      decide (v.n2 = v.n) && dbg v.n && decide (ie ∉ P) && decide (ic ∉ P) && decide (ie ≠ ic) && rs.all (fun c => decide (c ∈ T.xs)) && decide (v.x ∈ T.cl) && ckT b T v.body
  | .ret e, T, P, s => onO (vRet s) fun x => ck e T .e x
  | .retM i, T, P, s => onO (vRet s) fun x => ckLoc T i x
  | .retN, T, P, s => isRetN s
  | .rai c, T, P, s => onO (vRai s) fun x => decide (x = c) && decide (x ∈ T.xs) && glB T x && dbg x
  | .pass, T, P, s => isPass s
  | .brk, T, P, s => isBrk s
  | .cnt, T, P, s => isCnt s
  | .nev, _, _, _ => true
  | _, _, _, _ => false
def ckB : CS → Tab → List Nat → List Stmt → Bool
  | .nil, _, _, [] => true
  | .seq a r, T, P, s :: ss => ckS a T P s && ckB r T P ss
  | _, _, _, _ => false
end
end Vl
set_option maxHeartbeats 2000000
namespace Vl
open PySem PySem.Spec PyProof.Rows L2
/-! try: calls; except RowError as e: caught = e -/
section
variable {X : Cx} {σ : L2.St} {H : Hp} {s : Shared}
/-- behind the clause the exception is an object that we know -/
theorem held_on {a C : Addr} {oe : Obj} {pins : List (Addr × Obj)} (ok : X.Ok) (S : Inv (X.suite a ((a, oe) :: (X.pn ++ pins))) [] σ H s) (z : Zc (.ref C) none oe) (hd : ∃ vs, oe.data = .fields vs)
    (fr : ∀ o, X.s_0.heap.get? a = some o → X.H_0 a = none → a ∈ X.ex) (np : ∀ p ∈ X.pn ++ pins, p.1 ≠ a) : Inv X pins σ (upd H a (ExcH C a)) s := by
  have J := S.unsuite ok
  obtain ⟨p1, p2, p3, p4, p5⟩ := S.pin (a, oe) (List.mem_append.mpr (.inl List.mem_cons_self))
  simp only at p1 p2 p3 p4 p5
  obtain ⟨vs, hd⟩ := hd
  refine ⟨ok, J.os, J.bare, ⟨J.base.keep, J.base.slot, fun b o e n x => ?_, J.base.there, fun b xs e => ?_, fun b o u e => ?_, fun b ps e => ?_⟩, J.loc, J.cell, ?_, fun y c e => ?_, fun p hp => ?_, ?_, J.len⟩
  · by_cases hb : b = a
    · subst hb; exact absurd (fr o e n) x
    · rw [upd_ne hb]; exact J.base.free b o e n x
  · have q := J.base.tups b xs e
    rw [upd_ne (ne_of_none q p2)]; exact q
  · have q := J.base.frzs b o u e
    rw [upd_ne (ne_of_none q p2)]; exact q
  · obtain ⟨more, q⟩ := J.base.tbls b ps e
    exact ⟨more, by rw [upd_ne (ne_of_none q p2)]; exact q⟩
  · rw [upd_ne (Ne.symm p3)]; exact J.free
  · obtain ⟨v, ob, g1, g2⟩ := J.cell y c e
    by_cases hb : c = a
    · subst hb
      rw [p1] at g1
      cases g1
      exact absurd g2 (p5 v)
    · rw [upd_ne hb]; exact J.freeC y c e
  · obtain ⟨q1, q2, q3, q4, q5⟩ := J.pin p hp
    exact ⟨q1, by rw [upd_ne (np p hp)]; exact q2, q3, q4, q5⟩
  · have hk := J.hok
    intro b o e
    by_cases hb : b = a
    · subst hb
      rw [upd_same] at e
      cases e
      exact ⟨⟨oe, vs, p1, z, hd⟩, ⟨oe, p1⟩, fun h1 h2 ⟨o2, v2, q1, q2⟩ k => ⟨o2, v2, k o2 q1, q2⟩⟩
    · rw [upd_ne hb] at e
      refine ObjOk.stay (hk b o e) (fun _ _ _ q => q) (fun c q => ?_) fun c ys q => ?_
      · rw [upd_ne (ne_of_none q p2)]; exact q
      · rw [upd_ne (ne_of_none q p2)]; exact q
/-- what the clause wishes of an exception -/
def wHold (X : Cx) (R : Addr) (ie ic : Nat) (D : Ends) : WX := fun cls d σ H => ∃ C : Addr, cls = .ref C ∧ d = none ∧ PySem.W.exmOne X.K (.ref C) (.ref R) = some true ∧
  ∀ a, H a = none → D.nx (((σ.set ie (some (.ref a))).set ic (some (.ref a))).set ie none) (upd H a (ExcH C a))
theorem ps_tryhold {R : Addr} {x n m : Str} {ie ic : Nat} {body : List Stmt} {xp np2 mp ap hp pos : Pos} {tb : WX → TS} (stk : X.stack = X.env :: X.outer) (frm : X.env.frame = some X.env.locals) (nex : X.ex = [])
    (nd : X.N.Nodup) (en : X.N[ie]? = some n) (em : X.N[ic]? = some m) (kn : X.env.scope.names.lookup n = some .local) (km : X.env.scope.names.lookup m = some .local) (ne : ie ≠ ic)
    (dn : (n == ("__debug__" : Str)) = false) (dn2 : (n == ("__classdict__" : Str)) = false) (hx : Gl X x) (hxd : (x == ("__debug__" : Str)) = false) (hR : X.mg x = some (.ref R))
    (hb : ∀ (W : WX) (pn : List (Addr × Obj)) (xe : Value → Shared → Prop), Takes (X.tr pn xe) W → PassesOwn (model X.prog X.w) X.A X.env xe → PSs (X.tr pn xe) body (tb W)) :
    PS X (.Try body [.ExceptHandler (some (.Name x xp)) (some n) [.Assign [.Name m mp] (.Name n np2) ap] hp] [] [] pos) (fun D σ H => tb (wHold X R ie ic D) D σ H) := by
  refine ⟨fun pins s σ H D I w => ?_⟩
  have ok := I.ok
  have frs_ : X.A.frames = some (X.env :: X.outer) := by rw [ok.frames, stk]
  refine wpAny_Try_except (wpAny_mono ((hb (wHold X R ie ic D) (X.pn ++ pins) (fun u t => wpAny (model X.prog X.w) X.A (noteFrame u X.env) (fun _ t2 => wpAny (model X.prog X.w) X.A (setFlight u none) (fun _ t3 =>
    wpAny (model X.prog X.w) X.A (handleBy u X.env [.ExceptHandler (some (.Name x xp)) (some n) [.Assign [.Name m mp] (.Name n np2) ap] hp]) (SP X pins D) X.xe t3) X.xe t2) X.xe t) (fun u t air => ?_) PassesOwn.looking).run [] s σ H D (I.toTry _) w) (fun f t end_ => ?_) fun _ _ z => z)
  · obtain ⟨a, B, t0, pins', τ, G, cls, d, rfl, J0, ground, upto, sky, na, eos, bare, C, rfl, rfl, hit, go⟩ := air
    have J1 : Inv X pins τ G t0 := J0.ofTry ok
    rw [show (X.tr (X.pn ++ pins) _).stack = X.env :: X.outer from stk] at sky
    show wpAny (model X.prog X.w) X.A (noteFrame (.ref a) X.env) _ _ _
    refine Sky.land Zc.steady frs_ frm sky fun h1 fly up1 => ?_
    have keepAll := fun {h2 : Heap} (fl : HandSPX.FlyingZ B (X.env :: X.outer) a (Zc (.ref C) none) h2) (up2 : t.heap.UpToSlots h2) => (J1.landed (s' := { t with heap := h2 }) ground fl.1 (upto.trans up2) eos bare)
    have notIn : ∀ {h2 : Heap}, HandSPX.FlyingZ B (X.env :: X.outer) a (Zc (.ref C) none) h2 → a ∉ frs (X.env :: X.outer) := fun {h2} fl mem => by
      obtain ⟨oe, vs, e1, _, e2⟩ := fl.there
      obtain ⟨_, o2, e3, e4⟩ := fl.2.2.1.mem mem
      rw [e1] at e3
      have e5 := Option.some.inj e3
      subst e5
      exact e4 _ e2
    have nFr := notIn fly
    have nLoc : a ≠ X.env.locals := fun z => nFr (List.mem_filterMap.mpr ⟨X.env, List.mem_cons_self, by rw [frm, z]⟩)
    have nFs : a ∉ X.fs := fun mem => by
      obtain ⟨e, m1, m2⟩ := List.mem_filterMap.mp mem
      exact nFr (List.mem_filterMap.mpr ⟨e, List.mem_cons_of_mem _ m1, m2⟩)
    have new : ∀ o, X.s_0.heap.get? a = some o → X.H_0 a = none → a ∈ X.ex := fun o e1 e2 => by
      have e3 := J1.base.keep a o e1 e2 nFs (by rw [nex]; exact List.not_mem_nil)
      have e4 := ground a o e3 (by rw [show (X.tr (X.pn ++ pins) _).stack = X.env :: X.outer from stk]; exact nFr)
      rw [fly.2.1] at e4
      cases e4
    have apart : ∀ p ∈ X.pn ++ pins, p.1 ≠ a := fun p mem z => by
      obtain ⟨q1, _, q3, q4, _⟩ := J1.pin p mem
      have e4 := ground p.1 p.2 q1 (by rw [show (X.tr (X.pn ++ pins) _).stack = X.env :: X.outer from stk, z]; exact nFr)
      rw [z, fly.2.1] at e4
      cases e4
    obtain ⟨o1, vs1, at1, zc1, dat1⟩ := fly.there
    have K1 := keepAll fly up1
    have S1 := K1.suite at1 dat1 na nLoc nFs
    refine wpAny_handleBy_cons (codeAny_handlers_test ?_) fun z => nomatch z
    have kind : PySem.W.Looks (model X.prog X.w) h1 (typeOf (.ref a)) (.ref C) := fun A Q E t q1 q2 => wpAny_typeOf_ref (q1 _ _ at1) (by rw [zc1.1]; exact q2)
    have fits := PySem.W.exm_one (M := model X.prog X.w) K1.kIn kind hit
    refine ld_glob (X := X.suite a ((a, o1) :: (X.pn ++ pins))) S1 hx hR (fits.here ?_) hxd
    refine codeAny_handlers_suite_as (HandSPX.lands_againZ fly fun h2 fly2 up2 => ?_)
    obtain ⟨o2, vs2, at2, zc2, dat2⟩ := fly2.there
    have K2 := keepAll fly2 (up1.trans up2)
    have S2 := K2.suite at2 dat2 na nLoc nFs
    refine store_ok (X := X.suite a ((a, o2) :: (X.pn ++ pins))) (v := .ref a) S2 nd en (.inl kn) rfl (fun t5 S5 => ?_) (.inr kn)
    have nb : swapsWith (.Name n np2) (some (.Name m mp)) ap.line (X.suite a ((a, o2) :: (X.pn ++ pins))).env = pure false := rfl
    have suite := pss_one (ps_set (X := X.suite a ((a, o2) :: (X.pn ++ pins))) (i := ic) (pos := ap) (pos' := mp) nd em (.inl km) (pe_var (X := X.suite a ((a, o2) :: (X.pn ++ pins))) (pos := np2) en (.inl kn) dn dn2) nb (.inr km))
    have hlt : ie < (τ.set ie (some (.ref a))).length := by
      have h1 : X.N.length = (τ.set ie (some (V.ref a))).length := S5.len.symm
      rw [← h1]
      exact (List.getElem?_eq_some_iff.mp en).1
    have lk : (τ.set ie (some (.ref a)))[ie]? = some (some (V.ref a)) := List.getElem?_set_self (by simpa using hlt)
    refine wpAny_mono (suite.run [] t5 _ G { nx := fun σ6 H6 => σ6 = (τ.set ie (some (.ref a))).set ic (some (.ref a)) ∧ H6 = G, rt := fun _ _ => False, bk := fun _ _ => False, ct := fun _ _ => False } S5 ⟨_, lk, rfl, rfl⟩) (fun f t6 res => ?_) fun _ _ z => False.elim z
    cases f with
    | next =>
      obtain ⟨σ6, H6, S6, rfl, rfl⟩ := res
      exact gone_ok (held_on ok S6 zc2 ⟨_, dat2⟩ new apart) nd en kn fun t7 J7 => ⟨_, _, J7, go a na⟩
    | brk => obtain ⟨_, _, _, z⟩ := res; exact z.elim
    | cont => obtain ⟨_, _, _, z⟩ := res; exact z.elim
    | ret u => obtain ⟨_, _, _, _, _, z⟩ := res; exact z.elim
  · cases f with
    | next => obtain ⟨σ2, H2, J2, q⟩ := end_; exact wpAny_execs_nil ⟨σ2, H2, J2.ofTry ok, q⟩
    | brk => obtain ⟨σ2, H2, J2, q⟩ := end_; exact ⟨σ2, H2, J2.ofTry ok, q⟩
    | cont => obtain ⟨σ2, H2, J2, q⟩ := end_; exact ⟨σ2, H2, J2.ofTry ok, q⟩
    | ret u => obtain ⟨v, σ2, H2, J2, r, q⟩ := end_; exact ⟨v, σ2, H2, J2.ofTry ok, r, q⟩
end
end Vl
set_option maxHeartbeats 2000000
namespace Vl
open PySem PySem.Spec PyProof.Rows L2
/-! calls whose exceptions are caught: the slots are known where one leaves -/
def XkT (exA : Str → Option Addr) (W : WX) (σ : L2.St) (F H : Hp) (O : Addr → Prop) (c : Str) : Prop :=
  ∃ C, exA c = some C ∧ ∀ F' H', Sub F F' → Sub F' H' → (∀ a o, H a = some o → ¬ O a → H' a = some o) → W (.ref C) none σ H'
theorem XkT.after {exA : Str → Option Addr} {W : WX} {σ : L2.St} {F H F1 H1 : Hp} {O O1 : Addr → Prop} {c : Str} (x : XkT exA W σ F H O c) (s : Step F H O F1 H1 O1) : XkT exA W σ F1 H1 O1 c := by
  obtain ⟨C, e, x⟩ := x
  refine ⟨C, e, fun F' H' h1 h2 h3 => x F' H' (fun a o h => h1 _ _ (s.fz _ _ h)) h2 fun a o h n => h3 a o (s.keep a o h n) ?_⟩
  exact s.notOw n (by rw [h]; simp)
def tExT (K : PySem.W.Frag) (exA : Str → Option Addr) (W : WX) (r : Env' → Res (Sl × Env')) : TE := fun σ H Q => ∃ F env, EnvOk K F H env σ ∧ OnR (r env) (fun p => Kt K F H env σ p.2 p.1 Q) (XkT exA W σ F H (Ow env σ))
def tSxT (K : PySem.W.Frag) (exA : Str → Option Addr) (W : WX) (P : List Nat) (r : Env' → Res Fl) : TS := fun D σ H => ∃ F env, EnvOk K F H env σ ∧ OnR (r env) (fun f => Kst K F H env σ P f D) (XkT exA W σ F H (Ow env σ))
theorem OnR.quiet {α : Type} {r : Res α} {p : α → Prop} {x y : Str → Prop} (h : OnR r p x) (n : ∀ c, r ≠ .exc c) : OnR r p y := by
  cases r with
  | ok a => exact h
  | exc c => exact absurd rfl (n c)
  | no => exact h.elim
section
variable {X : Cx} {exA : Str → Option Addr} {W : WX} {pos p : Pos} {x : Str}
/-- f(..) -/
theorem pe_callT {es : List Expr} {L : Nat} {f : Addr} {fd : FuncData} {ps : List Str} {k : Nat} {as : CE} {Φ : Nat → Fn} (G : FnG X.prog X.w X.K X.mg X.base exA L f fd ps (Φ k)) (hr : Room L X.A) (hgu : X.A.guards = some []) (tk : Takes X W)
    (hg : Gl X x) (hm : X.mg x = some (.ref f)) (hk : PySem.W.keepIn X.K (.ref f) = true) (hb : Binds X.K fd ps []) (hn : es.length = ps.length) (ha : PA X es (tAx X.K exA W (dA Φ as))) (hno : ∀ env x, dA Φ as env ≠ .exc x) (hal : ∀ env p, dA Φ as env = .ok p → p.1.length = es.length)
    (h0 : es = [] → as = .nil) (hdb : (x == ("__debug__" : Str)) = false) (hst : ∀ e ∈ es, ∀ r, starEach (e :: r) X.env = (false, eval e X.env) :: starEach r X.env) : PE X (.Call (.Name x p) es [] pos) (tExT X.K exA W (dE Φ (.call k as))) := by
  refine ⟨fun pins s σ H Q I h => ?_⟩
  refine wpAny_Call_Name_kw (ld_glob I hg hm ?_ hdb)
  obtain ⟨F, env, E, q⟩ := h
  have q : OnR ((dA Φ as env).bind fun p => (Res.of (callOf p.1 p.2)).bind fun sls => ((Φ k).run sls).bind fun r => .ok (r.1, putBack p.1 r.2 p.2)) (fun p => Kt X.K F H env σ p.2 p.1 Q) (XkT exA W σ F H (Ow env σ)) := by
    have := q
    unfold dE at this
    exact this
  -- behind the arguments
  have core : ∀ (pp : List Arg × Env') (us : List Value) (vs : List V) (F1 H1 : Hp) (s1 : Shared), dA Φ as env = .ok pp → EnvOk X.K F1 H1 pp.2 σ → Step F H (Ow env σ) F1 H1 (Ow pp.2 σ) → ArgsOk X.K F1 H1 pp.2 σ H (Ow env σ) pp.1 vs → Inv X pins σ H1 s1 → Vals vs us →
      OnR ((Res.of (callOf pp.1 pp.2)).bind fun sls => ((Φ k).run sls).bind fun r => .ok (r.1, putBack pp.1 r.2 pp.2)) (fun p => Kt X.K F H env σ p.2 p.1 Q) (XkT exA W σ F H (Ow env σ)) →
      wpAny (model X.prog X.w) X.A (call (.ref f) us) (EP X pins σ Q) X.xe s1 := fun pp us vs F1 H1 s1 e0 E1 st A I1 r h => by
    obtain ⟨sls, e1, h⟩ := h.bind.of
    have h2 := h.bind
    have hl : vs.length = ps.length := by rw [← A.n, hal env pp e0, hn]
    refine run_fnG G hr hgu hb (passAt tk σ) I1 r hl ⟨F1, sls, call_env E1 A e1, h2.mono (fun p3 _ h3 => ?_) fun c h3 => ?_⟩
    · intro v F2 H2 E2 t m
      obtain ⟨b1, b2, b3⟩ := call_back E1 st A e1 E2 t m
      exact h3 v F2 H2 b1 b2 b3
    · obtain ⟨C, e2, h3⟩ := h3
      refine ⟨C, e2, fun _ F2 H2 g1 g2 g3 => h3 F2 H2 (fun a o z => g1 _ _ (st.fz _ _ z)) g2 fun a o z n => g3 a o (st.keep a o z n) fun y => ?_⟩
      rcases args_ow A e1 y with y | y
      · exact st.notOw n (by rw [z]; simp) y
      · rcases y with y | y
        · exact n y
        · rw [z] at y; cases y
  cases es with
  | nil =>
    have e1 := h0 rfl
    subst e1
    refine PySem.W.callWith_K0 I.kIn hk ?_
    exact core ([], env) [] [] F H s rfl E (Step.refl _ _ _) .nil I .nil q.bind
  | cons e r =>
    have hpl : (backTo pos (starEach r X.env)).any (·.1) = false := by
      clear ha hal hn
      have all : ∀ (l : List Expr), (∀ e ∈ l, ∀ r, starEach (e :: r) X.env = (false, eval e X.env) :: starEach r X.env) → (backTo pos (starEach l X.env)).any (·.1) = false := by
        intro l
        induction l with
        | nil => intro _; rfl
        | cons a l ih =>
          intro hh
          rw [hh a List.mem_cons_self l]
          show (false || (backTo pos (starEach l X.env)).any (·.1)) = false
          rw [ih fun e he => hh e (List.mem_cons_of_mem _ he)]; rfl
      exact all r fun e he => hst e (List.mem_cons_of_mem _ he)
    refine PySem.W.callWith_K (h₀ := X.base) I.ok.mod.kin hk (thn (ha.run pos pins s σ H (fun vs H1 => ∃ pp F1, dA Φ as env = .ok pp ∧ EnvOk X.K F1 H1 pp.2 σ ∧ Step F H (Ow env σ) F1 H1 (Ow pp.2 σ) ∧ ArgsOk X.K F1 H1 pp.2 σ H (Ow env σ) pp.1 vs ∧
      OnR ((Res.of (callOf pp.1 pp.2)).bind fun sls => ((Φ k).run sls).bind fun r => .ok (r.1, putBack pp.1 r.2 pp.2)) (fun p => Kt X.K F H env σ p.2 p.1 Q) (XkT exA W σ F H (Ow env σ))) I
        ⟨F, env, E, (OnR.quiet q.bind (hno env)).mono (fun p2 e0 h2 => fun vs F1 H1 E1 st A => ⟨p2, F1, e0, E1, st, A, h2⟩) fun _ x => x⟩) fun us s1 ⟨vs, H1, I1, r1, pp, F1, e0, E1, st, A, h⟩ => ⟨I1.kIn, core pp us vs F1 H1 s1 e0 E1 st A I1 r1 h⟩) (hst e List.mem_cons_self r) hpl
end
theorem un2_quiet {a b : CE} {ra rb : Env' → Res (Sl × Env')} {f : PyData → PyData → Option Sl} (ha : ∀ env c, ra env ≠ .exc c) (hb : ∀ env c, rb env ≠ .exc c) (env : Env') (c : Str) : un2 a ra b rb f env ≠ .exc c := by
  have op : ∀ {e : CE} {r : Env' → Res (Sl × Env')}, (∀ env c, r env ≠ .exc c) → ∀ env c, opnd e r env ≠ .exc c := fun {e r} hr env c h => by
    unfold opnd at h
    have k : ∀ {z : Res (Arg × Env')}, z = (r env).bind (fun p => .ok (.tmp p.1, p.2)) → z ≠ .exc c := fun {z} e1 e2 => by
      rw [e1] at e2
      cases q : r env with
      | ok p => rw [q] at e2; cases e2
      | exc d => exact hr env d q
      | no => rw [q] at e2; cases e2
    split at h
    · split at h
      · cases h
      · exact k rfl h
    · exact k rfl h
  intro h
  unfold un2 at h
  cases q1 : opnd a ra env with
  | exc d => exact op ha env d q1
  | no => rw [q1] at h; cases h
  | ok p =>
    rw [q1] at h
    replace h : ((opnd b rb p.2).bind fun q => (Res.of (p.1.view q.2)).bind fun d => (Res.of (q.1.view q.2)).bind fun d' => (Res.of (f d d')).bind fun s => .ok (s, q.2)) = .exc c := h
    cases q2 : opnd b rb p.2 with
    | exc d => exact op hb p.2 d q2
    | no => rw [q2] at h; cases h
    | ok q =>
      rw [q2] at h
      replace h : ((Res.of (p.1.view q.2)).bind fun d => (Res.of (q.1.view q.2)).bind fun d' => (Res.of (f d d')).bind fun s => .ok (s, q.2)) = .exc c := h
      cases q3 : p.1.view q.2 with
      | none => rw [q3] at h; cases h
      | some d =>
        rw [q3] at h
        replace h : ((Res.of (q.1.view q.2)).bind fun d' => (Res.of (f d d')).bind fun s => .ok (s, q.2)) = .exc c := h
        cases q4 : q.1.view q.2 with
        | none => rw [q4] at h; cases h
        | some d' =>
          rw [q4] at h
          replace h : ((Res.of (f d d')).bind fun s => .ok (s, q.2)) = .exc c := h
          cases q5 : f d d' with
          | none => rw [q5] at h; cases h
          | some z => rw [q5] at h; cases h
theorem quiet_ok (Φ : Nat → Fn) : ∀ c : CE, quiet c = true → (∀ env x, dE Φ c env ≠ .exc x) ∧ ∀ env x, dA Φ c env ≠ .exc x := by
  intro c
  induction c with
  | int i => exact fun _ => ⟨fun _ _ h => (nomatch h), fun _ _ h => (nomatch h)⟩
  | bl i => exact fun _ => ⟨fun _ _ h => (nomatch h), fun _ _ h => (nomatch h)⟩
  | non => exact fun _ => ⟨fun _ _ h => (nomatch h), fun _ _ h => (nomatch h)⟩
  | str i => exact fun _ => ⟨fun _ _ h => (nomatch h), fun _ _ h => (nomatch h)⟩
  | nil => exact fun _ => ⟨fun _ _ h => (nomatch h), fun _ _ h => (nomatch h)⟩
  | gl y d => exact fun _ => ⟨fun _ _ h => (by cases d <;> cases h), fun _ _ h => (nomatch h)⟩
  | loc i =>
    intro _
    refine ⟨fun env _ h => ?_, fun _ _ h => (nomatch h)⟩
    replace h : (match env[i]? with
      | some (.fz d) => Res.ok (Sl.fz d, env)
      | some (.ol ds) => .ok (.fz (.list ds), env.set i (.fz (.list ds)))
      | _ => .no) = .exc _ := h
    split at h <;> cases h
  | cmp o a b A B =>
    intro h
    obtain ⟨h1, h2⟩ := and2 h
    exact ⟨un2_quiet (A h1).1 (B h2).1, fun _ _ h => (nomatch h)⟩
  | cons a r A R =>
    intro h
    obtain ⟨h1, h2⟩ := and2 h
    refine ⟨fun _ _ h => (nomatch h), fun env x h => ?_⟩
    replace h : ((dE Φ a env).bind fun p => (Res.of p.1.item).bind fun d => (dA Φ r p.2).bind fun q => .ok (.tmp (.fz d) :: q.1, q.2)) = .exc x := h
    cases q1 : dE Φ a env with
    | exc d => exact (A h1).1 env d q1
    | no => rw [q1] at h; cases h
    | ok p =>
      rw [q1] at h
      replace h : ((Res.of p.1.item).bind fun d => (dA Φ r p.2).bind fun q => .ok (.tmp (.fz d) :: q.1, q.2)) = .exc x := h
      cases q2 : p.1.item with
      | none => rw [q2] at h; cases h
      | some d =>
        rw [q2] at h
        replace h : ((dA Φ r p.2).bind fun q => .ok (.tmp (.fz d) :: q.1, q.2)) = .exc x := h
        cases q3 : dA Φ r p.2 with
        | exc e => exact (R h2).2 p.2 e q3
        | no => rw [q3] at h; cases h
        | ok q => rw [q3] at h; cases h
  | _ => intro h; cases h
section
variable {X : Cx} {T : Tab} {Φ : Nat → Fn} {exA : Str → Option Addr} {L : Nat} {W : WX} {P : List Nat}
theorem bn {b : Bool} (h : (!b) = true) : b = false := by cases b <;> first | rfl | cases h
theorem tb_sound (C : Cok X T Φ exA L W) : ∀ (b : CS) (ss : List Stmt), ckT b T ss = true → PSs X ss (tSxT X.K exA W P (dS Φ b)) := by
  intro b ss
  fun_induction ckT b T ss with
  | case1 =>
    intro _
    refine PSs.imp pss_nil fun D σ H q => ?_
    obtain ⟨F, env, E, q⟩ := q
    exact Kst.nx (show Kst X.K F H env σ P (.nx env) D from q) E (Step.refl _ _ _) fun _ _ => rfl
  | case2 k as T s =>
    intro h
    obtain ⟨e, hv, h⟩ := onO_ok h
    obtain ⟨h1, h2, h3⟩ := and3 h
    obtain ⟨p, rfl⟩ := vExp_some hv
    obtain ⟨⟨x, es⟩, hv, h⟩ := onO_ok (show onO (vCall e) _ = true from h3)
    obtain ⟨g1, g2, g3, g4⟩ := and4 h
    simp only at g1 g2 g3 g4
    obtain ⟨q, q', rfl⟩ := vCall_some hv
    obtain ⟨g1, hne⟩ := of_decide_eq_true g1
    obtain ⟨f, fd, ps, k1, k2, k34, G⟩ := C.wl.fn k (x, es.length) g1
    obtain ⟨k3, k4⟩ := k34.get hne
    have A := sound Φ exA L as
    have R := pe_callT G C.rm C.gu C.tk (glB_ok C g2) k1 k2 k3 k4.symm (A.a X T W C es g4) (quiet_ok Φ as h2).2 (fun env p hp => A.n T es g4 env p hp) (fun e0 => by subst e0; cases as <;> first | rfl | cases g4) (dbg_ok g3).1 (fun e he r => nst_star (ckA_nst g4 e he) r _) (pos := q') (p := q)
    refine PSs.imp (pss_one (ps_expr R (sws_plain (bn h1) _ _ _))) fun D σ H q => ?_
    obtain ⟨F, env, E, q⟩ := q
    have q : OnR (((dE Φ (.call k as) env).bind fun p => Res.ok (Fl.nx p.2)).bind fun f => (match f with | Fl.nx e => Res.ok (Fl.nx e) | f => Res.ok f)) (fun f => Kst X.K F H env σ P f D) (XkT exA W σ F H (Ow env σ)) := q
    refine ⟨F, env, E, q.bind.bind.mono (fun p _ h => ?_) fun _ x => x⟩
    exact fun v F' H' E' s t => (show Kst X.K F H env σ P (.nx p.2) D from h).nx E' s fun _ _ => rfl
  | case3 t a b T s iha ihb =>
    intro h
    obtain ⟨⟨x, y, z⟩, hv, h⟩ := onO_ok h
    obtain ⟨h1, h2, h3, h4⟩ := and4 h
    simp only at h1 h2 h3 h4
    obtain ⟨p, rfl⟩ := vIfS_some hv
    refine PSs.imp (pss_one (ps_if ((sound Φ exA L t).t X T W C x h2).1 (iha (x, y, z) C h3) (ihb (x, y, z) C h4))) fun D σ H q => ?_
    obtain ⟨F, env, E, q⟩ := q
    have q : OnR (((dE Φ t env).bind fun p => (Res.of (blD p.1)).bind fun c => if c then dS Φ a p.2 else dS Φ b p.2).bind fun f => (match f with | Fl.nx e => Res.ok (Fl.nx e) | f => Res.ok f)) (fun f => Kst X.K F H env σ P f D) (XkT exA W σ F H (Ow env σ)) := q
    have same : ∀ r : Res Fl, (r.bind fun f => (match f with | .nx e => Res.ok (Fl.nx e) | f => .ok f)) = r := fun r => by
      cases r with
      | ok f => cases f <;> rfl
      | exc c => rfl
      | no => rfl
    rw [same] at q
    refine ⟨F, env, E, (OnR.quiet q.bind ((quiet_ok Φ t h1).1 env)).mono (fun p _ h => ?_) fun _ x => x⟩
    obtain ⟨k, e1, h3⟩ := h.bind.of
    refine ⟨k, e1, fun F1 H1 E1 s1 => ?_⟩
    cases k with
    | true =>
      rw [if_pos rfl] at h3 ⊢
      exact ⟨F1, p.2, E1, h3.mono (fun f _ k => k.after s1 fun _ _ => rfl) fun _ x => x.after s1⟩
    | false =>
      rw [if_neg (by simp)] at h3 ⊢
      exact ⟨F1, p.2, E1, h3.mono (fun f _ k => k.after s1 fun _ _ => rfl) fun _ x => x.after s1⟩
  | case4 => intro h; cases h
/-- the frame of a def -/
structure Frm (X : Cx) : Prop where
  po : PassesOwn (model X.prog X.w) X.A X.env X.xe
  stk : X.stack = X.env :: X.outer
  frm : X.env.frame = some X.env.locals
  nex : X.ex = []
theorem forget_get {env : Env'} {i : Nat} {sl : Sl} (h : (forget env)[i]? = some sl) : sl = .un ∨ ∃ d, sl = .fz d ∧ env[i]? = some (.fz d) := by
  unfold forget at h
  rw [List.getElem?_map] at h
  cases q : env[i]? with
  | none => rw [q] at h; cases h
  | some z =>
    rw [q] at h
    cases z with
    | un => cases h; exact .inl rfl
    | fz d => cases h; exact .inr ⟨d, rfl, rfl⟩
    | ol ds => cases h; exact .inl rfl
theorem forget_len (env : Env') : (forget env).length = env.length := by unfold forget; rw [List.length_map]
/-- slots that own nothing -/
theorem env_ofFz {K : PySem.W.Frag} {F H : Hp} {env : Env'} {σ : L2.St} (S : Sub F H) (n : env.length = σ.length) (ok : ∀ (i : Nat) (sl : Sl), env[i]? = some sl → sl = Sl.un ∨ ∃ (d : PyData) (v : V), sl = Sl.fz d ∧ σ[i]? = some (some v) ∧ Rp K F v d) : EnvOk K F H env σ ∧ ∀ a, ¬ Ow env σ a := by
  have no : ∀ {i : Nat} {sl : Sl} {v : V} {a : Addr}, env[i]? = some sl → own sl v a → False := fun {i sl v a} h o => by
    rcases ok i sl h with rfl | ⟨d, _, rfl, _⟩ <;> exact o.elim
  refine ⟨⟨S, n, fun i sl h ne => ?_, fun i j sl tl v w a h1 _ _ _ o _ => (no h1 o).elim⟩, fun a ⟨i, sl, v, h1, _, o⟩ => no h1 o⟩
  rcases ok i sl h with rfl | ⟨d, v, rfl, h2, h3⟩
  · exact absurd rfl ne
  · exact ⟨v, h2, h3⟩
theorem sndS_try {ie ic : Nat} {rs : List Str} {b : CS} {st : Stmt} (C : Cok X T Φ exA L W) (fr : Frm X) (h : ckS (.tryc ie ic rs b) T P st = true) : PS X st (tSx X.K exA W P (dS Φ (.tryc ie ic rs b))) := by
  obtain ⟨v, hv, h⟩ := onO_ok (show onO (vTry st) _ = true from h)
  simp only [Bool.and_eq_true] at h
  obtain ⟨⟨⟨⟨⟨⟨⟨⟨⟨⟨⟨⟨⟨h1, h2⟩, h3⟩, h4⟩, h5⟩, h6⟩, h7⟩, h8⟩, h9⟩, h10⟩, h11⟩, h12⟩, h14⟩, h13⟩ := h
  obtain ⟨xp, mp, np, ap, hp, p, rfl⟩ := vTry_some hv
  replace h1 := of_decide_eq_true h1
  replace h7 := of_decide_eq_true h7
  replace h9 := of_decide_eq_true h9
  replace h10 := of_decide_eq_true h10
  replace h11 := of_decide_eq_true h11
  obtain ⟨d1, d2, _⟩ := dbg_ok h8
  obtain ⟨vb, vx, vn, vm, vn2⟩ := v
  simp only at h1 h2 h3 h4 h5 h6 h7 h8 h13 h14 d1 d2 ⊢
  subst h1 h7
  obtain ⟨R, hR⟩ := C.wl.cl _ (of_decide_eq_true h14)
  refine PS.imp (ps_tryhold (R := R) (tb := fun W => tSxT X.K exA W P (dS Φ b)) fr.stk fr.frm fr.nex (by rw [C.n]; exact C.nd) (by rw [C.n]; exact of_decide_eq_true h3) (by rw [C.n]; exact of_decide_eq_true h4) (by rw [C.s]; exact beq_iff_eq.mp h5) (by rw [C.s]; exact beq_iff_eq.mp h6) h11 d1 d2 (glB_ok C h2) rfl hR fun W pn xe tk po => ?_) fun D σ H q => ?_
  · exact tb_sound (X := X.tr pn xe) ⟨⟨C.wl.bl, C.wl.gs, C.wl.fn, C.wl.ex, C.wl.xc, C.wl.cl, C.wl.sq⟩, C.n, C.s, C.nd, C.calm, C.gu, C.rm, tk, C.st⟩ b vb h13
  · obtain ⟨F, env, E, q⟩ := q
    have q : OnR (tryR ie ic rs (dS Φ b) env) (fun f => Kst X.K F H env σ P f D) (Xk exA W F H (Ow env σ)) := q
    refine ⟨F, env, E, ?_⟩
    unfold tryR at q
    cases hr : dS Φ b env with
    | ok f => rw [hr] at q; exact q
    | no => rw [hr] at q; exact q.elim
    | exc c =>
      rw [hr] at q
      simp only at q
      split at q <;> first | exact q.elim | skip
      rename_i hc
      obtain ⟨hc, le, lc, _⟩ := hc
      have k : Kst X.K F H env σ P (.nx (((forget env).set ie .un).set ic (.fz (.dict [(.str c, .none)])))) D := q
      obtain ⟨Cc, _, _, _, _, e1, _⟩ := C.wl.ex c (of_decide_eq_true (List.all_eq_true.mp h12 c hc))
      have z := C.wl.xc c Cc e1
      obtain ⟨R', hR', hit⟩ := z.row
      rw [hR] at hR'
      cases hR'
      refine ⟨Cc, e1, fun F' H' g1 g2 g3 => ⟨Cc, rfl, rfl, hit, fun a na => ?_⟩⟩
      have le' : ie < σ.length := by rw [← E.len]; exact le
      have lc' : ic < σ.length := by rw [← E.len]; exact lc
      have Fa : F a = none := by
        cases q : F a with
        | none => rfl
        | some o => have := g2 _ _ (g1 _ _ q); rw [na] at this; cases this
      have sF : Sub F (upd F a (ExcH Cc a)) := fun b o hb => by rw [upd_ne (ne_of_none hb Fa)]; exact hb
      obtain ⟨E2, nO⟩ := env_ofFz (K := X.K) (F := upd F a (ExcH Cc a)) (H := upd H' a (ExcH Cc a)) (env := ((forget env).set ie .un).set ic (.fz (.dict [(.str c, .none)]))) (σ := ((σ.set ie (some (.ref a))).set ic (some (.ref a))).set ie none)
        (fun b o hb => by
          by_cases e : b = a
          · subst e; rw [upd_same] at hb ⊢; exact hb
          · rw [upd_ne e] at hb ⊢; exact g2 _ _ (g1 _ _ hb))
        (by simp only [List.length_set]; rw [forget_len]; exact E.len)
        (fun i sl hi => by
          by_cases i1 : ic = i
          · subst i1
            rw [List.getElem?_set_self (by simp only [List.length_set]; rw [forget_len]; exact lc)] at hi
            cases hi
            refine .inr ⟨_, .ref a, rfl, ?_, .exc upd_same z.ns⟩
            rw [List.getElem?_set_ne h11, List.getElem?_set_self (by simpa using lc')]
          · rw [List.getElem?_set_ne i1] at hi
            by_cases i2 : ie = i
            · subst i2
              rw [List.getElem?_set_self (by rw [forget_len]; exact le)] at hi
              cases hi
              exact .inl rfl
            · rw [List.getElem?_set_ne i2] at hi
              rcases forget_get hi with rfl | ⟨d, rfl, hd⟩
              · exact .inl rfl
              · obtain ⟨v, s1, s2⟩ := E.ok i _ hd (by simp)
                refine .inr ⟨d, v, rfl, ?_, Rp.sub sF s2⟩
                rw [List.getElem?_set_ne i2, List.getElem?_set_ne i1, List.getElem?_set_ne i2]
                exact s1)
      refine k.nx E2 ⟨sF, fun b o hb nb => ?_, fun b hb => ?_, fun b hb => (nO b hb).elim⟩ fun j hj => ?_
      · have g4 := g3 b o hb nb
        rw [upd_ne (ne_of_none g4 na)]
        exact g4
      · by_cases e : b = a
        · subst e
          by_cases ob : Ow env σ b
          · exact .inr (.inr ob)
          · cases q : H b with
            | none => exact .inr (.inl rfl)
            | some o => have := g3 b o q ob; rw [na] at this; cases this
        · rw [upd_ne e] at hb; exact .inl hb
      · have j1 : ie ≠ j := by rintro rfl; exact h9 hj
        have j2 : ic ≠ j := by rintro rfl; exact h10 hj
        rw [List.getElem?_set_ne j1, List.getElem?_set_ne j2, List.getElem?_set_ne j1]
end
end Vl
set_option maxHeartbeats 4000000
namespace Vl
open PySem PySem.Spec PyProof.Rows L2
section
variable {Φ : Nat → Fn} {exA : Str → Option Addr} {L : Nat}
structure SndS (Φ : Nat → Fn) (exA : Str → Option Addr) (L : Nat) (c : CS) : Prop where
  s : ∀ (X : Cx) (T : Tab) (W : WX) (P : List Nat), Cok X T Φ exA L W → Frm X → ∀ st : Stmt, ckS c T P st = true → PS X st (tSx X.K exA W P (dS Φ c))
  b : ∀ (X : Cx) (T : Tab) (W : WX) (P : List Nat), Cok X T Φ exA L W → Frm X → ∀ ss : List Stmt, ckB c T P ss = true → PSs X ss (tSx X.K exA W P (dS Φ c))
theorem SndS.st {c : CS} (h : ∀ (X : Cx) (T : Tab) (W : WX) (P : List Nat), Cok X T Φ exA L W → Frm X → ∀ st : Stmt, ckS c T P st = true → PS X st (tSx X.K exA W P (dS Φ c))) (hb : ∀ T P ss, ckB c T P ss = false) : SndS Φ exA L c :=
  ⟨h, fun X T W P C po ss e => by rw [hb] at e; cases e⟩
variable {X : Cx} {T : Tab} {W : WX} {P : List Nat} {a b : CS} {e k t : CE}
theorem tLoc_some {tg : Tg} {i : Nat} (h : tLoc tg = some i) : tg = .loc i := by cases tg <;> cases h; rfl
theorem tLoc_none {tg : Tg} (h : tLoc tg = none) : ∀ i, tg ≠ .loc i := by
  rintro i rfl
  cases h
theorem bnot {b : Bool} (h : (!b) = true) : b = false := by cases b <;> first | rfl | cases h
theorem prot {tg : Tg} (h : P.all (fun j => !tgHas tg j) = true) : ∀ j ∈ P, tgHas tg j = false := fun j hj => bnot (List.all_eq_true.mp h j hj)
theorem ckSt_ok (C : Cok X T Φ exA L W) {i : Nat} {x : Str} (h : ckSt T P i x = true) : X.N[i]? = some x ∧ L2.Loc X.env.scope x ∧ (X.fn x = true ∨ X.env.scope.names.lookup x = some .local) ∧ i ∉ P := by
  obtain ⟨h1, h2, h3⟩ := and3 h
  obtain ⟨g1, g2⟩ := C.st x h2
  exact ⟨by rw [C.n]; exact of_decide_eq_true h1, g1, g2, of_decide_eq_true h3⟩
theorem sw_value' {t e : Expr} {env : Env} (h : isTup e = false) : swappedStores [t] e env = pure none := by
  cases e <;> first | cases h | skip
  all_goals (cases t <;> rfl)
theorem sw_target' {t e : Expr} {env : Env} (h : isTup t = false) (h2 : isLst t = false) : swappedStores [t] e env = pure none := by
  cases t <;> simp [isTup, isLst] at h h2
  all_goals (cases e <;> rfl)
theorem ck_lcE {e : CE} {T : Tab} {elt : Expr} {gs : List Comprehension} {own : Scope} {p : Pos} (h : ck e T .e (.ListComp elt gs own p) = true) : ∃ o tg it c el, e = .lc o tg it c el := by
  cases e
  case lc o tg it c el => exact ⟨o, tg, it, c, el, rfl⟩
  case b1 f a => exfalso; revert h; cases f <;> simp [ck, b1Name, vB, vCall, onO, pm]
  case lmt ix i b => exfalso; revert h; simp [ck, vLm, onO, pm]
  case callk k a b => exfalso; revert h; simp [ck, vCallk, onO, pm]
  case fbn a => exfalso; revert h; simp [ck, vFbn, onO, pm]
  case spl a z => exfalso; revert h; simp [ck, vSpl, onO, pm]
  case rng3 a b c =>
    exfalso
    revert h
    cases c
    case neg z =>
      cases z
      case int i =>
        by_cases hi : i = 1
        · subst hi; simp [ck]
        · simp [ck, hi]
      all_goals simp [ck]
    all_goals simp [ck]
  case join a b => exfalso; revert h; cases a <;> simp [ck, vJoin, onO, pm]
  all_goals (exfalso; revert h; simp [ck, vInt, vBl, vNon, vStr, vName, vBin, vUn, vCmp, vChn, vBop, vIf, vSub, vLst, vTup, vDic, onO, pm, ckLoc, vB, vCall, PlainX])
theorem lcRow_some {e : Expr} {own : Scope} {ln : Nat} (h : lcRow e = some (own, ln)) : ∃ elt tg it ifs p, e = .ListComp elt [⟨tg, it, ifs, 0⟩] own p ∧ p.line = ln := by
  unfold lcRow at h
  split at h <;> cases h
  exact ⟨_, _, _, _, _, rfl, rfl⟩
theorem sndS_asg (tg : Tg) : SndS Φ exA L (.asg tg e) := by
  refine .st (fun X T W P C po st h => ?_) (fun _ _ ss => by cases ss <;> rfl)
  obtain ⟨⟨tx, x, pos⟩, hv, h⟩ := onO_ok (show onO (vAsg st) _ = true from h)
  obtain ⟨h1, h2⟩ := and2 h
  clear h
  obtain rfl := vAsg_some hv
  simp only at h1 h2
  have he := (sound Φ exA L e).e X T W C x h1
  cases htg : tLoc tg with
  | some i =>
    rw [htg] at h2
    simp only at h2
    obtain rfl := tLoc_some htg
    obtain ⟨y, hy, h2⟩ := onO_ok h2
    obtain ⟨h3, h4⟩ := and2 h2
    clear h2
    obtain ⟨q, rfl⟩ := vName_some hy
    obtain ⟨g1, g2, g3, g4⟩ := ckSt_ok C h3
    have nd : X.N.Nodup := by rw [C.n]; exact C.nd
    cases hc : isComp x with
    | false => exact PS.imp (ps_set nd g1 g2 he (sws_plain hc _ _ _) g3) (asg_run g4)
    | true =>
      rw [hc] at h4
      obtain ⟨⟨own, ln⟩, hr, h4⟩ := onO_ok (show onO (lcRow x) _ = true from h4)
      obtain ⟨h5, h6⟩ := and2 h4
      simp only at h5 h6
      obtain ⟨elt, tgx, it, ifs, p, rfl, rfl⟩ := lcRow_some hr
      have sw := sws_lc (t := y) (p := q) (ln := pos.line) (elt := elt) (gs := [⟨tgx, it, ifs, 0⟩]) (own := own) (pos := p) C.s (of_decide_eq_true h6)
      cases hsw : swB T.sc y q.line p.line own with
      | false => exact PS.imp (ps_set nd g1 g2 he (by rw [sw, hsw]) g3) (asg_run g4)
      | true =>
        have h5 : (!swB T.sc y q.line p.line own || (T.sc.names.lookup y == some .local)) = true := h5
        rw [hsw] at h5
        have hl : X.env.scope.names.lookup y = some .local := by
          rw [C.s]
          exact eq_of_beq (show (T.sc.names.lookup y == some .local) = true from h5)
        -- the comprehension itself
        obtain ⟨own', tg', it', c', el', rfl⟩ := ck_lcE h1
        have h1 : (blkC T.N T.sc own (ownN T own') && ck it' T .i it && !isSet it && tgIn own' tg' && (ckG (T.blk own) tg' tgx && (!ndT it' || isTupE tgx)) && ifsC c' ifs (ck c' (T.blk own) .t) && ck el' (T.blk own) .e elt) = true := h1
        obtain ⟨k1, k2, k3, k4, k5, k6, k7⟩ := and7 h1
        have ok : BlkOk X.N X.env.scope own (ownN T own') := by rw [C.n, C.s]; exact blkOk_by k1
        have := ps_setLc (X := X) (wi := tIx X.K exA W (itR (dE Φ it'))) (g := gTx X.K tg') (tt := tTx X.K exA noX (dE Φ c')) (te := tEx X.K exA noX (dE Φ el')) (py := q) (pos := p) (spos := pos) C.calm nd g1 hl (by rw [sw, hsw]) ((sound Φ exA L it').i X T W C tgx it (and2 k5).2 k2) ok
          (fun s H A cl fp => pg_sound (C.blk s H own cl A fp) tg' tgx (and2 k5).1)
          (fun s H A cl fp => ifs_ok (sound Φ exA L c') (C.blk s H own cl A fp) k6)
          (fun s H A cl fp => (sound Φ exA L el').e _ _ _ (C.blk s H own cl A fp) elt k7) (isSet_fold k3 _)
        rw [ownN_snd] at this
        refine PS.imp this fun D σ H q => ?_
        exact lc_run (fun j hj => tgIn_ok k4 hj) σ H _ (asg_run g4 D σ H q)
  | none =>
    rw [htg] at h2
    simp only at h2
    obtain ⟨h3, h4, h5, h6, h7, h8⟩ := and6 h2
    have hw : swappedStores [tx] x X.env = pure none := by
      cases ht : isTup tx with
      | false => exact sw_target' ht (bnot h5)
      | true =>
        cases hx : isTup x with
        | false => exact sw_value' hx
        | true =>
          rw [hx] at h8
          obtain ⟨vs, g1, g2⟩ := onO_ok (show onO (vTup x) _ = true from h8)
          obtain ⟨k1, p1, rfl⟩ := vTup_some g1
          cases tx <;> first | cases ht | skip
          exact sw_fold g2
    exact ps_asgT he (pg_sound C tg tx h6) (tLoc_none htg) (prot h7) (sws_target (bnot h3) _ _ _) hw (by rw [nst_asg h4 [] X.env]; rfl)

/-! the other statements -/
theorem nmsC_ok (C : Cok X T Φ exA L W) : ∀ {is : List Nat} {ns : List Str}, nmsC T P is ns = true → is.length = ns.length ∧ ∀ (k i : Nat) (n : Str), is[k]? = some i → ns[k]? = some n → NmOk X i n ∧ i ∉ P
  | [], [], _ => ⟨rfl, fun k i n h => by simp at h⟩
  | i :: is, n :: ns, h => by
    obtain ⟨h1, h2, h3, h4⟩ := and4 (show (decide (T.N[i]? = some n) && (T.sc.names.lookup n == some .local) && decide (i ∉ P) && nmsC T P is ns) = true from h)
    obtain ⟨g1, g2⟩ := nmsC_ok C h4
    refine ⟨by simp [g1], fun k j m e1 e2 => ?_⟩
    cases k with
    | zero =>
      simp at e1 e2
      subst e1 e2
      exact ⟨⟨by rw [C.n]; exact of_decide_eq_true h1, by rw [C.s]; exact eq_of_beq h2⟩, of_decide_eq_true h3⟩
    | succ k => exact g2 k j m (by simpa using e1) (by simpa using e2)
  | [], _ :: _, h => by cases h
  | _ :: _, [], h => by cases h
theorem ckPar_some {is : List Nat} {t e : Expr} {f : List Expr → Bool} (h : ckPar T P is t e f = true) : ∃ ts k p es k2 p2, t = .Tuple ts k p ∧ e = .Tuple es k2 p2 ∧ (parC T.sc ts es && nmsC T P is (parN T.sc ts es).reverse && f es) = true := by
  cases t <;> first | cases h | skip
  cases e <;> first | cases h | skip
  exact ⟨_, _, _, _, _, _, rfl, rfl, h⟩
theorem sndS_par (is : List Nat) : SndS Φ exA L (.par is e) := by
  refine .st (fun X T W P C po st h => ?_) (fun _ _ ss => by cases ss <;> rfl)
  obtain ⟨⟨tx, x, pos⟩, hv, h⟩ := onO_ok (show onO (vAsg st) _ = true from h)
  obtain rfl := vAsg_some hv
  obtain ⟨ts, k1, p1, es, k2, p2, rfl, rfl, h⟩ := ckPar_some (show ckPar T P is tx x (ckA e T) = true from h)
  obtain ⟨h1, h2, h3⟩ := and3 h
  obtain ⟨g1, g2⟩ := nmsC_ok C h2
  obtain ⟨q1, q2, _, _, q5, _⟩ := and8 h1
  have hn : (parN T.sc ts es).length = es.length := by rw [beq_iff_eq] at q5 q2; rw [q5, q2]
  have h3' : (parN T.sc ts es).length ≤ 3 := by
    rw [beq_iff_eq] at q5
    rw [q5]
    rw [Bool.or_eq_true, beq_iff_eq, beq_iff_eq] at q1
    omega
  have S := sound Φ exA L e
  exact ps_parx C.calm (by rw [C.n]; exact C.nd) (S.a X T W C es h3) g1 g2 (sw_some C.s h1) hn h3' fun env p hp => S.n T es h3 env p hp
theorem ckNs_ok (C : Cok X T Φ exA L W) : ∀ {is : List Nat} {ts : List Expr}, ckNs T P is ts = true → is.length = ts.length ∧ (∀ (k i : Nat) (t : Expr), is[k]? = some i → ts[k]? = some t → ∃ x p, t = .Name x p ∧ X.N[i]? = some x ∧ L2.Loc X.env.scope x ∧ (X.fn x = true ∨ X.env.scope.names.lookup x = some .local)) ∧ (∀ i ∈ is, i ∉ P) ∧ (assignEach ts X.env).length = ts.length
  | [], [], _ => ⟨rfl, fun k i n h => by simp at h, fun i h => by simp at h, rfl⟩
  | i :: is, t :: ts, h => by
    obtain ⟨h1, h2⟩ := and2 (show (onO (vName t) (fun x => ckSt T P i x) && ckNs T P is ts) = true from h)
    obtain ⟨x, hx, h1⟩ := onO_ok h1
    obtain ⟨p, rfl⟩ := vName_some hx
    obtain ⟨g1, g2, g3, g4⟩ := ckSt_ok C h1
    obtain ⟨k1, k2, k3, k4⟩ := ckNs_ok C h2
    refine ⟨by simp [k1], fun k j t e1 e2 => ?_, fun j hj => ?_, ?_⟩
    · cases k with
      | zero =>
        simp at e1 e2
        subst e1 e2
        exact ⟨x, p, rfl, g1, g2, g3⟩
      | succ k => exact k2 k j t (by simpa using e1) (by simpa using e2)
    · rcases List.mem_cons.mp hj with rfl | hj
      · exact g4
      · exact k3 j hj
    · show ((false, assign (.Name x p) X.env) :: assignEach ts X.env).length = _
      simp [k4]
  | [], _ :: _, h => by cases h
  | _ :: _, [], h => by cases h
theorem ckPln_some {is : List Nat} {t e : Expr} {f : List Expr → Bool} (h : ckPln T P is t e f = true) : ∃ ts k p es k2 p2, t = .Tuple ts k p ∧ e = .Tuple es k2 p2 ∧ (plnC T.sc ts es && ckNs T P is ts && (ts.length == es.length) && decide (es.length ≤ 1000) && f es) = true := by
  cases t <;> first | cases h | skip
  cases e <;> first | cases h | skip
  exact ⟨_, _, _, _, _, _, rfl, rfl, h⟩
theorem sndS_parO (is : List Nat) : SndS Φ exA L (.parO is e) := by
  refine .st (fun X T W P C po st h => ?_) (fun _ _ ss => by cases ss <;> rfl)
  obtain ⟨⟨tx, x, pos⟩, hv, h⟩ := onO_ok (show onO (vAsg st) _ = true from h)
  obtain rfl := vAsg_some hv
  obtain ⟨ts, k1, p1, es, k2, p2, rfl, rfl, h⟩ := ckPln_some (show ckPln T P is tx x (ckA e T) = true from h)
  obtain ⟨h1, h2, h3, h4, h5⟩ := and5 h
  obtain ⟨g1, g2, g3, g4⟩ := ckNs_ok C h2
  have S := sound Φ exA L e
  exact ps_parO C.calm (by rw [C.n]; exact C.nd) (S.a X T W C es h5) g1 g2 g3 (sw_plain C.s h1) (eq_of_beq h3) (of_decide_eq_true h4) (fun env p hp => S.n T es h5 env p hp) g4
theorem sub_asg {o i : Expr} {p : Pos} {env : Env} (h : PlainX i = true) : ∀ v, assign (.Subscript o i p) env v = (do
      let ov ← holding [v] (eval o env)
      let iv ← holding [v, ov] (eval i env)
      standAt p
      holding [v, ov, iv] (setItem ov iv v)
      release [v, ov, iv] []) := by
  cases i <;> first | (intro _; rfl) | cases h
theorem sndS_setix (i : Nat) : SndS Φ exA L (.setix i k e) := by
  refine .st (fun X T W P C po st h => ?_) (fun _ _ ss => by cases ss <;> rfl)
  obtain ⟨⟨tx, x, pos⟩, hv, h⟩ := onO_ok (show onO (vAsg st) _ = true from h)
  obtain rfl := vAsg_some hv
  obtain ⟨⟨o, y⟩, hz, h⟩ := onO_ok h
  obtain ⟨h1, h2, h3, h4⟩ := and4 h
  simp only at h1 h2 h3 h4 hz
  obtain ⟨q, rfl⟩ := vSub_some hz
  exact PS.imp (ps_asg ((sound Φ exA L e).e X T W C x h4) (pg_sub (loc_ok C h1) ((sound Φ exA L k).e X T W C y h3) set_list (sub_asg h2)) (sws_target (t := .Subscript o y q) rfl x pos.line X.env) (sw_target' (t := .Subscript o y q) rfl rfl) rfl) setix_run
theorem sndS_aug (i : Nat) (sub : Bool) : SndS Φ exA L (.aug i sub e) := by
  refine .st (fun X T W P C po st h => ?_) (fun _ _ ss => by cases ss <;> rfl)
  obtain ⟨⟨tx, o, x⟩, hv, h⟩ := onO_ok (show onO (vAug st) _ = true from h)
  obtain ⟨p, rfl⟩ := vAug_some hv
  obtain ⟨y, hy, h⟩ := onO_ok h
  obtain ⟨h1, h2, h3⟩ := and3 h
  simp only at h1 h2 h3 hy
  obtain ⟨q, rfl⟩ := vName_some hy
  obtain ⟨g1, g2, g3, g4⟩ := ckSt_ok C h1
  have h2 := of_decide_eq_true h2
  have he := (sound Φ exA L e).e X T W C x h3
  have nd : X.N.Nodup := by rw [C.n]; exact C.nd
  cases sub with
  | true =>
    have h2 : o = .Sub := h2
    subst h2
    exact PS.imp (ps_aug nd g1 g2 he ip_sub g3) (aug_run true g4)
  | false =>
    have h2 : o = .Add := h2
    subst h2
    exact PS.imp (ps_aug nd g1 g2 he ip_add g3) (aug_run false g4)
theorem mt_stmt {i : Nat} {o x : Expr} {name : Str} {id : String} {ap cp p : Pos} {r : V → List V → Hp → VK → Prop} {ta : TA} {rr : Env' → Res Fl} (C : Cok X T Φ exA L W) (ho : ckLoc T i o = true) (hl : (ap.endLine == cp.line) = true) (slot : Slot "list" name id) (hty : typeOf (.builtin id) = pure (.type "method_descriptor")) (hm : MtR X id r)
    (ha : PA X [x] ta) (hx : nst x = true) (run : ∀ D σ H, tSx X.K exA W P rr D σ H → tDrop (tBM X.K "list" r (tVar i) ta) D σ H) : PS X (.Expr (.Call (.Attribute o name ap) [x] [] cp) p) (tSx X.K exA W P rr) := by
  have hn : isNm o = true := by
    unfold ckLoc at ho
    cases o <;> first | rfl | cases ho
  have hb : attributeBase o name X.env (eval o X.env) = eval o X.env := by cases o <;> first | rfl | cases hn
  exact PS.imp (ps_expr (pe_bm PySem.F.plainAttrs_list slot hty hm (loc_ok C ho) ha hb (by rw [nst_star hx]; rfl) hl (nst_star hx _ _) rfl) rfl) run
theorem mt_stmt2 {i : Nat} {o x y : Expr} {name : Str} {id : String} {ap cp p : Pos} {r : V → List V → Hp → VK → Prop} {ta : TA} {rr : Env' → Res Fl} (C : Cok X T Φ exA L W) (ho : ckLoc T i o = true) (hl : (ap.endLine == cp.line) = true) (slot : Slot "list" name id) (hty : typeOf (.builtin id) = pure (.type "method_descriptor")) (hm : MtR X id r)
    (ha : PA X [x, y] ta) (hx : nst x = true) (hy : nst y = true) (run : ∀ D σ H, tSx X.K exA W P rr D σ H → tDrop (tBM X.K "list" r (tVar i) ta) D σ H) : PS X (.Expr (.Call (.Attribute o name ap) [x, y] [] cp) p) (tSx X.K exA W P rr) := by
  have hn : isNm o = true := by
    unfold ckLoc at ho
    cases o <;> first | rfl | cases ho
  have hb : attributeBase o name X.env (eval o X.env) = eval o X.env := by cases o <;> first | rfl | cases hn
  exact PS.imp (ps_expr (pe_bm PySem.F.plainAttrs_list slot hty hm (loc_ok C ho) ha hb (by rw [nst_star hx, nst_star hy]; rfl) hl (nst_star hx _ _) (by rw [nst_star hy]; rfl)) rfl) run
theorem mt_stmt0 {i : Nat} {o : Expr} {name : Str} {id : String} {ap cp p : Pos} {r : V → List V → Hp → VK → Prop} {rr : Env' → Res Fl} (C : Cok X T Φ exA L W) (ho : ckLoc T i o = true) (hl : (ap.endLine == cp.line) = true) (slot : Slot "list" name id) (hty : typeOf (.builtin id) = pure (.type "method_descriptor")) (hm : MtR X id r)
    (run : ∀ D σ H, tSx X.K exA W P rr D σ H → tDrop (tBM0 X.K "list" r (tVar i)) D σ H) : PS X (.Expr (.Call (.Attribute o name ap) [] [] cp) p) (tSx X.K exA W P rr) := by
  have hn : isNm o = true := by
    unfold ckLoc at ho
    cases o <;> first | rfl | cases ho
  have hb : attributeBase o name X.env (eval o X.env) = eval o X.env := by cases o <;> first | rfl | cases hn
  exact PS.imp (ps_expr (pe_bm0 PySem.F.plainAttrs_list slot hty hm (loc_ok C ho) hb hl) rfl) run
theorem sndS_app (i : Nat) : SndS Φ exA L (.app i e) := by
  refine .st (fun X T W P C po st h => ?_) (fun _ _ ss => by cases ss <;> rfl)
  obtain ⟨es, hv, h⟩ := onO_ok (show onO (vM T i "append" st) _ = true from h)
  obtain ⟨x, h1, h⟩ := onO_ok h
  obtain ⟨h2, h3⟩ := and2 h
  obtain ⟨o, ap, cp, p, rfl, g1, g2⟩ := vM_some hv
  obtain rfl := one_some h1
  exact mt_stmt C g1 g2 PySem.F.slot_list_append PySem.F.type_list_append mt_append (pa_o1 ((sound Φ exA L e).e X T W C x h3) h2) h2 app_run
theorem sndS_ext (i : Nat) : SndS Φ exA L (.ext i e) := by
  refine .st (fun X T W P C po st h => ?_) (fun _ _ ss => by cases ss <;> rfl)
  obtain ⟨es, hv, h⟩ := onO_ok (show onO (vM T i "extend" st) _ = true from h)
  obtain ⟨x, h1, h⟩ := onO_ok h
  obtain ⟨h2, h3⟩ := and2 h
  obtain ⟨o, ap, cp, p, rfl, g1, g2⟩ := vM_some hv
  obtain rfl := one_some h1
  exact mt_stmt C g1 g2 PySem.F.slot_list_extend PySem.F.type_list_extend mt_extend (pa_o1 ((sound Φ exA L e).e X T W C x h3) h2) h2 ext_run
theorem sndS_ins (i : Nat) : SndS Φ exA L (.ins i k e) := by
  refine .st (fun X T W P C po st h => ?_) (fun _ _ ss => by cases ss <;> rfl)
  obtain ⟨es, hv, h⟩ := onO_ok (show onO (vM T i "insert" st) _ = true from h)
  obtain ⟨⟨x, y⟩, h1, h⟩ := onO_ok h
  obtain ⟨h2, h3, h4, h5⟩ := and4 h
  obtain ⟨o, ap, cp, p, rfl, g1, g2⟩ := vM_some hv
  obtain rfl := two_some h1
  exact mt_stmt2 C g1 g2 PySem.F.slot_list_insert PySem.F.type_list_insert mt_insert (PA.imp (pa_cons ((sound Φ exA L k).e X T W C x h4) (pa_cons ((sound Φ exA L e).e X T W C y h5) pa_nil (nst_star h3 _ _)) (nst_star h2 _ _)) fun σ H Q q => q) h2 h3 ins_run
theorem sndS_popA (i : Nat) : SndS Φ exA L (.popA i k) := by
  refine .st (fun X T W P C po st h => ?_) (fun _ _ ss => by cases ss <;> rfl)
  obtain ⟨es, hv, h⟩ := onO_ok (show onO (vM T i "pop" st) _ = true from h)
  obtain ⟨x, h1, h⟩ := onO_ok h
  obtain ⟨h2, h3⟩ := and2 h
  obtain ⟨o, ap, cp, p, rfl, g1, g2⟩ := vM_some hv
  obtain rfl := one_some h1
  exact mt_stmt C g1 g2 PySem.F.slot_list_pop PySem.F.type_list_pop mt_popAt (pa_o1 ((sound Φ exA L k).e X T W C x h3) h2) h2 popA_run
theorem sndS_pop (i : Nat) : SndS Φ exA L (.pop i) := by
  refine .st (fun X T W P C po st h => ?_) (fun _ _ ss => by cases ss <;> rfl)
  obtain ⟨es, hv, hE⟩ := onO_ok (show onO (vM T i "pop" st) _ = true from h)
  obtain ⟨o, ap, cp, p, rfl, g1, g2⟩ := vM_some hv
  obtain rfl := List.isEmpty_iff.mp hE
  exact mt_stmt0 C g1 g2 PySem.F.slot_list_pop PySem.F.type_list_pop mt_pop pop_run
theorem sndS_rvs (i : Nat) : SndS Φ exA L (.rvs i) := by
  refine .st (fun X T W P C po st h => ?_) (fun _ _ ss => by cases ss <;> rfl)
  obtain ⟨es, hv, hE⟩ := onO_ok (show onO (vM T i "reverse" st) _ = true from h)
  obtain ⟨o, ap, cp, p, rfl, g1, g2⟩ := vM_some hv
  obtain rfl := List.isEmpty_iff.mp hE
  exact mt_stmt0 C g1 g2 PySem.F.slot_list_reverse PySem.F.type_list_reverse mt_reverse rvs_run
theorem sndS_ex : SndS Φ exA L (.ex e) := by
  refine .st (fun X T W P C po st h => ?_) (fun _ _ ss => by cases ss <;> rfl)
  obtain ⟨x, hv, h⟩ := onO_ok (show onO (vExp st) _ = true from h)
  obtain ⟨h1, h2⟩ := and2 h
  obtain ⟨p, rfl⟩ := vExp_some hv
  exact ps_exx ((sound Φ exA L e).e X T W C x h2) (sws_plain (bnot h1) _ _ _)
theorem sndS_ite (A : SndS Φ exA L a) (B : SndS Φ exA L b) : SndS Φ exA L (.ite t a b) := by
  refine .st (fun X T W P C po st h => ?_) (fun _ _ ss => by cases ss <;> rfl)
  obtain ⟨⟨x, y, z⟩, hv, h⟩ := onO_ok (show onO (vIfS st) _ = true from h)
  obtain ⟨h1, h2, h3⟩ := and3 h
  obtain ⟨p, rfl⟩ := vIfS_some hv
  exact ps_itex ((sound Φ exA L t).t X T W C x h1).1 (A.b X T W P C po y h2) (B.b X T W P C po z h3)
theorem sndS_whl (n : Nat) (B : SndS Φ exA L b) : SndS Φ exA L (.whl n t b) := by
  refine .st (fun X T W P C po st h => ?_) (fun _ _ ss => by cases ss <;> rfl)
  obtain ⟨⟨x, y⟩, hv, h⟩ := onO_ok (show onO (vWhl st) _ = true from h)
  obtain ⟨h1, h2⟩ := and2 h
  obtain ⟨p, rfl⟩ := vWhl_some hv
  exact ps_whlx po.po ((sound Φ exA L t).t X T W C x h1).1 (B.b X T W P C po y h2) n
theorem sndS_fr (tg : Tg) (B : SndS Φ exA L b) : SndS Φ exA L (.fr tg t b) := by
  refine .st (fun X T W P C po st h => ?_) (fun _ _ ss => by cases ss <;> rfl)
  obtain ⟨⟨x, y, z⟩, hv, h⟩ := onO_ok (show onO (vFor st) _ = true from h)
  obtain ⟨h1, h2, h3, h4, h5⟩ := and5 h
  obtain ⟨p, rfl⟩ := vFor_some hv
  exact ps_frx po.po C.calm ((sound Φ exA L t).i X T W C x y (and2 h2).2 h1) (pg_sound C tg x h3) (prot h4) (B.b X T W P C po z h5) (isSet_fold (and2 h2).1 _)
theorem sndS_ret : SndS Φ exA L (.ret e) := by
  refine .st (fun X T W P C po st h => ?_) (fun _ _ ss => by cases ss <;> rfl)
  obtain ⟨x, hv, h⟩ := onO_ok (show onO (vRet st) _ = true from h)
  obtain ⟨p, rfl⟩ := vRet_some hv
  exact ps_retx ((sound Φ exA L e).e X T W C x h)
theorem sndS_retM (i : Nat) : SndS Φ exA L (.retM i) := by
  refine .st (fun X T W P C po st h => ?_) (fun _ _ ss => by cases ss <;> rfl)
  obtain ⟨x, hv, h⟩ := onO_ok (show onO (vRet st) _ = true from h)
  obtain ⟨p, rfl⟩ := vRet_some hv
  exact ps_retMx (loc_ok C h)
theorem sndS_rai (c : Str) : SndS Φ exA L (.rai c) := by
  refine .st (fun X T W P C po st h => ?_) (fun _ _ ss => by cases ss <;> rfl)
  obtain ⟨x, hv, h⟩ := onO_ok (show onO (vRai st) _ = true from h)
  obtain ⟨h1, h2, h3, h4⟩ := and4 h
  obtain ⟨m, j, p, p2, p3, p4, rfl⟩ := vRai_some hv
  obtain rfl := of_decide_eq_true h1
  exact ps_raix C.calm C.tk (C.wl.ex x (of_decide_eq_true h2)) (glB_ok C h3) (dbg_ok h4).1
theorem sndS_all : ∀ c : CS, SndS Φ exA L c := by
  intro c
  induction c with
  | asg tg e => exact sndS_asg tg
  | par is e => exact sndS_par is
  | parO is e => exact sndS_parO is
  | setix i k e => exact sndS_setix i
  | aug i s e => exact sndS_aug i s
  | app i e => exact sndS_app i
  | ext i e => exact sndS_ext i
  | ins i k e => exact sndS_ins i
  | popA i k => exact sndS_popA i
  | pop i => exact sndS_pop i
  | rvs i => exact sndS_rvs i
  | ex e => exact sndS_ex
  | ite t a b A B => exact sndS_ite A B
  | whl n t b B => exact sndS_whl n B
  | fr tg it b B => exact sndS_fr tg B
  | tryc ie ic rs b _ => exact .st (fun X T W P C po st h => sndS_try C po h) (fun _ _ ss => by cases ss <;> rfl)
  | ret e => exact sndS_ret
  | retM i => exact sndS_retM i
  | rai c => exact sndS_rai c
  | retN =>
    refine .st (fun X T W P C po st h => ?_) (fun _ _ ss => by cases ss <;> rfl)
    obtain ⟨p, rfl⟩ := isRetN_ok (show isRetN st = true from h)
    exact ps_retNx
  | pass =>
    refine .st (fun X T W P C po st h => ?_) (fun _ _ ss => by cases ss <;> rfl)
    rcases isPass_ok (show isPass st = true from h) with ⟨p, rfl⟩ | ⟨x, j, p, p', rfl⟩
    · exact ps_jumpx
    · exact ps_docx
  | brk =>
    refine .st (fun X T W P C po st h => ?_) (fun _ _ ss => by cases ss <;> rfl)
    obtain ⟨p, rfl⟩ := isBrk_ok (show isBrk st = true from h)
    exact ps_brkx
  | cnt =>
    refine .st (fun X T W P C po st h => ?_) (fun _ _ ss => by cases ss <;> rfl)
    obtain ⟨p, rfl⟩ := isCnt_ok (show isCnt st = true from h)
    exact ps_cntx
  | nev => exact .st (fun X T W P C po st h => PS.imp ps_never fun D σ H q => by obtain ⟨F, env, E, q⟩ := q; exact q.elim) (fun _ _ ss => by cases ss <;> rfl)
  | nil =>
    refine ⟨fun X T W P C po st h => (by cases h), fun X T W P C po ss h => ?_⟩
    cases ss with
    | nil => exact pss_nilx
    | cons _ _ => cases h
  | seq a r A R =>
    refine ⟨fun X T W P C po st h => (by cases h), fun X T W P C po ss h => ?_⟩
    cases ss with
    | nil => cases h
    | cons s ss =>
      obtain ⟨h1, h2⟩ := and2 (show (ckS a T P s && ckB r T P ss) = true from h)
      exact pss_consx (A.s X T W P C po s h1) (R.b X T W P C po ss h2)
end
end Vl
set_option maxHeartbeats 4000000
namespace Vl
open PySem PySem.Spec PyProof.Rows L2
/-! a def's worth by its body -/
def outS (P : List Nat) (sls : List Sl) (env : Env') (i : Nat) : Sl := if i ∈ P then env[i]?.getD .un else match sls[i]? with
  | some (.fz d) => .fz d
  | _ => .un
def outs (P : List Nat) (sls : List Sl) (env : Env') : List Sl := (List.range sls.length).map (outS P sls env)
def runB (P : List Nat) (np nl : Nat) (r : Env' → Res Fl) (sls : List Sl) : Res (Sl × List Sl) :=
  if sls.length = np then (r (sls ++ List.replicate nl .un)).bind fun f => (match f with
    | .rt sl env => .ok (sl, outs P sls env)
    | .nx env => .ok (.fz .none, outs P sls env)
    | _ => .no) else .no
def mkFn (P : List Nat) (np nl : Nat) (r : Env' → Res Fl) : Fn := ⟨[], runB P np nl r⟩
theorem outs_get {P : List Nat} {sls : List Sl} {env : Env'} {i : Nat} {sl : Sl} (h : (outs P sls env)[i]? = some sl) (n : sl ≠ .un) : i < sls.length ∧ ((i ∈ P ∧ env[i]? = some sl) ∨ ∃ d, sls[i]? = some (.fz d) ∧ sl = .fz d) := by
  unfold outs at h
  rw [List.getElem?_map] at h
  by_cases hi : i < sls.length
  · rw [List.getElem?_range hi] at h
    have h : some (outS P sls env i) = some sl := h
    have h := Option.some.inj h
    refine ⟨hi, ?_⟩
    unfold outS at h
    split at h
    · rename_i hp
      refine .inl ⟨hp, ?_⟩
      cases q : env[i]? with
      | none => rw [q] at h; exact absurd h.symm n
      | some t => rw [q] at h; rw [← h]; rfl
    · split at h
      · exact .inr ⟨_, by assumption, h.symm⟩
      · exact absurd h.symm n
  · rw [List.getElem?_eq_none (by simpa using hi)] at h
    cases h
section
variable {K : PySem.W.Frag} {F H F' H' : Hp} {env : Env'} {sls : List Sl} {vs : List V} {N : List Str} {P : List Nat} {σ' : L2.St}
theorem start_get {i : Nat} (h : i < vs.length) : (start N vs)[i]? = (vs.map some)[i]? := by
  unfold L2.start
  rw [List.getElem?_append_left (by simpa using h)]
theorem start_len (h : vs.length ≤ N.length) : (start N vs).length = N.length := by
  unfold L2.start
  rw [List.length_append, List.length_map, List.length_replicate]
  omega
theorem pad_get {i : Nat} {nl : Nat} {sl : Sl} (h : (sls ++ List.replicate nl Sl.un)[i]? = some sl) (n : sl ≠ .un) : sls[i]? = some sl := by
  by_cases hi : i < sls.length
  · rwa [List.getElem?_append_left hi] at h
  · rw [List.getElem?_append_right (by omega), List.getElem?_replicate] at h
    split at h
    · exact absurd (Option.some.inj h).symm n
    · cases h
theorem own_un {sl : Sl} {v : V} {a : Addr} (o : own sl v a) : sl ≠ .un := by rintro rfl; exact o
theorem lt_of_get {α : Type} {l : List α} {i : Nat} {x : α} (h : l[i]? = some x) : i < l.length := by
  rcases Nat.lt_or_ge i l.length with z | z
  · exact z
  · rw [List.getElem?_eq_none z] at h; cases h
/-- at the entry -/
theorem EnvOk.pad (E : EnvOk K F H sls (vs.map some)) (hN : vs.length ≤ N.length) : EnvOk K F H (sls ++ List.replicate (N.length - vs.length) .un) (start N vs) ∧ ∀ a, Ow (sls ++ List.replicate (N.length - vs.length) .un) (start N vs) a ↔ Ow sls (vs.map some) a := by
  have hl : sls.length = vs.length := by rw [E.len, List.length_map]
  have two : ∀ {i : Nat} {sl : Sl} {v : V} {a : Addr}, (sls ++ List.replicate (N.length - vs.length) Sl.un)[i]? = some sl → (start N vs)[i]? = some (some v) → own sl v a → sls[i]? = some sl ∧ (vs.map some)[i]? = some (some v) := fun h1 h2 o => by
    have g := pad_get h1 (own_un o)
    have := lt_of_get g
    exact ⟨g, by rw [← start_get (N := N) (by omega)]; exact h2⟩
  refine ⟨⟨E.sub, by rw [List.length_append, List.length_replicate, start_len hN]; omega, fun i sl h n => ?_, fun i j sl tl v w a h1 h2 h3 h4 o1 o2 => ?_⟩, fun a => ⟨fun ⟨i, sl, v, h1, h2, o⟩ => ?_, fun ⟨i, sl, v, h1, h2, o⟩ => ?_⟩⟩
  · have g := pad_get h n
    obtain ⟨v, g1, g2⟩ := E.ok i sl g n
    have := lt_of_get g
    exact ⟨v, by rw [start_get (by omega)]; exact g1, g2⟩
  · obtain ⟨a1, a2⟩ := two h1 h3 o1
    obtain ⟨b1, b2⟩ := two h2 h4 o2
    exact E.inj i j sl tl v w a a1 b1 a2 b2 o1 o2
  · obtain ⟨a1, a2⟩ := two h1 h2 o
    exact ⟨i, sl, v, a1, a2, o⟩
  · have := lt_of_get h1
    exact ⟨i, sl, v, by rw [List.getElem?_append_left this]; exact h1, by rw [start_get (by omega)]; exact h2, o⟩
/-- at the end -/
theorem outs_env (E : EnvOk K F H sls (vs.map some)) (E' : EnvOk K F' H' env σ') (su : Sub F F') (pr : ∀ j ∈ P, σ'[j]? = (start N vs)[j]?) : EnvOk K F' H' (outs P sls env) (vs.map some) ∧ ∀ a, Ow (outs P sls env) (vs.map some) a → Ow env σ' a := by
  have hl : sls.length = vs.length := by rw [E.len, List.length_map]
  have two : ∀ {i : Nat} {sl : Sl} {v : V} {a : Addr}, (outs P sls env)[i]? = some sl → (vs.map some)[i]? = some (some v) → own sl v a → env[i]? = some sl ∧ σ'[i]? = some (some v) := fun {i sl v a} h1 h2 o => by
    obtain ⟨g0, g | ⟨d, _, rfl⟩⟩ := outs_get h1 (own_un o)
    · exact ⟨g.2, by rw [pr i g.1, start_get (by omega)]; exact h2⟩
    · exact o.elim
  refine ⟨⟨E'.sub, by unfold outs; rw [List.length_map, List.length_range, hl, List.length_map], fun i sl h n => ?_, fun i j sl tl v w a h1 h2 h3 h4 o1 o2 => ?_⟩, fun a ⟨i, sl, v, h1, h2, o⟩ => ?_⟩
  · obtain ⟨g0, g | ⟨d, g, rfl⟩⟩ := outs_get h n
    · obtain ⟨v, g1, g2⟩ := E'.ok i sl g.2 n
      rw [pr i g.1, start_get (by omega)] at g1
      exact ⟨v, g1, g2⟩
    · obtain ⟨v, g1, g2⟩ := E.ok i _ g (by simp)
      exact ⟨v, g1, Rp.sub su g2⟩
  · obtain ⟨a1, a2⟩ := two h1 h3 o1
    obtain ⟨b1, b2⟩ := two h2 h4 o2
    exact E'.inj i j sl tl v w a a1 b1 a2 b2 o1 o2
  · obtain ⟨a1, a2⟩ := two h1 h2 o
    exact ⟨i, sl, v, a1, a2, o⟩
end
def tabOf (N : List Str) (sc : Scope) (bl : List Str) (gs : List (Str × Sum Int Str)) (nm : List (Str × Nat)) (xs : List Str) (cl : List Str := []) (sq : Bool := false) : Tab where
  N := N
  sc := sc
  st := fun x => match sc.names.lookup x with | some .local => true | some .cell => true | _ => false
  bl := bl
  gs := gs
  nm := nm
  xs := xs
  cl := cl
  sq := sq
section
variable {P : Program} {w : World} {K : PySem.W.Frag} {mg : Str → Option Value} {base : Heap} {exA : Str → Option Addr} {Φ : Nat → Fn} {L : Nat}
/-- what is known of the module, for every context over it -/
def WldAll (P : Program) (w : World) (K : PySem.W.Frag) (mg : Str → Option Value) (base : Heap) (T : Tab) (Φ : Nat → Fn) (exA : Str → Option Addr) (L : Nat) : Prop := ∀ X : Cx, X.prog = P → X.w = w → X.K = K → X.mg = mg → X.base = base → Wld X T Φ exA L
/-- by the meaning of its body, however it is proved -/
theorem fnG_by {f : Addr} {name qual : Str} {params : Arguments} {body : List Stmt} {scope : Scope} {dV kV doc pm cdv ct oc : Value} {an od : Option Addr} {osl : Array (Option Value)} {N ps : List Str} {bl : List Str} {gs : List (Str × Sum Int Str)} {nm : List (Str × Nat)} {xs cl : List Str} {sq : Bool} {r : Env' → Res Fl} {Pr : List Nat}
    (lk : K.lookup f = some ⟨oc, od, .func (PySem.W.fnOf name qual params body scope dV kV doc pm an cdv ct), osl⟩) (hcd : PySem.W.codeIn K cdv qual = true) (S : FnScope N ps scope) (wl : WldAll P w K mg base (tabOf N scope bl gs nm xs cl sq) Φ exA L)
    (hB : ∀ (X : Cx) (W : WX), X.prog = P → X.w = w → X.K = K → X.mg = mg → X.base = base → Cok X (tabOf N scope bl gs nm xs cl sq) Φ exA L W → Frm X → PSs X body (tSx X.K exA W Pr r)) :
    FnG P w K mg base exA (L + 1) f (PySem.W.fnOf name qual params body scope dV kV doc pm an cdv ct) ps (mkFn Pr ps.length (N.length - ps.length) r) := by
  refine ⟨fun A outer s H args us vs Q E hr hg e0 hb rv hl hsp => ?_⟩
  have kx : K.In s.heap := e0.mod.kin.keeps fun b o e => (e0.bs b o e).1
  have lim : s.heap.NoLimit := e0.mod.nolimit.keeps fun b o e => (e0.bs b o e).1
  have par : ∀ y ∈ ps.zip us, scope.names.lookup y.1 = some .local ∨ (scope.names.lookup y.1 = some .cell ∧ ((cellsFrom (s.heap.objs.size + 1) scope.names []).lookup y.1).isSome = true) := by
    rintro ⟨n, v⟩ hy
    exact (S.par n (List.of_mem_zip hy).1).imp id fun q => ⟨q, PySem.W.cellsFrom_some _ _ _ (.inl q)⟩
  refine codeAny_call_function hr.depth (kx _ _ lk) rfl S.co S.gen rfl (PySem.W.codeRec_of kx hcd) (hb _ _ _ _ (wpAny_newFunctionEnv_cells S.kind par fun env he s1 x => ?_))
  subst he
  refine ⟨lim.keeps x.toInCall.keep, codeAny_func ?_⟩
  have I := inv_start (CX := L2.CX P w) (E := E) S hr.hd e0 hl rv x
  -- the body's context
  have C : Cok (cxOf (L2.CX P w) P w K mg base N qual scope f cdv A outer s H E) (tabOf N scope bl gs nm xs cl sq) Φ exA L (fun cls d _ H' => E cls d H') := {
    wl := wl _ rfl rfl rfl rfl rfl
    n := rfl
    s := rfl
    nd := S.nd
    calm := rfl
    gu := hg
    rm := hr.deeper _
    tk := takes_of rfl rfl rfl rfl
    st := fun y h => by
      have h : (match scope.names.lookup y with | some .local => true | some .cell => true | _ => false) = true := h
      refine ⟨?_, .inl rfl⟩
      unfold L2.Loc
      show scope.names.lookup y = _ ∨ scope.names.lookup y = _
      split at h
      · exact .inl (by assumption)
      · exact .inr (by assumption)
      · cases h }
  have B := hB _ _ rfl rfl rfl rfl rfl C ⟨passes_of rfl, rfl, rfl, rfl⟩
  have hN : vs.length ≤ N.length := by
    have := congrArg List.length S.pre
    rw [List.length_take] at this
    omega
  obtain ⟨F, sls, E0, q⟩ := hsp
  obtain ⟨E1, ow⟩ := E0.pad hN
  have q : OnR (runB Pr ps.length (N.length - ps.length) r sls) (fun p => Kt K F H sls (vs.map some) p.2 p.1 Q) (Xk exA (fun cls d _ H' => E cls d H') F H (Ow sls (vs.map some))) := q
  unfold runB at q
  have hsl : sls.length = ps.length := by rw [E0.len, List.length_map, hl]
  rw [if_pos hsl] at q
  have back : ∀ {F' H' : Hp} {env : Env'} {σ' : L2.St}, EnvOk K F' H' env σ' → Step F H (Ow (sls ++ List.replicate (N.length - vs.length) .un) (start N vs)) F' H' (Ow env σ') → (∀ j ∈ Pr, σ'[j]? = (start N vs)[j]?) →
      EnvOk K F' H' (outs Pr sls env) (vs.map some) ∧ Step F H (Ow sls (vs.map some)) F' H' (Ow (outs Pr sls env) (vs.map some)) ∧ ∀ a, Ow (outs Pr sls env) (vs.map some) a → Ow env σ' a := fun {F' H' env σ'} E' st pr => by
    obtain ⟨g1, g2⟩ := outs_env E0 E' st.fz pr
    refine ⟨g1, ⟨st.fz, fun a o h n => st.keep a o h fun z => n ((ow a).mp z), fun a h => ?_, fun a h => ?_⟩, g2⟩
    · rcases st.new a h with z | z | z
      · exact .inl z
      · exact .inr (.inl z)
      · exact .inr (.inr ((ow a).mp z))
    · rcases st.own a (g2 a h) with z | z
      · exact .inl ((ow a).mp z)
      · exact .inr z
  have start : tSx K exA (fun cls d _ H' => E cls d H') Pr r { nx := fun _ H' => Q .non H', rt := Q } (start N vs) H := by
    refine ⟨F, _, E1, ?_⟩
    rw [hl]
    refine q.bind.mono (fun fl _ h => ?_) fun cn hx => ?_
    · rw [hl] at back
      cases fl with
      | nx env =>
        have h : Kt K F H sls (vs.map some) (outs Pr sls env) (.fz .none) Q := h
        intro σ' F' H' E' st pr
        obtain ⟨b1, b2, _⟩ := back E' st pr
        exact h .non F' H' b1 b2 (.fz .non)
      | rt sl env =>
        have h : Kt K F H sls (vs.map some) (outs Pr sls env) sl Q := h
        intro v σ' F' H' E' st pr t
        obtain ⟨b1, b2, b3⟩ := back E' st pr
        refine h v F' H' b1 b2 ⟨t.ok, fun a o z => t.no a o (b3 a z), fun a o => ?_⟩
        rcases t.fr a o with z | z
        · rw [← hl] at z
          exact .inl ((ow a).mp z)
        · exact .inr z
      | bk env => exact h.elim
      | ct env => exact h.elim
    · obtain ⟨Cn, g1, g2⟩ := hx
      refine ⟨Cn, g1, fun σ F' H' z1 z2 z3 => g2 σ F' H' z1 z2 fun a o h n => z3 a o h fun z => n ?_⟩
      rw [← hl] at z
      exact (ow a).mp z
  refine wpAny_mono (B.run [] s1 (L2.start N vs) H _ I start) (fun fl s' hs => ?_) fun e s' hs => hs
  have fin : ∀ {σ' : L2.St} {H' : Hp} {v : V} {u : Value}, Inv (cxOf (L2.CX P w) P w K mg base N qual scope f cdv A outer s H E) [] σ' H' s' → RelV v u → Q v H' → L2.CE outer P w H s Q u s' :=
    fun {σ' H' v u} J rv z => ⟨v, H', J.os, J.bare, J.base, J.hok, rv, z⟩
  cases fl with
  | ret u => obtain ⟨v, σ', H', J, rv, z⟩ := hs; exact fin J rv z
  | next => obtain ⟨σ', H', J, z⟩ := hs; exact fin (v := .non) (u := .none) J rfl z
  | brk => obtain ⟨_, _, _, z⟩ := hs; exact z.elim
  | cont => obtain ⟨_, _, _, z⟩ := hs; exact z.elim
theorem fnG_of {f : Addr} {name qual : Str} {params : Arguments} {body : List Stmt} {scope : Scope} {dV kV doc pm cdv ct oc : Value} {an od : Option Addr} {osl : Array (Option Value)} {N ps : List Str} {bl : List Str} {gs : List (Str × Sum Int Str)} {nm : List (Str × Nat)} {xs cl : List Str} {sq : Bool} {c : CS} {Pr : List Nat}
    (lk : K.lookup f = some ⟨oc, od, .func (PySem.W.fnOf name qual params body scope dV kV doc pm an cdv ct), osl⟩) (hcd : PySem.W.codeIn K cdv qual = true) (S : FnScope N ps scope) (wl : WldAll P w K mg base (tabOf N scope bl gs nm xs cl sq) Φ exA L)
    (hc : ckB c (tabOf N scope bl gs nm xs cl sq) Pr body = true) :
    FnG P w K mg base exA (L + 1) f (PySem.W.fnOf name qual params body scope dV kV doc pm an cdv ct) ps (mkFn Pr ps.length (N.length - ps.length) (dS Φ c)) :=
  fnG_by lk hcd S wl fun X W _ _ _ _ _ C fr => (sndS_all c).b X _ W Pr C fr body hc
end
end Vl
set_option maxHeartbeats 4000000
namespace Vl
open PySem PySem.Spec PyProof.Rows L2
section
variable {P : Program} {w : World} {K : PySem.W.Frag} {mg mb : Str → Option Value} {base : Heap} {exA : Str → Option Addr} {Φ : Nat → Fn}
theorem FnG.mono {j k : Nat} {f : Addr} {fd : FuncData} {ps : List Str} {fn : Fn} (G : FnG P w K mg base exA j f fd ps fn) (h : j ≤ k) : FnG P w K mg base exA k f fd ps fn := ⟨fun A outer s H args us vs Q E hr => G.run A outer s H args us vs Q E (hr.mono h)⟩
/-- the script, as it stands before the law runs: as a datum, alone -/
theorem scr_env {a : Addr} {ns : List Int} {H : Hp} (hS : SqL K H a (ns.map V.int)) : EnvOk K H H [.fz (.list (ns.map PyData.int))] ([V.ref a].map some) := by
  have ra : RpA K H (ns.map V.int) (ns.map PyData.int) := by
    refine ⟨by simp, fun i v d h1 h2 => ?_⟩
    rw [List.getElem?_map] at h1 h2
    cases q : ns[i]? with
    | none => rw [q] at h1; cases h1
    | some n => rw [q] at h1 h2; cases h1; cases h2; exact .int n
  refine ⟨fun _ _ z => z, rfl, fun i sl e n => ?_, fun i j sl tl v w x e1 e2 e3 e4 o1 o2 => ?_⟩
  · cases i with
    | zero => cases e; exact ⟨_, rfl, .lst' hS ra⟩
    | succ i => cases e
  · cases i with
    | zero => cases e1; exact o1.elim
    | succ i => cases e1
/-- the law's call, by what its def is worth -/
theorem law_callG {k : Nat} {fa a : Addr} {fd : FuncData} {x : Str} {fn : Fn} {s1 : Shared} {vs : List Value} {ns : List Int} (KX : K.In s1.heap) (hns : s1.heap.Ns mainGlobals mg) (hb : s1.heap.Ns builtinsNs mb) (hbb : ∀ x : Str, x ≠ "__name__" → mb x = bootBuiltins x)
    (hlim : s1.heap.NoLimit) (hg : s1.gens = #[]) (ha : s1.heap.get? a = some { cls := .type "list", data := .seq vs.toArray }) (hi : IntsAre vs ns) (hl : ns.length ≤ sizeLine) (hr : Room k callerA)
    (G : ∀ base : Heap, K.In base → base.Ns mainGlobals mg → FnG P w K mg base exA k fa fd [x] fn) (hbd : ∀ (s : Shared) (u : Value), BindsTo s fd ⟨[u], []⟩ [(x, u)])
    (hv : ∃ o, fn.run [.fz (.list (ns.map PyData.int))] = .ok (.fz (.bool true), o)) :
    codeAny (model P w) callerA (.call (.ref fa) ⟨[.ref a], []⟩) (fun r s' => r = .ok (.ret (.bool true)) ∧ OldK s1.heap s'.heap ∧ s'.os = s1.os ∧ AllBare s'.gens) s1 := by
  obtain ⟨o0, hv⟩ := hv
  have rv := vals_ints hi
  have core : ∀ H : Hp, Only H → SqL K H a (ns.map V.int) → HOk P w H s1.heap → (∀ b, H b ≠ none → b = a) → (H a ≠ none → K.lookup a = none) →
      codeAny (model P w) callerA (.call (.ref fa) ⟨[.ref a], []⟩) (fun r s' => r = .ok (.ret (.bool true)) ∧ OldK s1.heap s'.heap ∧ s'.os = s1.os ∧ AllBare s'.gens) s1 := by
    intro H only hS hok hA hK
    have ofA : ∀ {b : Addr} {u : HO}, H b = some u → b = a := fun q => hA _ (by rw [q]; simp)
    have noA : ∀ {b : Addr} {o : Obj} {es : Array DictEntry} {ep : Nat}, s1.heap.get? b = some o → o.data = .dict es ep → H b = none := by
      intro b o es ep e d
      cases q : H b with
      | none => rfl
      | some u =>
        cases ofA q
        rw [ha] at e
        cases e
        exact nomatch (show Data.seq vs.toArray _ = Data.dict es ep from d)
    have nsK : ∀ {b : Addr} {m : Str → Option Value}, s1.heap.Ns b m → (hidT s1.heap H).Ns b m := by
      rintro b m ⟨o, es, ep, e, d, r⟩
      exact ⟨o, es, ep, hidT_get e (noA e d), d, r⟩
    have inK : K.In (hidT s1.heap H) := by
      intro b o e
      refine hidT_get (KX b o e) ?_
      cases q : H b with
      | none => rfl
      | some u =>
        cases ofA q
        rw [hK (by rw [q]; simp)] at e
        cases e
    have md : Mod K mg (hidT s1.heap H) := by
      obtain ⟨mc, h1, h2⟩ := hlim
      exact ⟨inK, nsK hns, ⟨mb, nsK hb, hbb⟩, ⟨mc, nsK h1, h2⟩⟩
    have e0 : Env0 P w K mg (hidT s1.heap H) callerA [] s1 H :=
      ⟨rfl, md, fun b o e => of_hidT e, Nat.le_of_eq (hidT_size _ _), trivial, fun b z => absurd (show b ∈ ([] : List Addr) from z) List.not_mem_nil, hok, .of_eq hg⟩
    have sp : spFn K exA fn [V.ref a] H (fun v _ => v = .bl true) fun _ _ _ => False := by
      refine ⟨H, _, scr_env hS, ?_⟩
      rw [hv]
      intro v F' H' E st t
      have t : Rp K F' v (.bool true) := t.ok
      cases t
      rfl
    refine codeAny_mono ((G _ inK (nsK hns)).run callerA [] s1 H ⟨[.ref a], []⟩ [.ref a] [.ref a] _ _ hr rfl e0 (hbd s1 (.ref a)) (.cons rfl .nil) rfl sp) fun r s' h => ?_
    match r, h with
    | .error e, h =>
      obtain ⟨_, _, _, _, _, _, _, _, _, _, _, _, z⟩ := h
      exact z.elim
    | .ok .next, h => exact h.elim
    | .ok .brk, h => exact h.elim
    | .ok .cont, h => exact h.elim
    | .ok (.ret u), h =>
      obtain ⟨v, H', os, bare, un, hok', rel, rfl⟩ := h
      obtain rfl : u = Value.bool true := rel
      refine ⟨rfl, OldK.of_keep fun b o e => ?_, os, bare⟩
      cases q : H b with
      | none => exact un.keep b o e q (by simp [frs]) (by simp)
      | some u =>
        rcases only b with z | ⟨ob, xs, z⟩
        · rw [q] at z; cases z
        · have e1 := (hok b _ z).1
          rw [e] at e1
          cases e1
          exact (hok' b _ (un.frzs b _ _ z)).1
  have lenV := hi.length
  cases hk : K.lookup a with
  | some o =>
    have e := KX a o hk
    rw [ha] at e
    cases e
    refine core (fun _ => none) (fun _ => .inl rfl) (.inr ⟨_, vs.toArray, _, hk, rfl, rfl, rfl, ?_, ?_⟩) (fun b u z => nomatch z) (fun b z => absurd rfl z) fun z => absurd rfl z
    · rw [List.size_toArray, lenV]; exact hl
    · simpa using rv
  | none =>
    refine core (fun b => if b = a then some (.frz { cls := .type "list", data := .seq vs.toArray } (.lst (ns.map V.int))) else none) ?_ ?_ ?_ ?_ fun _ => hk
    · intro b
      by_cases z : b = a
      · exact .inr ⟨_, _, if_pos z⟩
      · exact .inl (if_neg z)
    · exact .inl (.inr ⟨_, if_pos rfl⟩)
    · intro b u z
      by_cases y : b = a
      · have z := (if_pos y).symm.trans z
        cases z
        subst y
        exact ⟨ha, by rw [List.length_map]; exact hl, vs, _, rv, ha⟩
      · have z := (if_neg y).symm.trans z
        cases z
    · intro b z
      by_cases y : b = a
      · exact y
      · exact absurd (if_neg y) z
theorem walkG {l : PySem.W.OpenLaw} {n k : Nat} {q : Program} {loose : List Str} {XP : (Str → Option Value) → Heap → Prop} {YP : World → Heap → Prop} {d : DefRec} {K : Params → PySem.W.Frag} {x : Str} {fn : Fn}
    (hn : l.most = some n) (hn2 : n ≤ sizeLine) (hdf : d.params.defaults = []) (hr : Room k callerA) (hY : ∀ (w : World) (h : Heap), YP w h → (K w.params).In h)
    (G : ∀ (w : World) (mg : Str → Option Value) (fa : Addr) (h : Heap), (K w.params).In h → h.Ns mainGlobals mg → mg d.name = some (.ref fa) → ∃ (exA : Str → Option Addr) (fd : FuncData), (∀ (s : Shared) (u : Value), BindsTo s fd ⟨[u], []⟩ [(x, u)]) ∧
      ∀ base : Heap, (K w.params).In base → base.Ns mainGlobals mg → FnG l.prog w (K w.params) mg base exA k fa fd [x] fn)
    (hv : ∀ ns : List Int, ns.length ≤ n → ∃ o, fn.run [.fz (.list (ns.map PyData.int))] = .ok (.fz (.bool true), o)) : PySem.W.WalkO q loose XP YP l.row.toRowW d [] (fun f vs => PySem.call f vs) := by
  refine Att.attach_call hn hdf fun w s₀ s₁ mg mb fa o pm cd doc a vs ns B Y ho hd hcd hmg hobj hints hlen hg => ?_
  have KX := hY w _ Y
  obtain ⟨exA, fd, hbd, hG⟩ := G w mg fa _ KX B.T.g hmg
  exact law_callG KX B.T.g B.T.b B.T.builtins B.T.nolimit hg hobj hints (Nat.le_trans hlen hn2) hr hG hbd (hv ns hlen)
end
end Vl
set_option maxHeartbeats 4000000
namespace Vl
open PySem PySem.Spec PyProof.Rows L2
/-! classes that are asked for -/
theorem kit_own {K : PySem.W.Frag} {C D : Addr} {b : Bool} (hd : PySem.W.hasDictIn K D = true) (ht : PySem.W.typeIn K (.ref D) = some (.type "type")) (hs : PySem.W.subIn K (.ref C) (.ref D) = some b) (hr : PySem.W.subIn K (.ref C) (.ref C) = some true) : PySem.W.kitOne K (.ref C) (.ref D) = some b := by
  unfold PySem.W.kitOne
  by_cases e : C = D
  · subst e
    rw [hr] at hs
    cases hs
    rw [if_pos (beq_self_eq_true _)]
  · rw [if_neg (by simpa using e)]
    obtain ⟨cd, hc, _⟩ := PySem.W.any_some hd
    show (if ((PySem.W.clsIn K D).isSome && PySem.W.typeIn K (.ref D) == some (.type "type")) = true then PySem.W.subIn K (.ref C) (.ref D) else none) = some b
    rw [if_pos (by rw [hc, ht] <;> rfl)]
    exact hs
theorem kit_val {K : PySem.W.Frag} {C : Addr} (hs : PySem.W.subIn K (.ref C) (.type "ValueError") = some true) : PySem.W.kitOne K (.ref C) (.type "ValueError") = some true := by
  unfold PySem.W.kitOne
  rw [if_neg (by simp)]
  show (if PySem.W.kitMeta "ValueError" = true then PySem.W.subIn K (.ref C) (.type "ValueError") else none) = some true
  rw [if_pos (by decide +kernel)]
  exact hs
/-! def by def -/
def phi (tb : List Fn) (i : Nat) : Fn := (tb[i]?).getD ⟨[], fun _ => .no⟩
section
variable {P : Program} {w : World} {K : PySem.W.Frag} {mg : Str → Option Value} {base : Heap} {exA : Str → Option Addr} {L : Nat}
def Upto (P : Program) (w : World) (K : PySem.W.Frag) (mg : Str → Option Value) (base : Heap) (exA : Str → Option Addr) (L : Nat) (nm : List (Str × Nat)) (tb : List Fn) : Prop := nm.length = tb.length ∧ ∀ (i : Nat) (p : Str × Nat), nm[i]? = some p →
  ∃ f fd ps, mg p.1 = some (.ref f) ∧ PySem.W.keepIn K (.ref f) = true ∧ BindP K fd ps p.2 ∧ FnG P w K mg base exA L f fd ps (phi tb i)
structure Bas (K : PySem.W.Frag) (mg : Str → Option Value) (exA : Str → Option Addr) (bl : List Str) (gs : List (Str × Sum Int Str)) (xs : List Str) (cl : List Str := []) (sq : Bool := false) : Prop where
  bl : ∀ x ∈ bl, mg x = none
  gs : ∀ p ∈ gs, ∃ u, mg p.1 = some u ∧ RelV (match p.2 with | .inl i => V.int i | .inr z => V.str z) u
  ex : ∀ X : Cx, X.K = K → X.mg = mg → ∀ x ∈ xs, ExOk X exA x
  xc : ∀ (c : Str) (C : Addr), exA c = some C → XcOk K mg cl c C := by intro c C h; cases h
  cl : ∀ d ∈ cl, ∃ D : Addr, mg d = some (.ref D) := by intro d h; cases h
  sq : sq = true → mg "isqrt" = some (.builtin "math.isqrt") := by intro h; cases h
theorem Upto.nil : Upto P w K mg base exA L [] [] := ⟨rfl, fun i p h => by simp at h⟩
/-- one more def, however its worth is proved -/
theorem Upto.add {nm : List (Str × Nat)} {tb : List Fn} {name : Str} {f : Addr} {fd : FuncData} {ps : List Str} {an : Nat} {fn : Fn} (U : Upto P w K mg base exA L nm tb) (hm : mg name = some (.ref f)) (kp : PySem.W.keepIn K (.ref f) = true) (hb : BindP K fd ps an) (G : FnG P w K mg base exA (L + 1) f fd ps fn) :
    Upto P w K mg base exA (L + 1) (nm ++ [(name, an)]) (tb ++ [fn]) := by
  refine ⟨by simp [U.1], fun i p h => ?_⟩
  by_cases hi : i < nm.length
  · rw [List.getElem?_append_left hi] at h
    obtain ⟨f', fd', ps', h1, h2, h3, h5⟩ := U.2 i p h
    have e : phi (tb ++ [fn]) i = phi tb i := by
      unfold phi
      rw [List.getElem?_append_left (by rw [← U.1]; exact hi)]
    exact ⟨f', fd', ps', h1, h2, h3, by rw [e]; exact h5.mono (Nat.le_succ _)⟩
  · rw [List.getElem?_append_right (by omega)] at h
    have e0 : i - nm.length = 0 := by
      rcases Nat.eq_zero_or_pos (i - nm.length) with z | z
      · exact z
      · rw [List.getElem?_eq_none (by simp; omega)] at h; cases h
    rw [e0] at h
    cases h
    have ei : i = tb.length := by rw [← U.1]; omega
    have e : phi (tb ++ [fn]) i = fn := by
      unfold phi
      rw [List.getElem?_append_right (by omega), ei, Nat.sub_self]
      rfl
    exact ⟨f, fd, ps, hm, kp, hb, by rw [e]; exact G⟩
/-- a def whose body is proved by hand -/
theorem Upto.hand {nm : List (Str × Nat)} {tb : List Fn} {bl : List Str} {gs : List (Str × Sum Int Str)} {xs cl : List Str} {sq : Bool} {name : Str} {st : Stmt} {f : Addr} {fd : FuncData} {N ps : List Str} {an : Nat} {r : Env' → Res Fl} {Pr : List Nat} (U : Upto P w K mg base exA L nm tb) (B : Bas K mg exA bl gs xs cl sq)
    (F : L2.Fun K name name st f fd) (hm : mg name = some (.ref f)) (hb : BindP K fd ps an) (S : FnScope N ps (defScope st))
    (hB : ∀ (X : Cx) (W : WX), Cok X (tabOf N (defScope st) bl gs nm xs cl sq) (phi tb) exA L W → Frm X → PSs X (defBody st) (tSx X.K exA W Pr r)) {fn : Fn} (hf : fn = mkFn Pr ps.length (N.length - ps.length) r) :
    Upto P w K mg base exA (L + 1) (nm ++ [(name, an)]) (tb ++ [fn]) := by
  subst hf
  have G : FnG P w K mg base exA (L + 1) f fd ps (mkFn Pr ps.length (N.length - ps.length) r) := by
    obtain ⟨⟨oc, od, kV, doc, pm, an, cdv, ct, osl, rfl, lk, hcd⟩, kp⟩ := F
    refine fnG_by lk hcd S ?_ fun X W _ _ _ _ _ C fr => hB X W C fr
    rintro X rfl rfl rfl rfl rfl
    exact ⟨B.bl, B.gs, fun k p h => U.2 k p h, B.ex X rfl rfl, B.xc, B.cl, B.sq⟩
  exact U.add hm F.kp hb G
theorem Upto.step {nm : List (Str × Nat)} {tb : List Fn} {bl : List Str} {gs : List (Str × Sum Int Str)} {xs cl : List Str} {sq : Bool} {name : Str} {st : Stmt} {f : Addr} {fd : FuncData} {N ps : List Str} {an : Nat} {c : CS} {Pr : List Nat} (U : Upto P w K mg base exA L nm tb) (B : Bas K mg exA bl gs xs cl sq)
    (F : L2.Fun K name name st f fd) (hm : mg name = some (.ref f)) (hb : BindP K fd ps an) (S : FnScope N ps (defScope st)) (hc : ckB c (tabOf N (defScope st) bl gs nm xs cl sq) Pr (defBody st) = true) {fn : Fn} (hf : fn = mkFn Pr ps.length (N.length - ps.length) (dS (phi tb) c)) :
    FnG P w K mg base exA (L + 1) f fd ps fn ∧ Upto P w K mg base exA (L + 1) (nm ++ [(name, an)]) (tb ++ [fn]) := by
  subst hf
  have G : FnG P w K mg base exA (L + 1) f fd ps (mkFn Pr ps.length (N.length - ps.length) (dS (phi tb) c)) := by
    obtain ⟨⟨oc, od, kV, doc, pm, an, cdv, ct, osl, rfl, lk, hcd⟩, kp⟩ := F
    refine fnG_of lk hcd S ?_ hc
    rintro X rfl rfl rfl rfl rfl
    exact ⟨B.bl, B.gs, fun k p h => U.2 k p h, B.ex X rfl rfl, B.xc, B.cl, B.sq⟩
  refine ⟨G, by simp [U.1], fun i p h => ?_⟩
  by_cases hi : i < nm.length
  · rw [List.getElem?_append_left hi] at h
    obtain ⟨f', fd', ps', h1, h2, h3, h5⟩ := U.2 i p h
    have e : phi (tb ++ [mkFn Pr ps.length (N.length - ps.length) (dS (phi tb) c)]) i = phi tb i := by
      unfold phi
      rw [List.getElem?_append_left (by rw [← U.1]; exact hi)]
    exact ⟨f', fd', ps', h1, h2, h3, by rw [e]; exact h5.mono (Nat.le_succ _)⟩
  · rw [List.getElem?_append_right (by omega)] at h
    have e0 : i - nm.length = 0 := by
      rcases Nat.eq_zero_or_pos (i - nm.length) with z | z
      · exact z
      · rw [List.getElem?_eq_none (by simp; omega)] at h; cases h
    rw [e0] at h
    cases h
    have ei : i = tb.length := by rw [← U.1]; omega
    have e : phi (tb ++ [mkFn Pr ps.length (N.length - ps.length) (dS (phi tb) c)]) i = mkFn Pr ps.length (N.length - ps.length) (dS (phi tb) c) := by
      unfold phi
      rw [List.getElem?_append_right (by omega), ei, Nat.sub_self]
      rfl
    exact ⟨f, fd, ps, hm, F.kp, hb, by rw [e]; exact G⟩
/-- a def with one argument and the keyword rounds -/
theorem fun_kw {name q : Str} {st : Stmt} {f : Addr} {fd : FuncData} {r : Str} (F : L2.Fun K name q st f fd) (h : ∀ (kV doc pm : Value) (an : Option Addr) (cdv ct : Value) (u w : Value), bindArgs (PySem.W.fnOf name q (defArgs st) (defBody st) (defScope st) .none kV doc pm an cdv ct) ⟨[u], [("rounds", w)]⟩ = pure [(r, u), ("rounds", w)]) :
    BindP K fd [r, "rounds"] 1002 := by
  obtain ⟨⟨oc, od, kV, doc, pm, an, cdv, ct, osl, rfl, lk, hcd⟩, kp⟩ := F
  unfold BindP
  rw [if_pos rfl]
  exact ⟨r, rfl, fun s u w _ => .of_eq (h kV doc pm an cdv ct u w)⟩
end
end Vl
set_option maxHeartbeats 4000000
namespace Vl
open PySem PySem.Spec PyProof.Rows L2
/-! what the operations are worth on ints -/
section
variable (i j : Int)
theorem q_lt : cmpD .lt (.int i) (.int j) = some (decide (i < j)) := rfl
theorem q_le : cmpD .le (.int i) (.int j) = some (decide (i ≤ j)) := rfl
theorem q_gt : cmpD .gt (.int i) (.int j) = some (decide (j < i)) := rfl
theorem q_ge : cmpD .ge (.int i) (.int j) = some (decide (j ≤ i)) := rfl
theorem eq_ii : eqD (.int i) (.int j) = some (decide (i = j)) := by
  show some (PyData.eqv (.int i) (.int j)) = _
  rfl
theorem q_eq : cmpD .eq (.int i) (.int j) = some (decide (i = j)) := eq_ii i j
theorem q_ne : cmpD .ne (.int i) (.int j) = some (!decide (i = j)) := by
  show (eqD (.int i) (.int j)).map (!·) = _
  rw [eq_ii]; rfl
theorem q_add : opD .add (.int i) (.int j) = some (.fz (.int (i + j))) := rfl
theorem q_sub : opD .sub (.int i) (.int j) = some (.fz (.int (i - j))) := rfl
theorem q_mul (h : wide i = true) : opD .mul (.int i) (.int j) = some (.fz (.int (i * j))) := by
  show (if wide i || wide j || decide (i.natAbs.log2 + j.natAbs.log2 < 1000000) then some (Sl.fz (.int (i * j))) else none) = _
  rw [h]; rfl
theorem q_mul' (h : wide j = true) : opD .mul (.int i) (.int j) = some (.fz (.int (i * j))) := by
  show (if wide i || wide j || decide (i.natAbs.log2 + j.natAbs.log2 < 1000000) then some (Sl.fz (.int (i * j))) else none) = _
  rw [h, Bool.or_true]; rfl
theorem q_div (h : 0 < j) (h2 : j < 2 ^ 64) : opD .fdiv (.int i) (.int j) = some (.fz (.int (i / j))) := by
  show (if cDiv i j then some (Sl.fz (.int (i / j))) else none) = _
  have : cDiv i j = true := by
    refine decide_eq_true ⟨h, ?_⟩
    have h3 : j.natAbs < 2 ^ 64 := by omega
    have : j.natAbs.log2 < 64 := (Nat.log2_lt (by omega)).mpr h3
    omega
  rw [this]; rfl
theorem q_mod (h : 0 < j) : opD .mod (.int i) (.int j) = some (.fz (.int (i % j))) := by
  show (if cMod i j then some (Sl.fz (.int (i % j))) else none) = _
  have : cMod i j = true := decide_eq_true h
  rw [this]; rfl
theorem b_max : b2D .max (.int i) (.int j) = some (.fz (.int (if j > i then j else i))) := rfl
theorem b_min : b2D .min (.int i) (.int j) = some (.fz (.int (if j < i then j else i))) := rfl
theorem q_shift : opD .pow (.int 10) (.int 18) = some (.fz (.int 1000000000000000000)) := rfl
theorem q_rep (ds : List PyData) (k : Int) (h0 : 0 ≤ k) (h1 : ds.length * k.toNat ≤ 16777216) (h2 : k < 2 ^ 63) : opD .mul (.list ds) (.int k) = some (.ol (List.replicate k.toNat ds).flatten) := by
  show (if -(2 ^ 63) ≤ k ∧ k < 2 ^ 63 ∧ ds.length * k.toNat ≤ line then some (Sl.ol (List.replicate k.toNat ds).flatten) else none) = _
  rw [if_pos ⟨by omega, h2, h1⟩]
theorem q_cat (as bs : List PyData) (h : as.length + bs.length ≤ 16777216) : opD .add (.list as) (.list bs) = some (.ol (as ++ bs)) := by
  show (fitL (as ++ bs)).map Sl.ol = _
  unfold fitL
  rw [if_pos (by rw [List.length_append]; exact h)]
  rfl
theorem rep_one (x : PyData) (k : Nat) : (List.replicate k [x]).flatten = List.replicate k x := by
  induction k with
  | zero => rfl
  | succ k ih => rw [List.replicate_succ, List.replicate_succ, List.flatten_cons, ih]; rfl
theorem ints_of : ∀ ns : List Int, intsD (ns.map PyData.int) = some ns
  | [] => rfl
  | n :: r => by
    show (intsD (r.map PyData.int)).map (n :: ·) = _
    rw [ints_of r]; rfl
section
variable (ds : List PyData)
theorem b_lent : b1D .len (.tuple ds) = some (.fz (.int (ds.length : Nat))) := rfl
theorem b_lenl : b1D .len (.list ds) = some (.fz (.int (ds.length : Nat))) := rfl
theorem b_tupl : b1D .tuple (.list ds) = some (.fz (.tuple ds)) := rfl
theorem b_tupt : b1D .tuple (.tuple ds) = some (.fz (.tuple ds)) := rfl
theorem b_lstl : b1D .list (.list ds) = some (.ol ds) := rfl
theorem b_lstt : b1D .list (.tuple ds) = some (.ol ds) := rfl
theorem b_suml (ns : List Int) : b1D .sum (.list (ns.map .int)) = some (.fz (.int ns.sum)) := by
  show (intsD (ns.map PyData.int)).map (fun ns => Sl.fz (.int ns.sum)) = _
  rw [ints_of]; rfl
theorem b_sumt (ns : List Int) : b1D .sum (.tuple (ns.map .int)) = some (.fz (.int ns.sum)) := by
  show (intsD (ns.map PyData.int)).map (fun ns => Sl.fz (.int ns.sum)) = _
  rw [ints_of]; rfl
end
end
end Vl
set_option maxHeartbeats 4000000
set_option exponentiation.threshold 4000
namespace Vl
open PySem PySem.Spec PyProof.Rows L2
/-! how long a repr is -/
theorem piled_le {b : Nat} : ∀ {ts : List Str}, (∀ t ∈ ts, t.length ≤ b) → piled ts ≤ ts.length * (b + 2)
  | [], _ => Nat.zero_le _
  | t :: r, h => by
    have h1 := h t List.mem_cons_self
    have h2 := piled_le (ts := r) fun x hx => h x (List.mem_cons_of_mem _ hx)
    rw [piled_cons, List.length_cons, Nat.add_mul]
    omega
theorem tup_text_le {b : Nat} {ts : List Str} (h : ∀ t ∈ ts, t.length ≤ b) : (tupleText ts).length ≤ ts.length * (b + 2) + 3 := by
  have hp := piled_le h
  have e : (tupleText ts).length = 1 + (Str.join ", " ts).length + (if ts.length == 1 then 2 else 1) := by
    unfold tupleText
    rw [strLen_append, strLen_append]
    split <;> rfl
  by_cases hz : ts = []
  · subst hz
    rw [e]
    show 1 + 0 + 1 ≤ _
    omega
  · have := join_length_add ts hz
    rw [e]
    split <;> omega
theorem text_from_le {b : Nat} : ∀ {ts : List Str} {k : Nat} {acc : Str}, (∀ t ∈ ts, t.length ≤ b) → (textFrom k acc ts).length ≤ acc.length + ts.length * (b + 2)
  | [], k, acc, _ => by show acc.length ≤ _; omega
  | t :: r, k, acc, h => by
    have h1 := h t List.mem_cons_self
    have h2 := text_from_le (ts := r) (k := k + 1) (acc := acc ++ (if k > 0 then ", " else "" : String) ++ t) fun x hx => h x (List.mem_cons_of_mem _ hx)
    have e : (acc ++ (if k > 0 then ", " else "" : String) ++ t).length ≤ acc.length + 2 + t.length := by
      rw [strLen_append, strLen_append]
      have : ((if k > 0 then ", " else "" : String) : Str).length ≤ 2 := by split <;> decide
      omega
    have h3 : (textFrom k acc (t :: r)).length = (textFrom (k + 1) (acc ++ (if k > 0 then ", " else "" : String) ++ t) r).length := rfl
    rw [h3, List.length_cons, Nat.add_mul]
    omega
theorem lst_text_le {b : Nat} {ts : List Str} (h : ∀ t ∈ ts, t.length ≤ b) : (listText ts).length ≤ ts.length * (b + 2) + 2 := by
  have := text_from_le (k := 0) (acc := "[") h
  unfold listText
  rw [strLen_append]
  have e1 : (("[" : String) : Str).length = 1 := rfl
  have e2 : (("]" : String) : Str).length = 1 := rfl
  omega
theorem shownAll_map : ∀ ds : List PyData, PyData.shownAll ds = ds.map PyData.shown
  | [] => rfl
  | d :: r => by
    show PyData.shown d :: PyData.shownAll r = _
    rw [shownAll_map r]; rfl
theorem tup_shown {b : Nat} {ds : List PyData} (h : ∀ d ∈ ds, d.shown.length ≤ b) : (PyData.shown (.tuple ds)).length ≤ ds.length * (b + 2) + 3 := by
  show (tupleText (PyData.shownAll ds)).length ≤ _
  rw [shownAll_map]
  have := tup_text_le (b := b) (ts := ds.map PyData.shown) fun t ht => by
    obtain ⟨d, hd, rfl⟩ := List.mem_map.mp ht
    exact h d hd
  rw [List.length_map] at this
  exact this
theorem lst_shown {b : Nat} {ds : List PyData} (h : ∀ d ∈ ds, d.shown.length ≤ b) : (PyData.shown (.list ds)).length ≤ ds.length * (b + 2) + 2 := by
  show (listText (PyData.shownAll ds)).length ≤ _
  rw [shownAll_map]
  have := lst_text_le (b := b) (ts := ds.map PyData.shown) fun t ht => by
    obtain ⟨d, hd, rfl⟩ := List.mem_map.mp ht
    exact h d hd
  rw [List.length_map] at this
  exact this
theorem int_shown {i : Int} (h : i.natAbs < 10 ^ 70) : (PyData.shown (.int i)).length ≤ 71 := by
  show (Str.ofString (toString i)).length ≤ 71
  rw [PySem.ofString_length]
  exact int_text_length_le10 (by decide) h
/-- a plain thing with a short repr -/
structure Small (d : PyData) : Prop where
  sh : d.showable = true
  fl : flatD d = true
  cl : d.canLay0 = true
  ln : d.shown.length ≤ 71
theorem Small.int {i : Int} (h : i.natAbs < 10 ^ 70) : Small (.int i) := by
  refine ⟨?_, rfl, rfl, int_shown h⟩
  show decide (i.natAbs.log2 < 1920) = true
  refine decide_eq_true ?_
  by_cases z : i.natAbs = 0
  · rw [z]; decide
  · exact (Nat.log2_lt z).mpr (Nat.lt_of_lt_of_le h (by decide))
theorem depth_flat {d : PyData} (h : flatD d = true) : d.depth = 0 := by cases d <;> first | rfl | cases h
theorem all_small : ∀ {ds : List PyData}, (∀ d ∈ ds, Small d) → PyData.showableAll ds = true ∧ PyData.canLayAll0 ds = true ∧ PyData.depthAll ds = 0
  | [], _ => ⟨rfl, rfl, rfl⟩
  | d :: r, h => by
    obtain ⟨h1, h2, h3⟩ := all_small (ds := r) fun x hx => h x (List.mem_cons_of_mem _ hx)
    have s := h d List.mem_cons_self
    refine ⟨?_, ?_, ?_⟩
    · show (d.showable && PyData.showableAll r) = true
      rw [s.sh, h1]; rfl
    · simp only [PyData.canLayAll0, s.cl, h2]; rfl
    · show max d.depth (PyData.depthAll r) = 0
      rw [depth_flat s.fl, h3]; rfl
/-- repr is served -/
def RepGood (d : PyData) : Prop := b1D .rep d = some (.fz (.str d.shown))
theorem repGood {d : PyData} (h1 : d.showable = true) (h2 : repOk d = true) (h3 : d.depth ≤ 64) (h4 : d.shown.length ≤ 16777216) : RepGood d := by
  have e : b1D .rep d = if d.showable && repOk d && decide (d.depth ≤ 64) && decide (d.shown.length ≤ line) then some (.fz (.str d.shown)) else none := by cases d <;> rfl
  show b1D .rep d = _
  rw [e, h1, h2, decide_eq_true h3, decide_eq_true (show d.shown.length ≤ line from h4)]
  rfl
theorem Small.good {d : PyData} (s : Small d) : RepGood d := repGood s.sh (by unfold repOk; rw [s.cl]; rfl) (by rw [depth_flat s.fl]; decide) (Nat.le_trans s.ln (by decide))
theorem tup_good {ds : List PyData} (h : ∀ d ∈ ds, Small d) (hz : ds.length ≤ 200000) : RepGood (.tuple ds) := by
  obtain ⟨h1, h2, h3⟩ := all_small h
  refine repGood h1 ?_ ?_ (Nat.le_trans (tup_shown fun d hd => (h d hd).ln) (by omega))
  · have : PyData.canLay0 (.tuple ds) = true := by simpa [PyData.canLay0] using h2
    unfold repOk
    rw [this]; rfl
  · show PyData.depthAll ds + 1 ≤ 64
    rw [h3]; decide
theorem lst_good {ds : List PyData} (h : ∀ d ∈ ds, Small d) (hz : ds.length ≤ 200000) : RepGood (.list ds) := by
  obtain ⟨h1, h2, h3⟩ := all_small h
  refine repGood h1 ?_ ?_ (Nat.le_trans (lst_shown fun d hd => (h d hd).ln) (by omega))
  · have : PyData.canLay0 (.list ds) = true := by simpa [PyData.canLay0] using h2
    unfold repOk
    rw [this]; rfl
  · show PyData.depthAll ds + 1 ≤ 64
    rw [h3]; decide
end Vl
set_option maxHeartbeats 4000000
namespace Vl
open PySem PySem.Spec PyProof.Rows L2
theorem sok_of (s : String) : PyData.strOk (Str.ofString s) = true := by
  rw [Str.ofString_eq_toList]
  unfold PyData.strOk
  rw [← Array.all_toList, List.all_eq_true]
  intro c hc
  obtain ⟨ch, _, rfl⟩ := List.mem_map.mp (show c ∈ s.toList.map Char.toNat from hc)
  have := ch.valid
  refine decide_eq_true ?_
  rcases this with h | h
  · exact Nat.lt_trans h (by decide)
  · exact h.2
theorem sok_app {x y : Str} (h1 : PyData.strOk x = true) (h2 : PyData.strOk y = true) : PyData.strOk (x ++ y) = true := by
  unfold PyData.strOk at *
  rw [← Array.all_toList] at *
  rw [Str.cps_append, Array.toList_append, List.all_append, h1, h2]
  rfl
theorem str_good {x : Str} (h : PyData.strOk x = true) (hz : x.length ≤ 100000) : RepGood (.str x) := by
  refine repGood rfl ?_ (Nat.zero_le _) ?_
  · have : PyData.canLay0 (.str x) = true := by simpa [PyData.canLay0] using h
    unfold repOk
    rw [this]; rfl
  · have hx : ∀ c ∈ x.cps.toList, c < 16 ^ 8 := by
      unfold PyData.strOk at h
      rw [← Array.all_toList, List.all_eq_true] at h
      intro c hc
      exact Nat.lt_trans (of_decide_eq_true (h c hc)) (by decide)
    exact Nat.le_trans (StrLaws.reprText_len x hx) (by omega)
theorem sok_join {a : Str} (h0 : PyData.strOk a = true) : ∀ {ys : List Str}, (∀ y ∈ ys, PyData.strOk y = true) → PyData.strOk (Str.join a ys) = true
  | [], _ => (by simp [PyData.strOk, Str.empty] : PyData.strOk Str.empty = true)
  | [y], h => h y List.mem_cons_self
  | y :: z :: r, h => sok_app (sok_app (h y List.mem_cons_self) h0) (sok_join h0 fun x hx => h x (List.mem_cons_of_mem _ hx))
/-- a joined text's length -/
theorem join_len (a : Str) (ys : List Str) : (Txt.join a ys).length = (ys.map (·.length)).sum + (ys.length - 1) * a.length := by
  unfold Txt.join
  open PySem.StrLaws PySem.Builtin.Str in exact size_glued a ys
end Vl
set_option maxHeartbeats 200000
namespace Rm
/-! runs: (number, length) -/
def rleA (x k : Int) : List Int → List (Int × Int)
  | [] => [(x, k)]
  | y :: r => if y = x then rleA x (k + 1) r else (x, k) :: rleA y 1 r
def rle : List Int → List (Int × Int)
  | [] => []
  | x :: r => rleA x 1 r
def flat (l : List (Int × Int)) : List Int := (l.map fun p => List.replicate p.2.toNat p.1).flatten
theorem flat_cons (p : Int × Int) (l : List (Int × Int)) : flat (p :: l) = List.replicate p.2.toNat p.1 ++ flat l := rfl
theorem flat_rleA : ∀ (ns : List Int) (x k : Int), 0 ≤ k → flat (rleA x k ns) = List.replicate k.toNat x ++ ns
  | [], x, k, h => by
    show List.replicate k.toNat x ++ [] = _
    rfl
  | y :: r, x, k, h => by
    unfold rleA
    by_cases e : y = x
    · rw [if_pos e, flat_rleA r x (k + 1) (by omega)]
      subst e
      have : (k + 1).toNat = k.toNat + 1 := by omega
      rw [this, List.replicate_succ', List.append_assoc]
      rfl
    · rw [if_neg e, flat_cons, flat_rleA r y 1 (by decide)]
      rfl
theorem flat_rle (ns : List Int) : flat (rle ns) = ns := by
  cases ns with
  | nil => rfl
  | cons x r =>
    show flat (rleA x 1 r) = _
    rw [flat_rleA r x 1 (by decide)]
    rfl
theorem pos_rleA : ∀ (ns : List Int) (x k : Int), 1 ≤ k → ∀ p ∈ rleA x k ns, 1 ≤ p.2
  | [], x, k, h, p, hp => by
    have := List.mem_singleton.mp hp
    subst this
    exact h
  | y :: r, x, k, h, p, hp => by
    unfold rleA at hp
    by_cases e : y = x
    · rw [if_pos e] at hp
      exact pos_rleA r x (k + 1) (by omega) p hp
    · rw [if_neg e] at hp
      rcases List.mem_cons.mp hp with z | z
      · subst z; exact h
      · exact pos_rleA r y 1 (by decide) p z
theorem pos_rle (ns : List Int) : ∀ p ∈ rle ns, 1 ≤ p.2 := by
  cases ns with
  | nil => intro p hp; cases hp
  | cons x r => exact pos_rleA r x 1 (by decide)
/-- equal numbers side by side joined, their lengths added -/
def mrgA (x k : Int) : List (Int × Int) → List (Int × Int)
  | [] => [(x, k)]
  | (y, m) :: r => if y = x then mrgA x (k + m) r else (x, k) :: mrgA y m r
def mrg : List (Int × Int) → List (Int × Int)
  | [] => []
  | (x, k) :: r => mrgA x k r
def swp (l : List (Int × Int)) : List (Int × Int) := l.map fun p => (p.2, p.1)
/-- one round, on runs -/
def trn (l : List (Int × Int)) : List (Int × Int) := mrg (swp l)
def Pos (l : List (Int × Int)) : Prop := ∀ p ∈ l, 1 ≤ p.1 ∧ 1 ≤ p.2
/-- neighbours have different numbers -/
def red : List (Int × Int) → Bool
  | [] => true
  | [_] => true
  | p :: q :: r => decide (p.1 ≠ q.1) && red (q :: r)
/-- neighbours have different lengths -/
def calm (l : List (Int × Int)) : Bool := red (swp l)
def area (l : List (Int × Int)) : Int := (l.map fun p => p.1 * p.2).sum
theorem rle_rep (x y : Int) : ∀ (n : Nat) (k : Int) (r : List Int), rleA x k (List.replicate n x ++ r) = rleA x (k + n) r
  | 0, k, r => by simp
  | n + 1, k, r => by
    rw [List.replicate_succ]
    show (if x = x then rleA x (k + 1) (List.replicate n x ++ r) else _) = _
    rw [if_pos rfl, rle_rep x y n (k + 1) r]
    congr 1
    omega
theorem rleA_flat : ∀ (l : List (Int × Int)) (x k : Int), (∀ p ∈ l, 1 ≤ p.2) → rleA x k (flat l) = mrgA x k l
  | [], x, k, h => rfl
  | (y, m) :: r, x, k, h => by
    have hm : 1 ≤ m := h (y, m) List.mem_cons_self
    have hr : ∀ p ∈ r, 1 ≤ p.2 := fun p hp => h p (List.mem_cons_of_mem _ hp)
    rw [flat_cons]
    show rleA x k (List.replicate m.toNat y ++ flat r) = _
    unfold mrgA
    by_cases e : y = x
    · subst e
      rw [if_pos rfl, rle_rep y 0, rleA_flat r y _ hr]
      congr 1
      omega
    · rw [if_neg e]
      obtain ⟨n, hn⟩ : ∃ n : Nat, m.toNat = n + 1 := ⟨m.toNat - 1, by omega⟩
      rw [hn, List.replicate_succ]
      show (if y = x then _ else (x, k) :: rleA y 1 (List.replicate n y ++ flat r)) = _
      rw [if_neg e, rle_rep y 0, rleA_flat r y _ hr]
      congr 2
      omega
theorem rle_flat (l : List (Int × Int)) (h : ∀ p ∈ l, 1 ≤ p.2) : rle (flat l) = mrg l := by
  cases l with
  | nil => rfl
  | cons p r =>
    obtain ⟨y, m⟩ := p
    have hm : 1 ≤ m := h (y, m) List.mem_cons_self
    have hr : ∀ p ∈ r, 1 ≤ p.2 := fun p hp => h p (List.mem_cons_of_mem _ hp)
    rw [flat_cons]
    obtain ⟨n, hn⟩ : ∃ n : Nat, m.toNat = n + 1 := ⟨m.toNat - 1, by omega⟩
    show rle (List.replicate m.toNat y ++ flat r) = mrgA y m r
    rw [hn, List.replicate_succ]
    show rleA y 1 (List.replicate n y ++ flat r) = _
    rw [rle_rep y 0, rleA_flat r y _ hr]
    congr 1
    omega
/-! what stays -/
theorem red_mrgA : ∀ (l : List (Int × Int)) (x k : Int), red (mrgA x k l) = true ∧ ∃ k' r, mrgA x k l = (x, k') :: r
  | [], x, k => ⟨rfl, k, [], rfl⟩
  | (y, m) :: r, x, k => by
    unfold mrgA
    by_cases e : y = x
    · rw [if_pos e]; exact red_mrgA r x (k + m)
    · rw [if_neg e]
      obtain ⟨h1, k', r', h2⟩ := red_mrgA r y m
      refine ⟨?_, k, _, rfl⟩
      rw [h2] at h1 ⊢
      show (decide (x ≠ y) && red ((y, k') :: r')) = true
      rw [h1, decide_eq_true (show x ≠ y from fun z => e z.symm)]
      rfl
theorem red_mrg (l : List (Int × Int)) : red (mrg l) = true := by
  cases l with
  | nil => rfl
  | cons p r => exact (red_mrgA r p.1 p.2).1
theorem mrgA_red : ∀ (l : List (Int × Int)) (x k : Int), red ((x, k) :: l) = true → mrgA x k l = (x, k) :: l
  | [], x, k, _ => rfl
  | (y, m) :: r, x, k, h => by
    have h : (decide (x ≠ y) && red ((y, m) :: r)) = true := h
    rw [Bool.and_eq_true, decide_eq_true_eq] at h
    unfold mrgA
    rw [if_neg (fun z => h.1 z.symm), mrgA_red r y m h.2]
theorem mrg_red {l : List (Int × Int)} (h : red l = true) : mrg l = l := by
  cases l with
  | nil => rfl
  | cons p r => exact mrgA_red r p.1 p.2 h
theorem len_mrgA : ∀ (l : List (Int × Int)) (x k : Int), (mrgA x k l).length ≤ l.length + 1 ∧ (red ((x, k) :: l) = false → (mrgA x k l).length ≤ l.length)
  | [], x, k => ⟨Nat.le_refl _, fun h => by cases h⟩
  | (y, m) :: r, x, k => by
    unfold mrgA
    obtain ⟨h1, h2⟩ := len_mrgA r x (k + m)
    obtain ⟨h3, h4⟩ := len_mrgA r y m
    by_cases e : y = x
    · rw [if_pos e]
      exact ⟨by rw [List.length_cons]; omega, fun _ => by rw [List.length_cons]; omega⟩
    · rw [if_neg e]
      refine ⟨by rw [List.length_cons, List.length_cons]; omega, fun h => ?_⟩
      have h : (decide (x ≠ y) && red ((y, m) :: r)) = false := h
      rw [decide_eq_true (show x ≠ y from fun z => e z.symm), Bool.true_and] at h
      have := h4 h
      rw [List.length_cons, List.length_cons]
      omega
theorem swp_len (l : List (Int × Int)) : (swp l).length = l.length := List.length_map _
theorem swp_swp (l : List (Int × Int)) : swp (swp l) = l := by
  unfold swp
  rw [List.map_map]
  exact List.map_id' l
theorem len_trn (l : List (Int × Int)) : (trn l).length ≤ l.length := by
  cases l with
  | nil => exact Nat.le_refl _
  | cons p r =>
    have := (len_mrgA (swp r) p.2 p.1).1
    rw [swp_len] at this
    exact this
theorem len_trn_lt {l : List (Int × Int)} (h : calm l = false) : (trn l).length < l.length := by
  cases l with
  | nil => cases h
  | cons p r =>
    have := (len_mrgA (swp r) p.2 p.1).2 h
    rw [swp_len] at this
    exact Nat.lt_succ_of_le this
theorem red_trn (l : List (Int × Int)) : red (trn l) = true := red_mrg _
theorem trn_calm {l : List (Int × Int)} (h : calm l = true) : trn l = swp l := mrg_red h
theorem calm_trn {l : List (Int × Int)} (h : calm l = true) (hr : red l = true) : calm (trn l) = true := by
  unfold calm
  rw [trn_calm h, swp_swp]
  exact hr
theorem trn_trn {l : List (Int × Int)} (h : calm l = true) (hr : red l = true) : trn (trn l) = l := by
  rw [trn_calm (calm_trn h hr), trn_calm h, swp_swp]
theorem pos_mrgA : ∀ (l : List (Int × Int)) (x k : Int), 1 ≤ x → 1 ≤ k → Pos l → Pos (mrgA x k l)
  | [], x, k, h1, h2, _ => fun p hp => by rw [List.mem_singleton.mp hp]; exact ⟨h1, h2⟩
  | (y, m) :: r, x, k, h1, h2, h => by
    obtain ⟨hy, hm⟩ : 1 ≤ y ∧ 1 ≤ m := h (y, m) List.mem_cons_self
    have hr : Pos r := fun p hp => h p (List.mem_cons_of_mem _ hp)
    unfold mrgA
    by_cases e : y = x
    · rw [if_pos e]; exact pos_mrgA r x (k + m) h1 (by omega) hr
    · rw [if_neg e]
      intro p hp
      rcases List.mem_cons.mp hp with rfl | hp
      · exact ⟨h1, h2⟩
      · exact pos_mrgA r y m hy hm hr p hp
theorem pos_swp {l : List (Int × Int)} (h : Pos l) : Pos (swp l) := fun p hp => by
  obtain ⟨q, hq, rfl⟩ := List.mem_map.mp hp
  exact ⟨(h q hq).2, (h q hq).1⟩
theorem pos_trn {l : List (Int × Int)} (h : Pos l) : Pos (trn l) := by
  have h := pos_swp h
  unfold trn
  cases hs : swp l with
  | nil => intro p hp; cases hp
  | cons p r =>
    rw [hs] at h
    exact pos_mrgA r p.1 p.2 (h p List.mem_cons_self).1 (h p List.mem_cons_self).2 fun q hq => h q (List.mem_cons_of_mem _ hq)
theorem area_cons (p : Int × Int) (l : List (Int × Int)) : area (p :: l) = p.1 * p.2 + area l := by
  unfold area
  rw [List.map_cons, List.sum_cons]
theorem area_mrgA : ∀ (l : List (Int × Int)) (x k : Int), area (mrgA x k l) = x * k + area l
  | [], x, k => area_cons _ _
  | (y, m) :: r, x, k => by
    unfold mrgA
    by_cases e : y = x
    · rw [if_pos e, area_mrgA r x (k + m), area_cons, Int.mul_add, e]
      show _ = x * k + (x * m + area r)
      omega
    · rw [if_neg e, area_cons, area_mrgA r y m, area_cons]
theorem area_swp (l : List (Int × Int)) : area (swp l) = area l := by
  unfold area swp
  rw [List.map_map]
  congr 1
  apply List.map_congr_left
  intro p _
  exact Int.mul_comm _ _
theorem area_trn (l : List (Int × Int)) : area (trn l) = area l := by
  rw [← area_swp l]
  unfold trn
  cases swp l with
  | nil => rfl
  | cons p r =>
    show area (mrgA p.1 p.2 r) = _
    rw [area_mrgA, area_cons]
theorem trn_ne {l : List (Int × Int)} (h : l ≠ []) : trn l ≠ [] := by
  cases l with
  | nil => exact absurd rfl h
  | cons p r =>
    obtain ⟨_, k', r', e⟩ := red_mrgA (swp r) p.2 p.1
    show mrgA p.2 p.1 (swp r) ≠ []
    rw [e]
    exact List.cons_ne_nil _ _
theorem sum_rep (x : Int) : ∀ k : Nat, (List.replicate k x).sum = x * k
  | 0 => by simp
  | k + 1 => by
    rw [List.replicate_succ, List.sum_cons, sum_rep x k, Int.natCast_add, Int.mul_add]
    omega
theorem sum_flat : ∀ (l : List (Int × Int)), (∀ p ∈ l, 1 ≤ p.2) → (flat l).sum = area l
  | [], _ => rfl
  | p :: l, h => by
    have hp := h p List.mem_cons_self
    rw [flat_cons, List.sum_append, sum_rep, sum_flat l fun q hq => h q (List.mem_cons_of_mem _ hq), area_cons]
    congr 2
    omega
theorem mem_flat : ∀ (l : List (Int × Int)), (∀ p ∈ l, 1 ≤ p.1) → ∀ n ∈ flat l, 1 ≤ n
  | [], _, n, hn => by cases hn
  | p :: l, h, n, hn => by
    rw [flat_cons] at hn
    rcases List.mem_append.mp hn with hn | hn
    · rw [(List.mem_replicate.mp hn).2]; exact h p List.mem_cons_self
    · exact mem_flat l (fun q hq => h q (List.mem_cons_of_mem _ hq)) n hn
theorem num_rleA : ∀ (ns : List Int) (x k : Int), 1 ≤ x → (∀ n ∈ ns, 1 ≤ n) → ∀ p ∈ rleA x k ns, 1 ≤ p.1
  | [], x, k, h, _, p, hp => by rw [List.mem_singleton.mp hp]; exact h
  | y :: r, x, k, h, hn, p, hp => by
    unfold rleA at hp
    by_cases e : y = x
    · rw [if_pos e] at hp
      exact num_rleA r x (k + 1) h (fun n hn' => hn n (List.mem_cons_of_mem _ hn')) p hp
    · rw [if_neg e] at hp
      rcases List.mem_cons.mp hp with z | z
      · subst z; exact h
      · exact num_rleA r y 1 (hn y List.mem_cons_self) (fun n hn' => hn n (List.mem_cons_of_mem _ hn')) p z
theorem rle_pos {ns : List Int} (h : ∀ n ∈ ns, 1 ≤ n) : Pos (rle ns) := by
  cases ns with
  | nil => intro p hp; cases hp
  | cons x r => exact fun p hp => ⟨num_rleA r x 1 (h x List.mem_cons_self) (fun n hn => h n (List.mem_cons_of_mem _ hn)) p hp, pos_rleA r x 1 (by decide) p hp⟩
theorem red_rleA : ∀ (ns : List Int) (x k : Int), red (rleA x k ns) = true ∧ ∃ k' r, rleA x k ns = (x, k') :: r
  | [], x, k => ⟨rfl, k, [], rfl⟩
  | y :: r, x, k => by
    unfold rleA
    by_cases e : y = x
    · rw [if_pos e]; exact red_rleA r x (k + 1)
    · rw [if_neg e]
      obtain ⟨h1, k', r', h2⟩ := red_rleA r y 1
      refine ⟨?_, k, _, rfl⟩
      rw [h2] at h1 ⊢
      show (decide (x ≠ y) && red ((y, k') :: r')) = true
      rw [h1, decide_eq_true (show x ≠ y from fun z => e z.symm)]
      rfl
theorem red_rle (ns : List Int) : red (rle ns) = true := by
  cases ns with
  | nil => rfl
  | cons x r => exact (red_rleA r x 1).1
theorem rle_flat_red {l : List (Int × Int)} (h : ∀ p ∈ l, 1 ≤ p.2) (hr : red l = true) : rle (flat l) = l := by rw [rle_flat l h, mrg_red hr]
theorem flat_inj {l m : List (Int × Int)} (hl : Pos l) (hm : Pos m) (rl : red l = true) (rm : red m = true) (e : flat l = flat m) : l = m := by
  rw [← rle_flat_red (fun p hp => (hl p hp).2) rl, ← rle_flat_red (fun p hp => (hm p hp).2) rm, e]
/-- one round, on rows -/
def rnd (ns : List Int) : List Int := flat (swp (rle ns))
theorem rle_rnd {ns : List Int} (h : ∀ n ∈ ns, 1 ≤ n) : rle (rnd ns) = trn (rle ns) := rle_flat _ fun p hp => (pos_swp (rle_pos h) p hp).2
theorem rnd_pos {ns : List Int} (h : ∀ n ∈ ns, 1 ≤ n) : ∀ n ∈ rnd ns, 1 ≤ n := mem_flat _ fun p hp => (pos_swp (rle_pos h) p hp).1
theorem rnd_sum {ns : List Int} (h : ∀ n ∈ ns, 1 ≤ n) : (rnd ns).sum = ns.sum := by
  unfold rnd
  rw [sum_flat _ fun p hp => (pos_swp (rle_pos h) p hp).2, area_swp, ← sum_flat _ fun p hp => (rle_pos h p hp).2, flat_rle]
theorem rnd_flat {l : List (Int × Int)} (h : Pos l) (hr : red l = true) : rnd (flat l) = flat (trn l) := by
  have e : rle (flat l) = l := rle_flat_red (fun p hp => (h p hp).2) hr
  have e2 := rle_rnd (ns := flat l) (mem_flat l fun p hp => (h p hp).1)
  rw [e] at e2
  rw [← e2, flat_rle]
/-! how many rounds -/
def trnN : Nat → List (Int × Int) → List (Int × Int)
  | 0, l => l
  | n + 1, l => trnN n (trn l)
theorem trnN_succ : ∀ (n : Nat) (l : List (Int × Int)), trnN (n + 1) l = trn (trnN n l)
  | 0, l => rfl
  | n + 1, l => trnN_succ n (trn l)
/-- the least number of rounds after which it is calm -/
def need (l : List (Int × Int)) : Nat := if h : calm l = true then 0 else need (trn l) + 1
termination_by l.length
decreasing_by exact len_trn_lt (by simpa using h)
theorem need_calm {l : List (Int × Int)} (h : calm l = true) : need l = 0 := by rw [need, dif_pos h]
theorem need_not {l : List (Int × Int)} (h : calm l = false) : need l = need (trn l) + 1 := by rw [need, dif_neg (by simp [h])]
theorem need_lt {l : List (Int × Int)} (h : l ≠ []) : need l < l.length := by
  have key : ∀ (n : Nat) (l : List (Int × Int)), l.length ≤ n → l ≠ [] → need l < l.length := by
    intro n
    induction n with
    | zero => intro l hl h; cases l with
      | nil => exact absurd rfl h
      | cons _ _ => simp at hl
    | succ n ih =>
      intro l hl h
      cases hc : calm l with
      | true =>
        rw [need_calm hc]
        cases l with
        | nil => exact absurd rfl h
        | cons _ _ => exact Nat.succ_pos _
      | false =>
        have := len_trn_lt hc
        have := ih (trn l) (by omega) (trn_ne h)
        rw [need_not hc]
        omega
  exact key l.length l (Nat.le_refl _) h
/-- neighbours of one length: the length is at least b, one of the numbers at least a -/
def Tw (a b : Int) : List (Int × Int) → Prop
  | [] => True
  | [_] => True
  | p :: q :: r => (p.2 = q.2 → b ≤ p.2 ∧ (a ≤ p.1 ∨ a ≤ q.1)) ∧ Tw a b (q :: r)
theorem tw_mrgA (a b c : Int) (h3 : c ≤ 3 ∨ c ≤ a + 1) : ∀ (l : List (Int × Int)) (x w k : Int), Tw a b ((w, x) :: l) → red ((w, x) :: l) = true → 1 ≤ w → Pos l → w ≤ k → (k = w ∨ (c ≤ k ∧ b ≤ x)) →
    Tw b c (mrgA x k (swp l)) ∧ ∃ K r, mrgA x k (swp l) = (x, K) :: r ∧ (K = k ∨ (c ≤ K ∧ b ≤ x))
  | [], x, w, k, _, _, _, _, _, _ => ⟨trivial, k, [], rfl, .inl rfl⟩
  | (m, y) :: r, x, w, k, ht, hr, hw, hp, hk, hs => by
    have hrr : (decide (w ≠ m) && red ((m, y) :: r)) = true := hr
    rw [Bool.and_eq_true, decide_eq_true_eq] at hrr
    obtain ⟨ht1, ht2⟩ : (x = y → b ≤ x ∧ (a ≤ w ∨ a ≤ m)) ∧ Tw a b ((m, y) :: r) := ht
    obtain ⟨hm, hy⟩ : 1 ≤ m ∧ 1 ≤ y := hp (m, y) List.mem_cons_self
    have hpr : Pos r := fun p hp' => hp p (List.mem_cons_of_mem _ hp')
    show Tw b c (if y = x then mrgA x (k + m) (swp r) else (x, k) :: mrgA y m (swp r)) ∧ ∃ K r', (if y = x then mrgA x (k + m) (swp r) else (x, k) :: mrgA y m (swp r)) = (x, K) :: r' ∧ (K = k ∨ (c ≤ K ∧ b ≤ x))
    have hne := hrr.1
    by_cases e : y = x
    · subst e
      obtain ⟨g1, g2⟩ := ht1 rfl
      have hc : c ≤ k + m := by
        rcases hs with rfl | ⟨hs, _⟩
        · omega
        · omega
      obtain ⟨i1, K, r', i2, i3⟩ := tw_mrgA a b c h3 r y m (k + m) ht2 hrr.2 hm hpr (by omega) (.inr ⟨hc, g1⟩)
      rw [if_pos rfl]
      refine ⟨i1, K, r', i2, .inr ?_⟩
      rcases i3 with rfl | i3
      · exact ⟨hc, g1⟩
      · exact i3
    · obtain ⟨i1, K, r', i2, i3⟩ := tw_mrgA a b c h3 r y m m ht2 hrr.2 hm hpr (Int.le_refl _) (.inl rfl)
      rw [if_neg e]
      refine ⟨?_, k, _, rfl, .inl rfl⟩
      rw [i2] at i1 ⊢
      refine ⟨fun (q : k = K) => ?_, i1⟩
      show c ≤ k ∧ (b ≤ x ∨ b ≤ y)
      rcases hs with hs | ⟨hs1, hs2⟩
      · rcases i3 with i3 | ⟨i3, i4⟩
        · exact absurd (hs.symm.trans (q.trans i3)) hne
        · exact ⟨by omega, .inr i4⟩
      · exact ⟨hs1, .inl hs2⟩
theorem tw_trn {a b c : Int} (h3 : c ≤ 3 ∨ c ≤ a + 1) {l : List (Int × Int)} (ht : Tw a b l) (hr : red l = true) (hp : Pos l) : Tw b c (trn l) := by
  cases l with
  | nil => trivial
  | cons p r =>
    obtain ⟨v, k⟩ := p
    exact (tw_mrgA a b c h3 r k v v ht hr (hp _ List.mem_cons_self).1 (fun q hq => hp q (List.mem_cons_of_mem _ hq)) (Int.le_refl _) (.inl rfl)).1
theorem area_nn : ∀ {l : List (Int × Int)}, Pos l → 0 ≤ area l
  | [], _ => Int.le_refl _
  | p :: l, h => by
    have h1 := h p List.mem_cons_self
    have h2 := area_nn fun q hq => h q (List.mem_cons_of_mem _ hq)
    have : 0 ≤ p.1 * p.2 := Int.mul_nonneg (by omega) (by omega)
    rw [area_cons]
    omega
theorem tw_one : ∀ {l : List (Int × Int)}, Pos l → Tw 1 1 l
  | [], _ => trivial
  | [_], _ => trivial
  | p :: q :: r, h => ⟨fun _ => ⟨(h p List.mem_cons_self).2, .inl (h p List.mem_cons_self).1⟩, tw_one fun x hx => h x (List.mem_cons_of_mem _ hx)⟩
/-- two neighbours of one length -/
theorem tw_area {a b c : Int} (h3 : c ≤ 3 ∨ c ≤ a + 1) (h0 : 0 ≤ b) (hc0 : 0 ≤ c) : ∀ {l : List (Int × Int)}, Tw a b l → red l = true → Pos l → calm l = false → c * b ≤ area l
  | [], _, _, _, h => by cases h
  | [_], _, _, _, h => by cases h
  | p :: q :: r, ht, hr, hp, h => by
    have hr : (decide (p.1 ≠ q.1) && red (q :: r)) = true := hr
    rw [Bool.and_eq_true, decide_eq_true_eq] at hr
    have h : (decide (p.2 ≠ q.2) && red (swp (q :: r))) = false := h
    have p1 := hp p List.mem_cons_self
    have p2 := hp q (List.mem_cons_of_mem _ List.mem_cons_self)
    have pr : Pos (q :: r) := fun x hx => hp x (List.mem_cons_of_mem _ hx)
    have pr2 : Pos r := fun x hx => pr x (List.mem_cons_of_mem _ hx)
    by_cases e : p.2 = q.2
    · obtain ⟨g1, g2⟩ := ht.1 e
      have g3 := area_nn pr2
      have hne := hr.1
      have s : c ≤ p.1 + q.1 := by omega
      have m1 : c * b ≤ (p.1 + q.1) * b := Int.mul_le_mul_of_nonneg_right s h0
      have m2 : (p.1 + q.1) * b ≤ (p.1 + q.1) * p.2 := Int.mul_le_mul_of_nonneg_left g1 (by omega)
      rw [area_cons, area_cons, ← e]
      rw [Int.add_mul] at m2
      rw [Int.add_mul p.1 q.1 p.2] at m2
      rw [Int.add_mul] at m1
      omega
    · rw [decide_eq_true e, Bool.true_and] at h
      have := tw_area h3 h0 hc0 ht.2 hr.2 pr h
      have : 0 ≤ p.1 * p.2 := Int.mul_nonneg (by omega) (by omega)
      rw [area_cons]
      omega
/-- a row that needs n + 1 rounds has at least this sum -/
def low : Nat → Int → Int → Int
  | 0, a, b => (if 3 ≤ a + 1 then a + 1 else 3) * b
  | n + 1, a, b => low n b (if 3 ≤ a + 1 then a + 1 else 3)
theorem low_le : ∀ (n : Nat) (a b : Int) (l : List (Int × Int)), 0 ≤ b → Tw a b l → red l = true → Pos l → need l = n + 1 → low n a b ≤ area l
  | 0, a, b, l, h0, ht, hr, hp, hn => by
    have hc : calm l = false := by
      cases h : calm l with
      | false => rfl
      | true => rw [need_calm h] at hn; cases hn
    exact tw_area (by split <;> omega) h0 (by split <;> omega) ht hr hp hc
  | n + 1, a, b, l, h0, ht, hr, hp, hn => by
    have hc : calm l = false := by
      cases h : calm l with
      | false => rfl
      | true => rw [need_calm h] at hn; cases hn
    rw [need_not hc] at hn
    have := low_le n b (if 3 ≤ a + 1 then a + 1 else 3) (trn l) (by split <;> omega) (tw_trn (by split <;> omega) ht hr hp) (red_trn l) (pos_trn hp) (by omega)
    rw [area_trn] at this
    exact this
theorem low_eq : ∀ (n : Nat) (a b : Int), 3 ≤ a → (b = a ∨ b = a + 1) → low n a b = (a + b + n + 1) * (a + b + n + 1) / 4
  | 0, a, b, h, hb => by
    show (if 3 ≤ a + 1 then a + 1 else 3) * b = _
    rw [if_pos (by omega)]
    rcases hb with rfl | rfl
    · have e : (b + b + (0 : Nat) + 1) * (b + b + (0 : Nat) + 1) = 4 * ((b + 1) * b) + 1 := by
        simp only [Int.natCast_zero, Int.add_zero]
        simp only [Int.add_mul, Int.mul_add]
        omega
      rw [e]
      omega
    · have e : (a + (a + 1) + (0 : Nat) + 1) * (a + (a + 1) + (0 : Nat) + 1) = 4 * ((a + 1) * (a + 1)) := by
        simp only [Int.natCast_zero, Int.add_zero]
        simp only [Int.add_mul, Int.mul_add]
        omega
      rw [e]
      omega
  | n + 1, a, b, h, hb => by
    show low n b (if 3 ≤ a + 1 then a + 1 else 3) = _
    rw [if_pos (by omega), low_eq n b (a + 1) (by omega) (by omega)]
    have e : b + (a + 1) + (n : Int) + 1 = a + b + ((n + 1 : Nat) : Int) + 1 := by omega
    rw [e]
/-- the greatest number of rounds -/
theorem need_area {l : List (Int × Int)} (hr : red l = true) (hp : Pos l) : (need l = 1 → 3 ≤ area l) ∧ (2 ≤ need l → ((need l : Int) + 4) * ((need l : Int) + 4) / 4 ≤ area l) := by
  refine ⟨fun h => low_le 0 1 1 l (by decide) (tw_one hp) hr hp h, fun h => ?_⟩
  obtain ⟨n, hn⟩ : ∃ n, need l = n + 1 := ⟨need l - 1, by omega⟩
  have := low_le n 1 1 l (by decide) (tw_one hp) hr hp hn
  rw [hn]
  refine Int.le_trans (Int.le_of_eq ?_) this
  match n, hn with
  | 0, hn => omega
  | 1, hn => rfl
  | n + 2, hn =>
    show _ = low n 3 3
    rw [low_eq n 3 3 (by decide) (.inl rfl)]
    have e : ((n + 2 + 1 : Nat) : Int) + 4 = 3 + 3 + (n : Int) + 1 := by omega
    rw [e]
theorem need_24 {l : List (Int × Int)} (hr : red l = true) (hp : Pos l) (h : area l ≤ 200) : need l ≤ 24 := by
  rcases Nat.lt_or_ge 24 (need l) with z | z
  · exfalso
    have := (need_area hr hp).2 (by omega)
    have h2 : (29 : Int) * 29 ≤ ((need l : Int) + 4) * ((need l : Int) + 4) := Int.mul_le_mul (by omega) (by omega) (by decide) (by omega)
    omega
  · exact z
end Rm
set_option maxHeartbeats 4000000
set_option exponentiation.threshold 4000
namespace Gd
open PySem PySem.Spec PyProof.Rows L2 Vl Rm
/-! data -/
def bagD (a b c : Int) : List PyData := [.int a, .int b, .int c]
def runD (l : List (Int × Int)) : List PyData := l.map fun p => .tuple [.int p.1, .int p.2]
def rowD (ns : List Int) : PyData := .tuple (ns.map .int)
theorem runD_app (a b : List (Int × Int)) : runD (a ++ b) = runD a ++ runD b := by unfold runD; rw [List.map_append]
theorem runD_len (l : List (Int × Int)) : (runD l).length = l.length := List.length_map _
theorem ix_row {ns : List Int} {j : Nat} (h : j < ns.length) : ixD (rowD ns) (.int (j : Nat)) = some (.int ns[j]) := by
  show atI (ns.map PyData.int) ((j : Nat) : Int) = _
  exact atI_nat (by rw [List.getElem?_map, List.getElem?_eq_getElem h]; rfl)
theorem len_row (ns : List Int) : b1D .len (rowD ns) = some (.fz (.int (ns.length : Nat))) := by
  show some (Sl.fz (.int ((ns.map PyData.int).length : Nat))) = _
  rw [List.length_map]
theorem seq_row (ns : List Int) : seqD (rowD ns) = some (ns.map .int) := rfl
theorem len_sum : ∀ ns : List Int, (∀ n ∈ ns, 1 ≤ n) → (ns.length : Int) ≤ ns.sum
  | [], _ => by simp
  | n :: r, h => by
    have h1 := h n List.mem_cons_self
    have h2 := len_sum r fun m hm => h m (List.mem_cons_of_mem _ hm)
    rw [List.sum_cons, List.length_cons]
    omega
theorem le_sum : ∀ (ns : List Int), (∀ n ∈ ns, 1 ≤ n) → ∀ n ∈ ns, n ≤ ns.sum
  | [], _, n, hn => by cases hn
  | x :: r, h, n, hn => by
    have hx := h x List.mem_cons_self
    have hr := len_sum r fun m hm => h m (List.mem_cons_of_mem _ hm)
    rw [List.sum_cons]
    rcases List.mem_cons.mp hn with rfl | z
    · omega
    · have := le_sum r (fun m hm => h m (List.mem_cons_of_mem _ hm)) n z
      omega
/-! loops, in general -/
theorem lc_map {f : PyData → Env' → Res (Option PyData × Env')} (Inv : Env' → Prop) (g : PyData → Option PyData) : ∀ (xs : List PyData) (env : Env') (acc : List PyData), (∀ d ∈ xs, ∀ env, Inv env → ∃ env', f d env = .ok (g d, env') ∧ Inv env') → Inv env →
    ∃ env', lcLoop f xs env acc = .ok (acc ++ xs.filterMap g, env') ∧ Inv env'
  | [], env, acc, _, hi => ⟨env, by simp [lcLoop], hi⟩
  | d :: xs, env, acc, h, hi => by
    obtain ⟨e1, h1, i1⟩ := h d List.mem_cons_self env hi
    obtain ⟨e2, h2, i2⟩ := lc_map Inv g xs e1 (match g d with | some x => acc ++ [x] | none => acc) (fun x hx => h x (List.mem_cons_of_mem _ hx)) i1
    refine ⟨e2, ?_, i2⟩
    show ((f d env).bind _) = _
    rw [h1]
    refine h2.trans ?_
    rw [List.filterMap_cons]
    cases g d with
    | none => rfl
    | some x => simp
theorem fr_inv {tg : Tg} {b : Env' → Res Fl} (Inv : List PyData → Env' → Prop) : ∀ (xs : List PyData) (env : Env'), (∀ d r env, Inv (d :: r) env → ∃ e1 e2, bindT tg d env = some e1 ∧ b e1 = .ok (.nx e2) ∧ Inv r e2) → Inv xs env → ∃ env', fLoop tg b xs env = .ok (.nx env') ∧ Inv [] env'
  | [], env, _, hi => ⟨env, rfl, hi⟩
  | d :: xs, env, h, hi => by
    obtain ⟨e1, e2, h1, h2, h3⟩ := h d xs env hi
    obtain ⟨e3, h4, h5⟩ := fr_inv Inv xs e2 h h3
    refine ⟨e3, ?_, h5⟩
    show ((Res.of (bindT tg d env)).bind fun e => (b e).bind _) = _
    rw [h1]
    show ((b e1).bind _) = _
    rw [h2]
    exact h4
theorem wh_step {t : Env' → Res (Sl × Env')} {b : Env' → Res Fl} {n : Nat} {env e1 e2 : Env'} (ht : t env = .ok (.fz (.bool true), e1)) (hb : b e1 = .ok (.nx e2)) : wLoop t b (n + 1) env = wLoop t b n e2 := by
  show ((t env).bind _) = _
  rw [ht]
  show ((b e1).bind _) = _
  rw [hb]
  rfl
theorem wh_end {t : Env' → Res (Sl × Env')} {b : Env' → Res Fl} {n : Nat} {env e1 : Env'} (ht : t env = .ok (.fz (.bool false), e1)) : wLoop t b (n + 1) env = .ok (.nx e1) := by
  show ((t env).bind _) = _
  rw [ht]
  rfl
/-! _law_bag, _law_pick -/
def BagOk (fn : Fn) : Prop := ∀ c : Int, ∃ a, fn.run [.fz (.int c)] = .ok (.ol (bagD a c 0), [.fz (.int c)])
def PickOk (fn : Fn) : Prop := ∀ a b c m : Int, 0 < m → m < 2 ^ 63 → ∃ t a', fn.run [.ol (bagD a b c), .fz (.int m)] = .ok (.fz (.int t), [.ol (bagD a' b (c + 1)), .fz (.int m)]) ∧ 0 ≤ t ∧ t < m
def cBag : CS :=
 (.seq (.ret (.lst (.cons (.b2 .max (.int 0) (.bin .sub (.loc 0) (.bin .pow (.int 10) (.int 18)))) (.cons (.loc 0) (.cons (.int 0) .nil)))))
 .nil)
theorem bag_ok (Φ : Nat → Fn) : BagOk (mkFn [] 1 0 (dS Φ cBag)) := fun c =>
  ⟨if c - 1000000000000000000 > 0 then c - 1000000000000000000 else 0, by simp [mkFn, runB, cBag, dS, dE, dA, un1, un2, opnd, loc?, owned?, Res.bind, Res.of, Arg.view, Sl.dat, Sl.item, blD, bo, tyD, istyD, excD, q_lt, q_le, q_gt, q_ge, q_eq, q_ne, q_add, q_sub, q_shift, b_max, b_min, isiD, isiT, b_lent, b_lenl, b_tupl, b_tupt, b_lstl, b_lstt, b_suml, b_sumt, stE, itR, itemsOf, argsOf, callOf, slotsOf, putBack, fitL, line, bagD, outs, outS]⟩
def cPick : CS :=
 (.seq (.setix 0 (.int 2) (.bin .add (.ix (.loc 0) (.int 2)) (.int 1)))
 (.seq (.ite (.cmp .gt (.ix (.loc 0) (.int 0)) (.int 0))
 (.seq (.asg (.loc 4) (.bin .mod (.ix (.loc 0) (.int 0)) (.loc 1)))
 (.seq (.setix 0 (.int 0) (.bin .fdiv (.ix (.loc 0) (.int 0)) (.loc 1)))
 (.seq (.retM 4)
 .nil)))
 .nil)
 (.seq (.asg (.loc 2) (.bin .mod (.bin .add (.bin .add (.bin .mul (.bin .mod (.ix (.loc 0) (.int 1)) (.int 2147483629)) (.int 48271)) (.bin .mul (.ix (.loc 0) (.int 2)) (.int 69621))) (.int 12345)) (.int 2147483647)))
 (.seq (.asg (.loc 3) (.bin .mod (.bin .add (.bin .mul (.loc 2) (.loc 2)) (.bin .mul (.ix (.loc 0) (.int 2)) (.int 40692))) (.int 2147483587)))
 (.seq (.ret (.bin .mod (.bin .fdiv (.bin .add (.bin .mul (.loc 2) (.int 2147483587)) (.loc 3)) (.int 32)) (.loc 1)))
 .nil)))))
theorem wide_mod (x m : Int) (h : 0 < m) (h2 : m < 2 ^ 63) : wide (x % m) = true := by
  have h1 := Int.emod_nonneg x (show m ≠ 0 by omega)
  have h3 := Int.emod_lt_of_pos x h
  exact decide_eq_true (by omega)
theorem pick_ok (Φ : Nat → Fn) : PickOk (mkFn [0] 2 3 (dS Φ cPick)) := by
  intro a b c m h h2
  have m1 : ∀ x : Int, 0 ≤ x % m ∧ x % m < m := fun x => ⟨Int.emod_nonneg x (by omega), Int.emod_lt_of_pos x h⟩
  have i0 : ∀ x y z : Int, ixD (.list [.int x, .int y, .int z]) (.int 0) = some (.int x) := fun _ _ _ => rfl
  have i1 : ∀ x y z : Int, ixD (.list [.int x, .int y, .int z]) (.int 1) = some (.int y) := fun _ _ _ => rfl
  have i2 : ∀ x y z : Int, ixD (.list [.int x, .int y, .int z]) (.int 2) = some (.int z) := fun _ _ _ => rfl
  have n0 : ixN 3 0 = some 0 := rfl
  have n2 : ixN 3 2 = some 2 := rfl
  by_cases g : 0 < a
  · refine ⟨a % m, a / m, ?_, m1 a⟩
    simp [mkFn, runB, cPick, dS, dE, dA, un1, un2, opnd, loc?, owned?, Res.bind, Res.of, Arg.view, Sl.dat, Sl.item, blD, bo, tyD, istyD, excD, q_lt, q_le, q_gt, q_ge, q_eq, q_ne, q_add, q_sub, q_shift, b_max, b_min, isiD, isiT, b_lent, b_lenl, b_tupl, b_tupt, b_lstl, b_lstt, b_suml, b_sumt, stE, itR, itemsOf, argsOf, callOf, slotsOf, putBack, fitL, line, bagD, g, h, q_mod _ _ h, q_div _ _ h (by omega : m < 2 ^ 64), outs, outS, i0, i1, i2, n0, n2, olD, intS, List.range, List.range.loop]
  · have key : ∃ x : Int, (mkFn [0] 2 3 (dS Φ cPick)).run [.ol (bagD a b c), .fz (.int m)] = .ok (.fz (.int (x % m)), [.ol (bagD a b (c + 1)), .fz (.int m)]) := by
      refine ⟨?_, ?_⟩
      rotate_left
      · simp [mkFn, runB, cPick, dS, dE, dA, un1, un2, opnd, loc?, owned?, Res.bind, Res.of, Arg.view, Sl.dat, Sl.item, blD, bo, tyD, istyD, excD, q_lt, q_le, q_gt, q_ge, q_eq, q_ne, q_add, q_sub, q_shift, b_max, b_min, isiD, isiT, b_lent, b_lenl, b_tupl, b_tupt, b_lstl, b_lstt, b_suml, b_sumt, stE, itR, itemsOf, argsOf, callOf, slotsOf, putBack, fitL, line, bagD, g, h, q_mod _ _ h, q_div _ _ (by decide : (0 : Int) < 32) (by decide), q_mod _ _ (by decide : (0 : Int) < 2147483629), q_mod _ _ (by decide : (0 : Int) < 2147483647), q_mod _ _ (by decide : (0 : Int) < 2147483587),
        q_mul' _ 48271 (by decide), q_mul' _ 69621 (by decide), q_mul' _ 40692 (by decide), q_mul' _ 2147483587 (by decide), q_mul _ _ (wide_mod _ 2147483647 (by decide) (by decide)), outs, outS, i0, i1, i2, n0, n2, olD, intS, List.range, List.range.loop]
        rfl
    obtain ⟨x, e⟩ := key
    exact ⟨x % m, a, e, m1 x⟩
/-! _law_slow -/
def SlowOk (fn : Fn) : Prop := ∀ t : Int, 1 ≤ t → t ≤ 200 → ∃ ns : List Int, fn.run [.fz (.int t)] = .ok (.ol (ns.map .int), [.fz (.int t)]) ∧ (∀ n ∈ ns, 1 ≤ n) ∧ ns.sum = t
def slowB : CS :=
 (.seq (.asg (.loc 1) (.bin .add (.bin .add (.loc 1) (.bin .mul (.lst (.cons (.int 1) .nil)) (.loc 3))) (.lst (.cons (.bin .add (.loc 3) (.int 1)) .nil))))
 (.seq (.par [3, 2] (.cons (.bin .sub (.bin .sub (.loc 2) (.bin .mul (.int 2) (.loc 3))) (.int 1)) (.cons (.bin .add (.loc 3) (.int 1)) .nil)))
 .nil))
def slowT : CE := (.cmp .ge (.loc 2) (.bin .add (.bin .mul (.int 2) (.loc 3)) (.int 1)))
def cSlow : CS :=
 (.seq (.par [3, 2, 1] (.cons (.lst (.cons (.int 3) (.cons (.int 3) (.cons (.int 1) (.cons (.int 2) .nil))))) (.cons (.bin .sub (.loc 0) (.int 9)) (.cons (.int 3) .nil))))
 (.seq (.whl 1000000 slowT slowB)
 (.seq (.ite (.cmp .lt (.loc 0) (.int 9))
 (.seq (.ret (.bin .mul (.lst (.cons (.int 1) .nil)) (.loc 0)))
 .nil)
 .nil)
 (.seq (.ret (.bin .add (.loc 1) (.bin .mul (.lst (.cons (.int 1) .nil)) (.loc 2))))
 .nil))))
/-- a name that holds a list, its own or not -/
def HasL (s : Sl) (ds : List PyData) : Prop := s = .fz (.list ds) ∨ s = .ol ds
theorem slow_loop (Φ : Nat → Fn) (v : Sl) (S : Int) (hS : S ≤ 200) : ∀ (n : Nat) (left k : Int) (ns : List Int) (s1 : Sl), HasL s1 (ns.map .int) → 3 ≤ k → left < n → (∀ x ∈ ns, 1 ≤ x) → ns.sum + left = S →
    ∃ (left' k' : Int) (ns' : List Int) (s1' : Sl), wLoop (dE Φ slowT) (dS Φ slowB) (n + 1) [v, s1, .fz (.int left), .fz (.int k)] = .ok (.nx [v, s1', .fz (.int left'), .fz (.int k')]) ∧ HasL s1' (ns'.map .int) ∧ (∀ x ∈ ns', 1 ≤ x) ∧ ns'.sum + left' = S ∧ (0 ≤ left → 0 ≤ left') ∧ left' ≤ 200 ∧ (left' ≤ left) := by
  intro n
  induction n with
  | zero =>
    intro left k ns s1 h1 h2 h3 h4 h5
    have ht : dE Φ slowT [v, s1, .fz (.int left), .fz (.int k)] = .ok (.fz (.bool false), [v, s1, .fz (.int left), .fz (.int k)]) := by
      have : ¬ (2 * k + 1 ≤ left) := by omega
      simp [slowT, dS, dE, dA, un1, un2, opnd, loc?, owned?, Res.bind, Res.of, Arg.view, Sl.dat, Sl.item, blD, bo, tyD, istyD, excD, q_lt, q_le, q_gt, q_ge, q_eq, q_ne, q_add, q_sub, q_shift, b_max, b_min, isiD, isiT, b_lent, b_lenl, b_tupl, b_tupt, b_lstl, b_lstt, b_suml, b_sumt, stE, itR, itemsOf, argsOf, callOf, slotsOf, putBack, fitL, line, q_mul 2 k (by decide), this]
    exact ⟨left, k, ns, s1, wh_end ht, h1, h4, h5, fun z => z, by omega, Int.le_refl _⟩
  | succ n ih =>
    intro left k ns s1 h1 h2 h3 h4 h5
    by_cases hc : 2 * k + 1 ≤ left
    · have ht : dE Φ slowT [v, s1, .fz (.int left), .fz (.int k)] = .ok (.fz (.bool true), [v, s1, .fz (.int left), .fz (.int k)]) := by
        simp [slowT, dS, dE, dA, un1, un2, opnd, loc?, owned?, Res.bind, Res.of, Arg.view, Sl.dat, Sl.item, blD, bo, tyD, istyD, excD, q_lt, q_le, q_gt, q_ge, q_eq, q_ne, q_add, q_sub, q_shift, b_max, b_min, isiD, isiT, b_lent, b_lenl, b_tupl, b_tupt, b_lstl, b_lstt, b_suml, b_sumt, stE, itR, itemsOf, argsOf, callOf, slotsOf, putBack, fitL, line, q_mul 2 k (by decide), hc]
      have hl := len_sum ns h4
      have hrep := q_rep [PyData.int 1] k (by omega) (by simp; omega) (by omega)
      rw [rep_one] at hrep
      have c1 := q_cat (ns.map PyData.int) (List.replicate k.toNat (PyData.int 1)) (by simp; omega)
      have c2 := q_cat (ns.map PyData.int ++ List.replicate k.toNat (PyData.int 1)) [PyData.int (k + 1)] (by simp; omega)
      have hb : dS Φ slowB [v, s1, .fz (.int left), .fz (.int k)] = .ok (.nx [v, .ol ((ns ++ List.replicate k.toNat 1 ++ [k + 1]).map .int), .fz (.int (left - 2 * k - 1)), .fz (.int (k + 1))]) := by
        rcases h1 with rfl | rfl
        · simp [slowB, dS, dE, dA, un1, un2, opnd, loc?, owned?, Res.bind, Res.of, Arg.view, Sl.dat, Sl.item, blD, bo, tyD, istyD, excD, q_lt, q_le, q_gt, q_ge, q_eq, q_ne, q_add, q_sub, q_shift, b_max, b_min, isiD, isiT, b_lent, b_lenl, b_tupl, b_tupt, b_lstl, b_lstt, b_suml, b_sumt, stE, itR, itemsOf, argsOf, callOf, slotsOf, putBack, fitL, line, q_mul 2 k (by decide), hrep, c1, c2, setAll]
        · simp [slowB, dS, dE, dA, un1, un2, opnd, loc?, owned?, Res.bind, Res.of, Arg.view, Sl.dat, Sl.item, blD, bo, tyD, istyD, excD, q_lt, q_le, q_gt, q_ge, q_eq, q_ne, q_add, q_sub, q_shift, b_max, b_min, isiD, isiT, b_lent, b_lenl, b_tupl, b_tupt, b_lstl, b_lstt, b_suml, b_sumt, stE, itR, itemsOf, argsOf, callOf, slotsOf, putBack, fitL, line, q_mul 2 k (by decide), hrep, c1, c2, setAll]
      have hsum : (ns ++ List.replicate k.toNat 1 ++ [k + 1]).sum + (left - 2 * k - 1) = S := by
        rw [List.sum_append, List.sum_append, Rm.sum_rep, List.sum_singleton]
        omega
      obtain ⟨l', k', ns', s1', g1, g2, g3, g4, g5, g6, g7⟩ := ih (left - 2 * k - 1) (k + 1) (ns ++ List.replicate k.toNat 1 ++ [k + 1]) _ (.inr rfl) (by omega) (by omega) (fun x hx => by
        simp only [List.mem_append, List.mem_replicate, List.mem_singleton] at hx
        rcases hx with (hx | hx) | hx
        · exact h4 x hx
        · omega
        · omega) hsum
      exact ⟨l', k', ns', s1', by rw [wh_step ht hb]; exact g1, g2, g3, g4, fun _ => g5 (by omega), g6, by omega⟩
    · have ht : dE Φ slowT [v, s1, .fz (.int left), .fz (.int k)] = .ok (.fz (.bool false), [v, s1, .fz (.int left), .fz (.int k)]) := by
        simp [slowT, dS, dE, dA, un1, un2, opnd, loc?, owned?, Res.bind, Res.of, Arg.view, Sl.dat, Sl.item, blD, bo, tyD, istyD, excD, q_lt, q_le, q_gt, q_ge, q_eq, q_ne, q_add, q_sub, q_shift, b_max, b_min, isiD, isiT, b_lent, b_lenl, b_tupl, b_tupt, b_lstl, b_lstt, b_suml, b_sumt, stE, itR, itemsOf, argsOf, callOf, slotsOf, putBack, fitL, line, q_mul 2 k (by decide), hc]
      have hl := len_sum ns h4
      exact ⟨left, k, ns, s1, wh_end ht, h1, h4, h5, fun z => z, by omega, Int.le_refl _⟩
theorem slow_ok (Φ : Nat → Fn) : SlowOk (mkFn [] 1 3 (dS Φ cSlow)) := by
  intro t h1 h2
  obtain ⟨l', k', ns', s1', g1, g2, g3, g4, g5, g6, g7⟩ := slow_loop Φ (.fz (.int t)) t h2 999999 (t - 9) 3 [3, 3, 1, 2] (.fz (.list [.int 3, .int 3, .int 1, .int 2])) (.inl rfl) (by decide) (by omega) (by decide) (by show (9 : Int) + (t - 9) = t; omega)
  generalize hfu : 999999 + 1 = fu at g1
  have hfu2 : 1000000 = fu := hfu
  by_cases h9 : t < 9
  · refine ⟨List.replicate t.toNat 1, ?_, fun n hn => by rw [(List.mem_replicate.mp hn).2]; decide, by rw [Rm.sum_rep]; omega⟩
    have hrep := q_rep [PyData.int 1] t (by omega) (by simp; omega) (by omega)
    rw [rep_one] at hrep
    simp [mkFn, runB, cSlow, dS, dE, dA, un1, un2, opnd, loc?, owned?, Res.bind, Res.of, Arg.view, Sl.dat, Sl.item, blD, bo, tyD, istyD, excD, q_lt, q_le, q_gt, q_ge, q_eq, q_ne, q_add, q_sub, q_shift, b_max, b_min, isiD, isiT, b_lent, b_lenl, b_tupl, b_tupt, b_lstl, b_lstt, b_suml, b_sumt, stE, itR, itemsOf, argsOf, callOf, slotsOf, putBack, fitL, line, setAll, hfu2, g1, h9, hrep, outs, outS]
  · have hrep := q_rep [PyData.int 1] l' (by omega) (by simp; omega) (by omega)
    rw [rep_one] at hrep
    have hl := len_sum ns' g3
    have hc := q_cat (ns'.map PyData.int) (List.replicate l'.toNat (PyData.int 1)) (by simp; omega)
    refine ⟨ns' ++ List.replicate l'.toNat 1, ?_, fun n hn => ?_, by rw [List.sum_append, Rm.sum_rep]; omega⟩
    · rcases g2 with rfl | rfl
      · simp [mkFn, runB, cSlow, dS, dE, dA, un1, un2, opnd, loc?, owned?, Res.bind, Res.of, Arg.view, Sl.dat, Sl.item, blD, bo, tyD, istyD, excD, q_lt, q_le, q_gt, q_ge, q_eq, q_ne, q_add, q_sub, q_shift, b_max, b_min, isiD, isiT, b_lent, b_lenl, b_tupl, b_tupt, b_lstl, b_lstt, b_suml, b_sumt, stE, itR, itemsOf, argsOf, callOf, slotsOf, putBack, fitL, line, setAll, hfu2, g1, h9, hrep, hc, outs, outS]
      · simp [mkFn, runB, cSlow, dS, dE, dA, un1, un2, opnd, loc?, owned?, Res.bind, Res.of, Arg.view, Sl.dat, Sl.item, blD, bo, tyD, istyD, excD, q_lt, q_le, q_gt, q_ge, q_eq, q_ne, q_add, q_sub, q_shift, b_max, b_min, isiD, isiT, b_lent, b_lenl, b_tupl, b_tupt, b_lstl, b_lstt, b_suml, b_sumt, stE, itR, itemsOf, argsOf, callOf, slotsOf, putBack, fitL, line, setAll, hfu2, g1, h9, hrep, hc, outs, outS]
    · rcases List.mem_append.mp hn with hn | hn
      · exact g3 n hn
      · rw [(List.mem_replicate.mp hn).2]; decide
end Gd
set_option maxHeartbeats 4000000
set_option exponentiation.threshold 4000
namespace Gd
open PySem PySem.Spec PyProof.Rows L2 Vl Rm
/-! _law_row -/
def RowOk (fn : Fn) : Prop := ∀ a b c m : Int, 1 ≤ m → m ≤ 200 → ∃ (ns : List Int) (a' c' : Int), fn.run [.ol (bagD a b c), .fz (.int m)] = .ok (.fz (rowD ns), [.ol (bagD a' b c'), .fz (.int m)]) ∧ ns ≠ [] ∧ (∀ n ∈ ns, 1 ≤ n) ∧ ns.sum ≤ m
def rowB (p : Nat) : CS :=
 (.seq (.asg (.loc 5) (.ix (.lst (.cons (.int 2) (.cons (.int 3) (.cons (.loc 2) (.cons (.loc 2) (.cons (.int 12) (.cons (.int 5) .nil))))))) (.loc 3)))
 (.seq (.asg (.loc 6) (.bin .add (.int 1) (.call p (.consO (.loc 0) (.cons (.b2 .min (.loc 5) (.loc 2)) .nil)))))
 (.seq (.asg (.loc 7) (.int 1))
 (.seq (.ite (.cmp .inn (.loc 3) (.tup (.cons (.int 1) (.cons (.int 3) (.cons (.int 5) .nil)))))
 (.seq (.asg (.loc 7) (.bin .add (.int 1) (.call p (.consO (.loc 0) (.cons (.bin .fdiv (.loc 2) (.loc 6)) .nil)))))
 .nil)
 .nil)
 (.seq (.ite (.cmp .eq (.loc 3) (.int 5))
 (.seq (.asg (.loc 7) (.b2 .min (.loc 7) (.int 3)))
 .nil)
 .nil)
 (.seq (.asg (.loc 4) (.bin .add (.loc 4) (.bin .mul (.lst (.cons (.loc 6) .nil)) (.loc 7))))
 (.seq (.asg (.loc 2) (.bin .sub (.loc 2) (.bin .mul (.loc 6) (.loc 7))))
 .nil)))))))
def rowT : CE := (.cmp .gt (.loc 2) (.int 0))
def cRow (p s : Nat) : CS :=
 (.seq (.asg (.loc 2) (.bin .add (.int 1) (.call p (.consO (.loc 0) (.cons (.loc 1) .nil)))))
 (.seq (.asg (.loc 3) (.call p (.consO (.loc 0) (.cons (.int 6) .nil))))
 (.seq (.asg (.loc 4) (.lst .nil))
 (.seq (.whl 1000000 rowT (rowB p))
 (.seq (.ite (.and (.cmp .eq (.loc 3) (.int 2)) (.cmp .eq (.call p (.consO (.loc 0) (.cons (.int 3) .nil))) (.int 0)))
 (.seq (.ret (.b1 .tuple (.call s (.cons (.b1 .sum (.loc 4)) .nil))))
 .nil)
 .nil)
 (.seq (.ret (.b1 .tuple (.loc 4)))
 .nil))))))
section
variable {Φ : Nat → Fn} {p s : Nat} (hp : PickOk (Φ p))
include hp
theorem body3A (a b c total way top : Int) (ns : List Int) (e5 e6 e7 v : Sl) (h0 : 0 < total) (h1 : total ≤ 200) (hl : ns.length ≤ 1000) (ht : 1 ≤ top)
    (hx : ixD (.list [.int 2, .int 3, .int total, .int total, .int 12, .int 5]) (.int way) = some (.int top)) (hin : cmpD .inn (.int way) (.tuple [.int 1, .int 3, .int 5]) = some false) (h5 : way ≠ 5) :
    ∃ (a' c' one : Int) (many : Nat) (f5 f6 f7 : Sl), dS Φ (rowB p) [.ol (bagD a b c), v, .fz (.int total), .fz (.int way), .ol (ns.map .int), e5, e6, e7] =
      .ok (.nx [.ol (bagD a' b c'), v, .fz (.int (total - one * many)), .fz (.int way), .ol ((ns ++ List.replicate many one).map .int), f5, f6, f7]) ∧ 1 ≤ one ∧ 1 ≤ many ∧ one * many ≤ total := by
  obtain ⟨t1, a1, r1, p1, p2⟩ := hp a b c (if total < top then total else top) (by split <;> omega) (by split <;> omega)
  have p3 : t1 + 1 ≤ total := by split at p2 <;> omega
  refine ⟨a1, c + 1, 1 + t1, 1, .fz (.int top), .fz (.int (1 + t1)), .fz (.int 1), ?_, by omega, by omega, by omega⟩
  have r1' := r1
  unfold bagD at r1'
  have hcat := q_cat (ns.map PyData.int) [PyData.int (1 + t1)] (by simp; omega)
  simp [rowB, dS, dE, dA, un1, un2, opnd, loc?, owned?, Res.bind, Res.of, Arg.view, Sl.dat, Sl.item, blD, bo, tyD, istyD, excD, q_lt, q_le, q_gt, q_ge, q_eq, q_ne, q_add, q_sub, q_shift, b_max, b_min, isiD, isiT, b_lent, b_lenl, b_tupl, b_tupt, b_lstl, b_lstt, b_suml, b_sumt, stE, itR, itemsOf, argsOf, callOf, slotsOf, putBack, fitL, line, bagD, hx, hin, h5, r1', q_rep, hcat, q_mul' _ 1 (by decide)]
theorem body3B (a b c total way top : Int) (ns : List Int) (e5 e6 e7 v : Sl) (h0 : 0 < total) (h1 : total ≤ 200) (hl : ns.length ≤ 1000) (ht : 1 ≤ top)
    (hx : ixD (.list [.int 2, .int 3, .int total, .int total, .int 12, .int 5]) (.int way) = some (.int top)) (hin : cmpD .inn (.int way) (.tuple [.int 1, .int 3, .int 5]) = some true) :
    ∃ (a' c' one : Int) (many : Nat) (f5 f6 f7 : Sl), dS Φ (rowB p) [.ol (bagD a b c), v, .fz (.int total), .fz (.int way), .ol (ns.map .int), e5, e6, e7] =
      .ok (.nx [.ol (bagD a' b c'), v, .fz (.int (total - one * many)), .fz (.int way), .ol ((ns ++ List.replicate many one).map .int), f5, f6, f7]) ∧ 1 ≤ one ∧ 1 ≤ many ∧ one * many ≤ total := by
  obtain ⟨t1, a1, r1, p1, p2⟩ := hp a b c (if total < top then total else top) (by split <;> omega) (by split <;> omega)
  have p3 : t1 + 1 ≤ total := by split at p2 <;> omega
  have q0 : 1 ≤ total / (1 + t1) := by
    have := (Int.le_ediv_iff_mul_le (show 0 < 1 + t1 by omega) (a := 1) (b := total)).mpr (by omega)
    exact this
  have q1 : total / (1 + t1) ≤ 200 := by
    have := Int.ediv_le_self (1 + t1) (show 0 ≤ total by omega)
    omega
  obtain ⟨t2, a2, r2, p4, p5⟩ := hp a1 b (c + 1) (total / (1 + t1)) (by omega) (by omega)
  have q2 : (1 + t1) * (1 + t2) ≤ total := by
    have g1 : 1 + t2 ≤ total / (1 + t1) := by omega
    have g2 : (1 + t1) * (1 + t2) ≤ (1 + t1) * (total / (1 + t1)) := Int.mul_le_mul_of_nonneg_left g1 (by omega)
    have g3 := Int.mul_ediv_self_le (x := total) (k := 1 + t1) (by omega)
    omega
  have r1' := r1
  have r2' := r2
  unfold bagD at r1' r2'
  have core : ∀ m : Int, 1 ≤ m → m ≤ 1 + t2 → (1 + t1) * m ≤ total := fun m g1 g2 => Int.le_trans (Int.mul_le_mul_of_nonneg_left g2 (by omega)) q2
  have wd : wide (1 + t1) = true := decide_eq_true (by omega)
  have dv := q_div total _ (show 0 < 1 + t1 by omega) (show 1 + t1 < 2 ^ 64 by omega)
  have ml := q_mul (1 + t1) (1 + t2) wd
  have hrep := q_rep [PyData.int (1 + t1)] (1 + t2) (by omega) (by simp; omega) (by omega)
  have hcat2 := q_cat (ns.map PyData.int) (List.replicate (1 + t2).toNat (PyData.int (1 + t1))) (by simp; omega)
  have hn : (((1 + t2).toNat : Nat) : Int) = 1 + t2 := by omega
  by_cases h5 : way = 5
  · subst h5
    by_cases h3 : (3 : Int) < 1 + t2
    · have hcat := q_cat (ns.map PyData.int) [PyData.int (1 + t1), PyData.int (1 + t1), PyData.int (1 + t1)] (by simp; omega)
      refine ⟨a2, c + 1 + 1, 1 + t1, 3, .fz (.int top), .fz (.int (1 + t1)), .fz (.int 3), ?_, by omega, by omega, core 3 (by omega) (by omega)⟩
      simp [rowB, dS, dE, dA, un1, un2, opnd, loc?, owned?, Res.bind, Res.of, Arg.view, Sl.dat, Sl.item, blD, bo, tyD, istyD, excD, q_lt, q_le, q_gt, q_ge, q_eq, q_ne, q_add, q_sub, q_shift, b_max, b_min, isiD, isiT, b_lent, b_lenl, b_tupl, b_tupt, b_lstl, b_lstt, b_suml, b_sumt, stE, itR, itemsOf, argsOf, callOf, slotsOf, putBack, fitL, line, bagD, hx, hin, r1', r2', q_rep, hcat, q_mul' _ 3 (by decide), dv, h3, rep_one]
    · refine ⟨a2, c + 1 + 1, 1 + t1, (1 + t2).toNat, .fz (.int top), .fz (.int (1 + t1)), .fz (.int (1 + t2)), ?_, by omega, by omega, by rw [hn]; exact q2⟩
      simp [rowB, dS, dE, dA, un1, un2, opnd, loc?, owned?, Res.bind, Res.of, Arg.view, Sl.dat, Sl.item, blD, bo, tyD, istyD, excD, q_lt, q_le, q_gt, q_ge, q_eq, q_ne, q_add, q_sub, q_shift, b_max, b_min, isiD, isiT, b_lent, b_lenl, b_tupl, b_tupt, b_lstl, b_lstt, b_suml, b_sumt, stE, itR, itemsOf, argsOf, callOf, slotsOf, putBack, fitL, line, bagD, hx, hin, r1', r2', hrep, hcat2, ml, dv, h3, rep_one, hn]
  · refine ⟨a2, c + 1 + 1, 1 + t1, (1 + t2).toNat, .fz (.int top), .fz (.int (1 + t1)), .fz (.int (1 + t2)), ?_, by omega, by omega, by rw [hn]; exact q2⟩
    simp [rowB, dS, dE, dA, un1, un2, opnd, loc?, owned?, Res.bind, Res.of, Arg.view, Sl.dat, Sl.item, blD, bo, tyD, istyD, excD, q_lt, q_le, q_gt, q_ge, q_eq, q_ne, q_add, q_sub, q_shift, b_max, b_min, isiD, isiT, b_lent, b_lenl, b_tupl, b_tupt, b_lstl, b_lstt, b_suml, b_sumt, stE, itR, itemsOf, argsOf, callOf, slotsOf, putBack, fitL, line, bagD, hx, hin, r1', r2', hrep, hcat2, ml, dv, h5, rep_one, hn]
end
theorem way_top (way total : Int) (h0 : 0 < total) (hw : 0 ≤ way ∧ way < 6) : ∃ top, 1 ≤ top ∧ ixD (.list [.int 2, .int 3, .int total, .int total, .int 12, .int 5]) (.int way) = some (.int top) ∧
    ((cmpD .inn (.int way) (.tuple [.int 1, .int 3, .int 5]) = some false ∧ way ≠ 5) ∨ cmpD .inn (.int way) (.tuple [.int 1, .int 3, .int 5]) = some true) := by
  have : way = 0 ∨ way = 1 ∨ way = 2 ∨ way = 3 ∨ way = 4 ∨ way = 5 := by omega
  rcases this with rfl | rfl | rfl | rfl | rfl | rfl
  · exact ⟨2, by decide, rfl, .inl ⟨rfl, by decide⟩⟩
  · exact ⟨3, by decide, rfl, .inr rfl⟩
  · exact ⟨total, by omega, rfl, .inl ⟨rfl, by decide⟩⟩
  · exact ⟨total, by omega, rfl, .inr rfl⟩
  · exact ⟨12, by decide, rfl, .inl ⟨rfl, by decide⟩⟩
  · exact ⟨5, by decide, rfl, .inr rfl⟩
theorem loop3 {Φ : Nat → Fn} {p : Nat} (hp : PickOk (Φ p)) (b way S : Int) (v : Sl) (hS : S ≤ 200) (hw : 0 ≤ way ∧ way < 6) : ∀ (n : Nat) (a c total : Int) (ns : List Int) (e5 e6 e7 : Sl), 0 ≤ total → total < n → (∀ x ∈ ns, 1 ≤ x) → ns.sum + total = S →
    ∃ (a' c' : Int) (ns' : List Int) (f5 f6 f7 : Sl), wLoop (dE Φ rowT) (dS Φ (rowB p)) n [.ol (bagD a b c), v, .fz (.int total), .fz (.int way), .ol (ns.map .int), e5, e6, e7] =
      .ok (.nx [.ol (bagD a' b c'), v, .fz (.int 0), .fz (.int way), .ol (ns'.map .int), f5, f6, f7]) ∧ (∀ x ∈ ns', 1 ≤ x) ∧ ns'.sum = S
  | 0, a, c, total, ns, e5, e6, e7, h0, h1, h2, h3 => by omega
  | n + 1, a, c, total, ns, e5, e6, e7, h0, h1, h2, h3 => by
    by_cases ht : 0 < total
    · have hsum := len_sum ns h2
      obtain ⟨top, t1, t2, t3⟩ := way_top way total ht hw
      have body : ∃ (a' c' one : Int) (many : Nat) (f5 f6 f7 : Sl), dS Φ (rowB p) [.ol (bagD a b c), v, .fz (.int total), .fz (.int way), .ol (ns.map .int), e5, e6, e7] =
          .ok (.nx [.ol (bagD a' b c'), v, .fz (.int (total - one * many)), .fz (.int way), .ol ((ns ++ List.replicate many one).map .int), f5, f6, f7]) ∧ 1 ≤ one ∧ 1 ≤ many ∧ one * many ≤ total := by
        rcases t3 with ⟨t3, t4⟩ | t3
        · exact body3A hp a b c total way top ns e5 e6 e7 v ht (by omega) (by omega) t1 t2 t3 t4
        · exact body3B hp a b c total way top ns e5 e6 e7 v ht (by omega) (by omega) t1 t2 t3
      obtain ⟨a', c', one, many, f5, f6, f7, hb, p1, p2, p3⟩ := body
      have pos : 1 ≤ one * many := by
        have := Int.mul_le_mul_of_nonneg_left (show (1 : Int) ≤ many by omega) (show 0 ≤ one by omega)
        omega
      obtain ⟨a2, c2, ns', g5, g6, g7, h, g8, g9⟩ := loop3 hp b way S v hS hw n a' c' (total - one * many) (ns ++ List.replicate many one) f5 f6 f7 (by omega) (by omega) (fun x hx => by
        rcases List.mem_append.mp hx with z | z
        · exact h2 x z
        · rw [(List.mem_replicate.mp z).2]; exact p1) (by rw [List.sum_append, Rm.sum_rep]; omega)
      refine ⟨a2, c2, ns', g5, g6, g7, ?_, g8, g9⟩
      rw [wh_step (e1 := [.ol (bagD a b c), v, .fz (.int total), .fz (.int way), .ol (ns.map .int), e5, e6, e7]) (by simp [rowT, dS, dE, dA, un1, un2, opnd, loc?, owned?, Res.bind, Res.of, Arg.view, Sl.dat, Sl.item, blD, bo, tyD, istyD, excD, q_lt, q_le, q_gt, q_ge, q_eq, q_ne, q_add, q_sub, q_shift, b_max, b_min, isiD, isiT, b_lent, b_lenl, b_tupl, b_tupt, b_lstl, b_lstt, b_suml, b_sumt, stE, itR, itemsOf, argsOf, callOf, slotsOf, putBack, fitL, line, ht]) hb]
      exact h
    · have e : total = 0 := by omega
      subst e
      exact ⟨a, c, ns, e5, e6, e7, wh_end (by simp [rowT, dS, dE, dA, un1, un2, opnd, loc?, owned?, Res.bind, Res.of, Arg.view, Sl.dat, Sl.item, blD, bo, tyD, istyD, excD, q_lt, q_le, q_gt, q_ge, q_eq, q_ne, q_add, q_sub, q_shift, b_max, b_min, isiD, isiT, b_lent, b_lenl, b_tupl, b_tupt, b_lstl, b_lstt, b_suml, b_sumt, stE, itR, itemsOf, argsOf, callOf, slotsOf, putBack, fitL, line]), h2, by omega⟩
theorem row_ok {Φ : Nat → Fn} {p s : Nat} (hp : PickOk (Φ p)) (hs : SlowOk (Φ s)) : RowOk (mkFn [0] 2 6 (dS Φ (cRow p s))) := by
  intro a b c m hm1 hm2
  obtain ⟨t1, a1, r1, p1, p2⟩ := hp a b c m (by omega) (by omega)
  obtain ⟨way, a2, r2, p3, p4⟩ := hp a1 b (c + 1) 6 (by decide) (by decide)
  obtain ⟨a3, cc, ns, g5, g6, g7, hl, g1, g2⟩ := loop3 hp b way (1 + t1) (.fz (.int m)) (by omega) ⟨p3, p4⟩ 1000000 a2 (c + 1 + 1) (1 + t1) [] .un .un .un (by omega) (by omega) (fun x hx => by cases hx) (by simp)
  have ne : ns ≠ [] := by
    rintro rfl
    simp at g2
    omega
  generalize hfu : 1000000 = fu at hl
  unfold bagD at r1 r2 hl
  simp only [List.map_nil] at hl
  unfold rowD
  by_cases hw : way = 2
  · subst hw
    obtain ⟨t3, a4, r3, p5, p6⟩ := hp a3 b cc 3 (by decide) (by decide)
    unfold bagD at r3
    by_cases h3 : t3 = 0
    · subst h3
      obtain ⟨ms, r4, m1, m2⟩ := hs (1 + t1) (by omega) (by omega)
      refine ⟨ms, a4, cc + 1, ?_, ?_, m1, by omega⟩
      · simp [mkFn, runB, cRow, dS, dE, dA, un1, un2, opnd, loc?, owned?, Res.bind, Res.of, Arg.view, Sl.dat, Sl.item, blD, bo, tyD, istyD, excD, q_lt, q_le, q_gt, q_ge, q_eq, q_ne, q_add, q_sub, q_shift, b_max, b_min, isiD, isiT, b_lent, b_lenl, b_tupl, b_tupt, b_lstl, b_lstt, b_suml, b_sumt, stE, itR, itemsOf, argsOf, callOf, slotsOf, putBack, fitL, line, bagD, r1, r2, hfu, hl, outs, outS, List.range, List.range.loop, r3, ints_of, g2, r4]
      · rintro rfl
        simp at m2
        omega
    · refine ⟨ns, a4, cc + 1, ?_, ne, g1, by omega⟩
      simp [mkFn, runB, cRow, dS, dE, dA, un1, un2, opnd, loc?, owned?, Res.bind, Res.of, Arg.view, Sl.dat, Sl.item, blD, bo, tyD, istyD, excD, q_lt, q_le, q_gt, q_ge, q_eq, q_ne, q_add, q_sub, q_shift, b_max, b_min, isiD, isiT, b_lent, b_lenl, b_tupl, b_tupt, b_lstl, b_lstt, b_suml, b_sumt, stE, itR, itemsOf, argsOf, callOf, slotsOf, putBack, fitL, line, bagD, r1, r2, hfu, hl, outs, outS, List.range, List.range.loop, h3, r3]
  · refine ⟨ns, a3, cc, ?_, ne, g1, by omega⟩
    simp [mkFn, runB, cRow, dS, dE, dA, un1, un2, opnd, loc?, owned?, Res.bind, Res.of, Arg.view, Sl.dat, Sl.item, blD, bo, tyD, istyD, excD, q_lt, q_le, q_gt, q_ge, q_eq, q_ne, q_add, q_sub, q_shift, b_max, b_min, isiD, isiT, b_lent, b_lenl, b_tupl, b_tupt, b_lstl, b_lstt, b_suml, b_sumt, stE, itR, itemsOf, argsOf, callOf, slotsOf, putBack, fitL, line, bagD, r1, r2, hfu, hl, outs, outS, List.range, List.range.loop, hw]
/-! _law_runs -/
def RunsOk (fn : Fn) : Prop := ∀ ns : List Int, ns.length ≤ 100000 → fn.run [.fz (rowD ns)] = .ok (.ol (runD (rle ns)), [.fz (rowD ns)])
def runsB0 : CS :=
 (.seq (.asg (.loc 3) (.bin .add (.loc 3) (.int 1)))
 .nil)
def runsT0 : CE := (.and (.cmp .lt (.loc 3) (.b1 .len (.loc 0))) (.cmp .eq (.ix (.loc 0) (.loc 3)) (.ix (.loc 0) (.loc 2))))
def runsB2 : CS :=
 (.seq (.asg (.loc 3) (.loc 2))
 (.seq (.whl 1000000 runsT0 runsB0)
 (.seq (.app 1 (.tup (.cons (.ix (.loc 0) (.loc 2)) (.cons (.bin .sub (.loc 3) (.loc 2)) .nil))))
 (.seq (.asg (.loc 2) (.loc 3))
 .nil))))
def runsT2 : CE := (.cmp .lt (.loc 2) (.b1 .len (.loc 0)))
def cRuns : CS :=
 (.seq (.asg (.loc 1) (.lst .nil))
 (.seq (.asg (.loc 2) (.int 0))
 (.seq (.whl 1000000 runsT2 runsB2)
 (.seq (.retM 1)
 .nil))))
theorem inner4 (Φ : Nat → Fn) (ns : List Int) (fd : Sl) (k : Nat) (hk : k < ns.length) : ∀ (n j : Nat), k ≤ j → j ≤ ns.length → ns.length < n + j →
    ∃ j' : Nat, j ≤ j' ∧ j' ≤ ns.length ∧ wLoop (dE Φ runsT0) (dS Φ runsB0) n [.fz (rowD ns), fd, .fz (.int (k : Nat)), .fz (.int (j : Nat))] = .ok (.nx [.fz (rowD ns), fd, .fz (.int (k : Nat)), .fz (.int (j' : Nat))]) ∧
      rleA ns[k] ((j : Int) - k) (ns.drop j) = (ns[k], (j' : Int) - k) :: rle (ns.drop j')
  | 0, j, h1, h2, h3 => by omega
  | n + 1, j, h1, h2, h3 => by
    by_cases hj : j < ns.length
    · have hd : ns.drop j = ns[j] :: ns.drop (j + 1) := List.drop_eq_getElem_cons hj
      by_cases he : ns[j] = ns[k]
      · obtain ⟨j', g1, g2, g3, g4⟩ := inner4 Φ ns fd k hk n (j + 1) (by omega) (by omega) (by omega)
        refine ⟨j', by omega, g2, ?_, ?_⟩
        · rw [← g3]
          have : ((j : Int) < (ns.length : Int)) := by omega
          have e1 : (((j + 1 : Nat) : Int)) = (j : Int) + 1 := rfl
          simp [wLoop, runsT0, runsB0, dS, dE, dA, un1, un2, opnd, loc?, owned?, Res.bind, Res.of, Arg.view, Sl.dat, Sl.item, blD, bo, tyD, istyD, excD, q_lt, q_le, q_gt, q_ge, q_eq, q_ne, q_add, q_sub, q_shift, b_max, b_min, isiD, isiT, b_lent, b_lenl, b_tupl, b_tupt, b_lstl, b_lstt, b_suml, b_sumt, stE, itR, itemsOf, argsOf, callOf, slotsOf, putBack, fitL, line, len_row, ix_row hj, ix_row hk, he, this, e1]
        · rw [hd]
          have e1 : (((j + 1 : Nat) : Int)) = (j : Int) + 1 := rfl
          rw [← g4, e1]
          show (if ns[j] = ns[k] then _ else _) = _
          rw [if_pos he]
          congr 1
          omega
      · refine ⟨j, Nat.le_refl _, h2, ?_, ?_⟩
        · have : ((j : Int) < (ns.length : Int)) := by omega
          simp [wLoop, runsT0, runsB0, dS, dE, dA, un1, un2, opnd, loc?, owned?, Res.bind, Res.of, Arg.view, Sl.dat, Sl.item, blD, bo, tyD, istyD, excD, q_lt, q_le, q_gt, q_ge, q_eq, q_ne, q_add, q_sub, q_shift, b_max, b_min, isiD, isiT, b_lent, b_lenl, b_tupl, b_tupt, b_lstl, b_lstt, b_suml, b_sumt, stE, itR, itemsOf, argsOf, callOf, slotsOf, putBack, fitL, line, len_row, ix_row hj, ix_row hk, he, this]
        · rw [hd]
          show (if ns[j] = ns[k] then _ else _) = _
          rw [if_neg he]
          rfl
    · have ej : j = ns.length := by omega
      refine ⟨j, Nat.le_refl _, h2, ?_, ?_⟩
      · have : ¬ ((j : Int) < (ns.length : Int)) := by omega
        simp [wLoop, runsT0, runsB0, dS, dE, dA, un1, un2, opnd, loc?, owned?, Res.bind, Res.of, Arg.view, Sl.dat, Sl.item, blD, bo, tyD, istyD, excD, q_lt, q_le, q_gt, q_ge, q_eq, q_ne, q_add, q_sub, q_shift, b_max, b_min, isiD, isiT, b_lent, b_lenl, b_tupl, b_tupt, b_lstl, b_lstt, b_suml, b_sumt, stE, itR, itemsOf, argsOf, callOf, slotsOf, putBack, fitL, line, len_row, this]
      · rw [ej, List.drop_length]
        rfl
theorem loop4 (Φ : Nat → Fn) (ns : List Int) (hz : ns.length ≤ 100000) : ∀ (n : Nat) (l : List (Int × Int)) (k : Nat) (e : Sl), k ≤ ns.length → ns.length < n + k → l.length ≤ k →
    ∃ (l' : List (Int × Int)) (e' : Sl), wLoop (dE Φ runsT2) (dS Φ runsB2) n [.fz (rowD ns), .ol (runD l), .fz (.int (k : Nat)), e] = .ok (.nx [.fz (rowD ns), .ol (runD (l ++ rle (ns.drop k))), .fz (.int (ns.length : Nat)), e'])
  | 0, l, k, e, h1, h2, h3 => by omega
  | n + 1, l, k, e, h1, h2, h3 => by
    by_cases hk : k < ns.length
    · obtain ⟨j', g1, g2, g3, g4⟩ := inner4 Φ ns (.ol (runD l)) k hk 1000000 k (Nat.le_refl _) h1 (by omega)
      have hd : ns.drop k = ns[k] :: ns.drop (k + 1) := List.drop_eq_getElem_cons hk
      have e0 : rle (ns.drop k) = (ns[k], (j' : Int) - k) :: rle (ns.drop j') := by
        rw [← g4, hd]
        show rleA ns[k] 1 (ns.drop (k + 1)) = (if ns[k] = ns[k] then rleA ns[k] ((k : Int) - k + 1) (ns.drop (k + 1)) else _)
        rw [if_pos rfl]
        congr 1
        omega
      have kj : k < j' := by
        rcases Nat.lt_or_ge k j' with z | z
        · exact z
        · exfalso
          have ej : j' = k := by omega
          subst ej
          rw [e0] at g4
          have := congrArg List.length e0
          simp at this
      obtain ⟨l', e', g5⟩ := loop4 Φ ns hz n (l ++ [(ns[k], (j' : Int) - k)]) j' (.fz (.int (j' : Nat))) g2 (by omega) (by simp; omega)
      refine ⟨l', e', ?_⟩
      rw [e0]
      have c1 : ((k : Int) < (ns.length : Int)) := by omega
      have c2 : (runD l).length < 16777216 := by unfold runD; rw [List.length_map]; omega
      generalize hfu : 1000000 = fu at g3
      rw [List.append_assoc] at g5
      have e3 : runD l ++ [PyData.tuple [.int ns[k], .int ((j' : Int) - k)]] = runD (l ++ [(ns[k], (j' : Int) - k)]) := by rw [runD_app]; rfl
      have st : dS Φ runsB2 [.fz (rowD ns), .ol (runD l), .fz (.int (k : Nat)), e] = .ok (.nx [.fz (rowD ns), .ol (runD (l ++ [(ns[k], (j' : Int) - k)])), .fz (.int (j' : Nat)), .fz (.int (j' : Nat))]) := by
        rw [← e3]
        simp [runsB2, dS, dE, dA, un1, un2, opnd, loc?, owned?, Res.bind, Res.of, Arg.view, Sl.dat, Sl.item, blD, bo, tyD, istyD, excD, q_lt, q_le, q_gt, q_ge, q_eq, q_ne, q_add, q_sub, q_shift, b_max, b_min, isiD, isiT, b_lent, b_lenl, b_tupl, b_tupt, b_lstl, b_lstt, b_suml, b_sumt, stE, itR, itemsOf, argsOf, callOf, slotsOf, putBack, fitL, line, hfu, g3, ix_row hk, olD, c2]
      rw [wh_step (e1 := [.fz (rowD ns), .ol (runD l), .fz (.int (k : Nat)), e]) (by simp [runsT2, dS, dE, dA, un1, un2, opnd, loc?, owned?, Res.bind, Res.of, Arg.view, Sl.dat, Sl.item, blD, bo, tyD, istyD, excD, q_lt, q_le, q_gt, q_ge, q_eq, q_ne, q_add, q_sub, q_shift, b_max, b_min, isiD, isiT, b_lent, b_lenl, b_tupl, b_tupt, b_lstl, b_lstt, b_suml, b_sumt, stE, itR, itemsOf, argsOf, callOf, slotsOf, putBack, fitL, line, len_row, c1]) st]
      exact g5
    · have ek : k = ns.length := by omega
      refine ⟨l, e, ?_⟩
      have c1 : ¬ ((k : Int) < (ns.length : Int)) := by omega
      rw [wh_end (e1 := [.fz (rowD ns), .ol (runD l), .fz (.int (k : Nat)), e]) (by simp [runsT2, dS, dE, dA, un1, un2, opnd, loc?, owned?, Res.bind, Res.of, Arg.view, Sl.dat, Sl.item, blD, bo, tyD, istyD, excD, q_lt, q_le, q_gt, q_ge, q_eq, q_ne, q_add, q_sub, q_shift, b_max, b_min, isiD, isiT, b_lent, b_lenl, b_tupl, b_tupt, b_lstl, b_lstt, b_suml, b_sumt, stE, itR, itemsOf, argsOf, callOf, slotsOf, putBack, fitL, line, len_row, c1]), ek, List.drop_length]
      show Res.ok _ = Res.ok _
      rw [show l ++ rle [] = l from List.append_nil l]
theorem runs_ok (Φ : Nat → Fn) : RunsOk (mkFn [] 1 3 (dS Φ cRuns)) := by
  intro ns hz
  obtain ⟨l', e', h⟩ := loop4 Φ ns hz 1000000 [] 0 .un (Nat.zero_le _) (by omega) (Nat.le_refl _)
  generalize hfu : 1000000 = fu at h
  simp only [List.nil_append, List.drop_zero] at h
  have h0 : runD [] = [] := rfl
  rw [h0] at h
  have h1 : wLoop (dE Φ runsT2) (dS Φ runsB2) fu [.fz (rowD ns), .ol [], .fz (.int 0), .un] = _ := h
  simp [mkFn, runB, cRuns, dS, dE, dA, un1, un2, opnd, loc?, owned?, Res.bind, Res.of, Arg.view, Sl.dat, Sl.item, blD, bo, tyD, istyD, excD, q_lt, q_le, q_gt, q_ge, q_eq, q_ne, q_add, q_sub, q_shift, b_max, b_min, isiD, isiT, b_lent, b_lenl, b_tupl, b_tupt, b_lstl, b_lstt, b_suml, b_sumt, stE, itR, itemsOf, argsOf, callOf, slotsOf, putBack, fitL, line, hfu, h1, outs, outS]
end Gd
set_option maxHeartbeats 4000000
set_option exponentiation.threshold 4000
namespace Gd
open PySem PySem.Spec PyProof.Rows L2 Vl Rm
/-! is_integer, is_row, check_row -/
def isInt (d : PyData) : Bool := match d with | .int _ => true | _ => false
def IntOk (fn : Fn) : Prop := ∀ d, excD d = false → fn.run [.fz d] = .ok (.fz (.bool (isInt d)), [.fz d])
/-- no exception, nor a tuple of such -/
def noX (d : PyData) : Bool := !excD d && (match d with | .tuple xs => xs.all (fun x => !excD x) | _ => true)
def cInt : CS :=
 (.seq (.ret (.and (.isi (.loc 0) "int") (.nt (.isi (.loc 0) "bool"))))
 .nil)
theorem int_ok (Φ : Nat → Fn) : IntOk (mkFn [] 1 0 (dS Φ cInt)) := by
  intro d h
  cases d with
  | dict kvs => cases kvs <;> first | rfl | cases h
  | _ => rfl
def rowC : Int → List PyData → Bool
  | _, [] => true
  | m, .int i :: r => if i = 1 then rowC m r else if 1 < i ∧ i ≤ m then rowC (m - (i - 1)) r else false
  | _, _ :: _ => false
def isRowC (d : PyData) : Bool := match d with
  | .tuple xs => decide (1 ≤ xs.length) && decide (xs.length ≤ 200) && rowC (201 - (xs.length : Int)) xs
  | _ => false
def IsRowOk (fn : Fn) : Prop := ∀ d, noX d = true → fn.run [.fz d] = .ok (.fz (.bool (isRowC d)), [.fz d])
def isRowB (i : Nat) : CS :=
 (.seq (.ite (.and (.isty true (.loc 2) "int") (.nt (.call i (.cons (.loc 2) .nil))))
 (.seq (.ret (.bl false))
 .nil)
 .nil)
 (.seq (.ite (.cmp .ne (.loc 2) (.int 1))
 (.seq (.ite (.nt (.chn .lt .le (.int 1) (.loc 2) (.loc 1)))
 (.seq (.ret (.bl false))
 .nil)
 .nil)
 (.seq (.aug 1 true (.bin .sub (.loc 2) (.int 1)))
 .nil))
 .nil)
 .nil))
def cIsRow (i : Nat) : CS :=
 (.seq (.ite (.or (.nt (.isi (.loc 0) "tuple")) (.nt (.chn .le .le (.int 1) (.b1 .len (.loc 0)) (.gl "MOST_SUM" (.inl 200)))))
 (.seq (.ret (.bl false))
 .nil)
 .nil)
 (.seq (.asg (.loc 1) (.bin .sub (.bin .add (.gl "MOST_SUM" (.inl 200)) (.int 1)) (.b1 .len (.loc 0))))
 (.seq (.fr (.loc 2) (.loc 0) (isRowB i))
 (.seq (.ret (.bl true))
 .nil))))
theorem body8 (Φ : Nat → Fn) (j : Nat) (v : Sl) (m i : Int) : dS Φ (isRowB j) [v, .fz (.int m), .fz (.int i)] = .ok (if i = 1 then .nx [v, .fz (.int m), .fz (.int i)] else if 1 < i ∧ i ≤ m then .nx [v, .fz (.int (m - (i - 1))), .fz (.int i)] else .rt (.fz (.bool false)) [v, .fz (.int m), .fz (.int i)]) := by
  by_cases h1 : i = 1
  · subst h1; rfl
  · by_cases h2 : 1 < i
    · by_cases h3 : i ≤ m <;> simp [isRowB, dS, dE, un1, un2, opnd, loc?, owned?, Res.bind, Res.of, Arg.view, Sl.dat, blD, bo, tyD, istyD, excD, q_lt, q_le, q_ne, q_sub, intS, h1, h2, h3]
    · simp [isRowB, dS, dE, un1, un2, opnd, loc?, owned?, Res.bind, Res.of, Arg.view, Sl.dat, blD, bo, tyD, istyD, excD, q_lt, q_le, q_ne, q_sub, intS, h1, h2]
theorem none8 {Φ : Nat → Fn} {j : Nat} (hi : IntOk (Φ j)) (v : Sl) (m : Int) (d : PyData) (hx : excD d = false) (h : isInt d = false) : ∃ e', dS Φ (isRowB j) [v, .fz (.int m), .fz d] = .ok (.rt (.fz (.bool false)) [v, .fz (.int m), .fz d]) ∧ e' = ([v, .fz (.int m), .fz d] : List Sl) := by
  have h2 := hi d hx
  rw [h] at h2
  refine ⟨_, ?_, rfl⟩
  cases d with
  | dict kvs =>
    cases kvs with
    | nil => simp [isRowB, dS, dE, dA, un1, un2, opnd, loc?, owned?, Res.bind, Res.of, Arg.view, Sl.dat, Sl.item, blD, bo, tyD, istyD, excD, q_lt, q_le, q_gt, q_ge, q_eq, q_ne, q_add, q_sub, q_shift, b_max, b_min, isiD, isiT, b_lent, b_lenl, b_tupl, b_tupt, b_lstl, b_lstt, b_suml, b_sumt, stE, itR, itemsOf, argsOf, callOf, slotsOf, putBack, fitL, line, h2]
    | cons _ _ => cases hx
  | _ => first | (cases h; done) | simp [isRowB, dS, dE, dA, un1, un2, opnd, loc?, owned?, Res.bind, Res.of, Arg.view, Sl.dat, Sl.item, blD, bo, tyD, istyD, excD, q_lt, q_le, q_gt, q_ge, q_eq, q_ne, q_add, q_sub, q_shift, b_max, b_min, isiD, isiT, b_lent, b_lenl, b_tupl, b_tupt, b_lstl, b_lstt, b_suml, b_sumt, stE, itR, itemsOf, argsOf, callOf, slotsOf, putBack, fitL, line, h2]
theorem loop8 {Φ : Nat → Fn} {j : Nat} (hi : IntOk (Φ j)) (v : Sl) : ∀ (xs : List PyData) (m : Int) (e : Sl), xs.all (fun x => !excD x) = true → ∃ e', fLoop (.loc 2) (dS Φ (isRowB j)) xs [v, .fz (.int m), e] = .ok (if rowC m xs then .nx e' else .rt (.fz (.bool false)) e') ∧ e'[0]? = some v
  | [], m, e, _ => ⟨_, rfl, rfl⟩
  | d :: r, m, e, hX => by
    rw [List.all_cons, Bool.and_eq_true] at hX
    have hx : excD d = false := by simpa using hX.1
    have st : fLoop (.loc 2) (dS Φ (isRowB j)) (d :: r) [v, .fz (.int m), e] = (dS Φ (isRowB j) [v, .fz (.int m), .fz d]).bind fun f => (match f with
        | .nx e => fLoop (.loc 2) (dS Φ (isRowB j)) r e
        | .ct e => fLoop (.loc 2) (dS Φ (isRowB j)) r e
        | .bk e => .ok (.nx e)
        | .rt s e => .ok (.rt s e)) := rfl
    by_cases hd : isInt d = true
    · cases d with
      | int i =>
        rw [st, body8]
        by_cases h1 : i = 1
        · obtain ⟨e', h, h'⟩ := loop8 hi v r m (.fz (.int i)) hX.2
          exact ⟨e', by simp [rowC, h1, Res.bind] at h ⊢; exact h, h'⟩
        · by_cases h2 : 1 < i ∧ i ≤ m
          · obtain ⟨e', h, h'⟩ := loop8 hi v r (m - (i - 1)) (.fz (.int i)) hX.2
            exact ⟨e', by simp [rowC, h1, h2, Res.bind] at h ⊢; exact h, h'⟩
          · exact ⟨_, by simp [rowC, h1, h2, Res.bind]; rfl, rfl⟩
      | _ => cases hd
    · obtain ⟨_, h, _⟩ := none8 hi v m d hx (by simpa using hd)
      rw [st, h]
      refine ⟨[v, .fz (.int m), .fz d], ?_, rfl⟩
      have : rowC m (d :: r) = false := by cases d <;> first | rfl | exact absurd rfl hd
      rw [this]
      rfl
theorem isrow_ok {Φ : Nat → Fn} {j : Nat} (hi : IntOk (Φ j)) : IsRowOk (mkFn [] 1 2 (dS Φ (cIsRow j))) := by
  intro d hX
  cases d with
  | dict kvs => cases kvs <;> first | rfl | (simp [noX, excD] at hX)
  | tuple xs =>
    replace hX : xs.all (fun x => !excD x) = true := by simpa [noX, excD] using hX
    by_cases h1 : 1 ≤ xs.length
    · by_cases h2 : xs.length ≤ 200
      · obtain ⟨e', h, h'⟩ := loop8 hi (.fz (.tuple xs)) xs (201 - (xs.length : Int)) .un hX
        have g1 : (1 : Int) ≤ xs.length := by omega
        have g2 : (xs.length : Int) ≤ 200 := by omega
        simp [mkFn, runB, cIsRow, dS, dE, dA, un1, un2, opnd, loc?, owned?, Res.bind, Res.of, Arg.view, Sl.dat, Sl.item, blD, bo, tyD, istyD, excD, q_lt, q_le, q_gt, q_ge, q_eq, q_ne, q_add, q_sub, q_shift, b_max, b_min, isiD, isiT, b_lent, b_lenl, b_tupl, b_tupt, b_lstl, b_lstt, b_suml, b_sumt, stE, itR, itemsOf, argsOf, callOf, slotsOf, putBack, fitL, line, intS, g1, g2, seqD]
        rw [h]
        cases hr : rowC (201 - (xs.length : Int)) xs <;> simp [outs, outS, isRowC, h1, h2, hr]
      · have g1 : (1 : Int) ≤ xs.length := by omega
        have g2 : ¬ (xs.length : Int) ≤ 200 := by omega
        simp [mkFn, runB, cIsRow, dS, dE, dA, un1, un2, opnd, loc?, owned?, Res.bind, Res.of, Arg.view, Sl.dat, Sl.item, blD, bo, tyD, istyD, excD, q_lt, q_le, q_gt, q_ge, q_eq, q_ne, q_add, q_sub, q_shift, b_max, b_min, isiD, isiT, b_lent, b_lenl, b_tupl, b_tupt, b_lstl, b_lstt, b_suml, b_sumt, stE, itR, itemsOf, argsOf, callOf, slotsOf, putBack, fitL, line, intS, g1, g2, outs, outS, isRowC, h2]
    · have g1 : ¬ (1 : Int) ≤ xs.length := by omega
      simp [mkFn, runB, cIsRow, dS, dE, dA, un1, un2, opnd, loc?, owned?, Res.bind, Res.of, Arg.view, Sl.dat, Sl.item, blD, bo, tyD, istyD, excD, q_lt, q_le, q_gt, q_ge, q_eq, q_ne, q_add, q_sub, q_shift, b_max, b_min, isiD, isiT, b_lent, b_lenl, b_tupl, b_tupt, b_lstl, b_lstt, b_suml, b_sumt, stE, itR, itemsOf, argsOf, callOf, slotsOf, putBack, fitL, line, intS, g1, outs, outS, isRowC, h1]
  | _ => rfl
theorem rowC_all : ∀ (xs : List PyData) (m : Int), rowC m xs = true → xs.all (fun x => !excD x) = true
  | [], _, _ => rfl
  | .int i :: r, m, h => by
    replace h : (if i = 1 then rowC m r else if 1 < i ∧ i ≤ m then rowC (m - (i - 1)) r else false) = true := h
    show (true && r.all (fun x => !excD x)) = true
    split at h
    · rw [rowC_all r _ h]; rfl
    · split at h
      · rw [rowC_all r _ h]; rfl
      · cases h
  | .none :: _, _, h => by cases h
  | .bool _ :: _, _, h => by cases h
  | .str _ :: _, _, h => by cases h
  | .list _ :: _, _, h => by cases h
  | .tuple _ :: _, _, h => by cases h
  | .dict _ :: _, _, h => by cases h
theorem rowC_noX {d : PyData} (h : isRowC d = true) : noX d = true := by
  unfold isRowC at h
  split at h
  · rw [Bool.and_eq_true] at h
    exact rowC_all _ _ h.2
  · cases h
def CheckOk (fn : Fn) : Prop := ∀ d, isRowC d = true → fn.run [.fz d] = .ok (.fz .none, [.fz d])
def cCheck (i : Nat) : CS :=
 (.seq (.ite (.nt (.call i (.cons (.loc 0) .nil)))
 (.seq .nev
 .nil)
 .nil)
 .nil)
theorem check_ok {Φ : Nat → Fn} {j : Nat} (hi : IsRowOk (Φ j)) : CheckOk (mkFn [] 1 0 (dS Φ (cCheck j))) := by
  intro d h
  have r := hi d (rowC_noX h)
  rw [h] at r
  simp [mkFn, runB, cCheck, dS, dE, dA, un1, un2, opnd, loc?, owned?, Res.bind, Res.of, Arg.view, Sl.dat, Sl.item, blD, bo, tyD, istyD, excD, q_lt, q_le, q_gt, q_ge, q_eq, q_ne, q_add, q_sub, q_shift, b_max, b_min, isiD, isiT, b_lent, b_lenl, b_tupl, b_tupt, b_lstl, b_lstt, b_suml, b_sumt, stE, itR, itemsOf, argsOf, callOf, slotsOf, putBack, fitL, line, r, outs, outS]
/-- the same, with its exception -/
def cCheckR (i : Nat) : CS :=
 (.seq (.ite (.nt (.call i (.cons (.loc 0) .nil)))
 (.seq (.rai "InvalidRow")
 .nil)
 .nil)
 .nil)
def CheckBad (fn : Fn) : Prop := ∀ d, noX d = true → isRowC d = false → fn.run [.fz d] = .exc "InvalidRow"
theorem check_okR {Φ : Nat → Fn} {j : Nat} (hi : IsRowOk (Φ j)) : CheckOk (mkFn [] 1 0 (dS Φ (cCheckR j))) ∧ CheckBad (mkFn [] 1 0 (dS Φ (cCheckR j))) := by
  refine ⟨fun d h => ?_, fun d hx h => ?_⟩
  · have r := hi d (rowC_noX h)
    rw [h] at r
    simp [mkFn, runB, cCheckR, dS, dE, dA, un1, un2, opnd, loc?, owned?, Res.bind, Res.of, Arg.view, Sl.dat, Sl.item, blD, bo, tyD, istyD, excD, q_lt, q_le, q_gt, q_ge, q_eq, q_ne, q_add, q_sub, q_shift, b_max, b_min, isiD, isiT, b_lent, b_lenl, b_tupl, b_tupt, b_lstl, b_lstt, b_suml, b_sumt, stE, itR, itemsOf, argsOf, callOf, slotsOf, putBack, fitL, line, r, outs, outS]
  · have r := hi d hx
    rw [h] at r
    simp [mkFn, runB, cCheckR, dS, dE, dA, un1, un2, opnd, loc?, owned?, Res.bind, Res.of, Arg.view, Sl.dat, Sl.item, blD, bo, tyD, istyD, excD, q_lt, q_le, q_gt, q_ge, q_eq, q_ne, q_add, q_sub, q_shift, b_max, b_min, isiD, isiT, b_lent, b_lenl, b_tupl, b_tupt, b_lstl, b_lstt, b_suml, b_sumt, stE, itR, itemsOf, argsOf, callOf, slotsOf, putBack, fitL, line, r, outs, outS]
theorem rowC_ints : ∀ (ns : List Int) (m : Int), (∀ n ∈ ns, 1 ≤ n) → ns.sum - (ns.length : Int) ≤ m - 1 → rowC m (ns.map .int) = true
  | [], m, _, _ => rfl
  | i :: r, m, h, hs => by
    have hi := h i List.mem_cons_self
    have hr : ∀ n ∈ r, 1 ≤ n := fun n hn => h n (List.mem_cons_of_mem _ hn)
    have hl := len_sum r hr
    rw [List.sum_cons, List.length_cons] at hs
    show (if i = 1 then rowC m (r.map .int) else if 1 < i ∧ i ≤ m then rowC (m - (i - 1)) (r.map .int) else false) = true
    by_cases h1 : i = 1
    · rw [if_pos h1]
      exact rowC_ints r m hr (by omega)
    · rw [if_neg h1, if_pos (by omega)]
      exact rowC_ints r _ hr (by omega)
theorem isRow_of (ns : List Int) (h0 : ns ≠ []) (h : ∀ n ∈ ns, 1 ≤ n) (hs : ns.sum ≤ 200) : isRowC (rowD ns) = true := by
  have hl := len_sum ns h
  have hp : 0 < ns.length := List.length_pos_iff.mpr h0
  show (decide (1 ≤ (ns.map PyData.int).length) && decide ((ns.map PyData.int).length ≤ 200) && rowC (201 - ((ns.map PyData.int).length : Int)) (ns.map .int)) = true
  rw [List.length_map, rowC_ints ns _ h (by omega), decide_eq_true (by omega), decide_eq_true (by omega)]
  rfl
/-! grouped -/
def GroupedOk (fn : Fn) : Prop := ∀ ns : List Int, ns ≠ [] → ns.length ≤ 10000 → fn.run [.fz (rowD ns)] = .ok (.ol (runD (rle ns)), [.fz (rowD ns)])
def groupedB : CS :=
 (.seq (.ite (.cmp .eq (.loc 4) (.loc 2))
 (.seq (.aug 3 false (.int 1))
 .nil)
 (.seq (.app 1 (.tup (.cons (.loc 2) (.cons (.loc 3) .nil))))
 (.seq (.asg (.loc 2) (.loc 4))
 (.seq (.asg (.loc 3) (.int 1))
 .nil))))
 .nil)
def cGrouped : CS :=
 (.seq (.asg (.loc 1) (.lst .nil))
 (.seq (.asg (.loc 2) (.ix (.loc 0) (.int 0)))
 (.seq (.asg (.loc 3) (.int 0))
 (.seq (.fr (.loc 4) (.loc 0) groupedB)
 (.seq (.app 1 (.tup (.cons (.loc 2) (.cons (.loc 3) .nil))))
 (.seq (.retM 1)
 .nil))))))
theorem loop10 (Φ : Nat → Fn) (v : Sl) : ∀ (ns : List Int) (l : List (Int × Int)) (x k : Int) (e : Sl), l.length + ns.length ≤ 100000 →
    ∃ (l' : List (Int × Int)) (x' k' : Int) (e' : Sl), fLoop (.loc 4) (dS Φ groupedB) (ns.map .int) [v, .ol (runD l), .fz (.int x), .fz (.int k), e] = .ok (.nx [v, .ol (runD l'), .fz (.int x'), .fz (.int k'), e']) ∧ l' ++ [(x', k')] = l ++ rleA x k ns ∧ l'.length ≤ l.length + ns.length
  | [], l, x, k, e, hz => ⟨l, x, k, e, rfl, rfl, Nat.le_refl _⟩
  | y :: r, l, x, k, e, hz => by
    rw [List.length_cons] at hz
    by_cases h : y = x
    · obtain ⟨l', x', k', e', g1, g2, g3⟩ := loop10 Φ v r l x (k + 1) (.fz (.int y)) (by omega)
      refine ⟨l', x', k', e', ?_, ?_, by rw [List.length_cons]; omega⟩
      · rw [← g1]
        have st : dS Φ groupedB [v, .ol (runD l), .fz (.int x), .fz (.int k), .fz (.int y)] = .ok (.nx [v, .ol (runD l), .fz (.int x), .fz (.int (k + 1)), .fz (.int y)]) := by
          simp [groupedB, dS, dE, dA, un1, un2, opnd, loc?, owned?, Res.bind, Res.of, Arg.view, Sl.dat, Sl.item, blD, bo, tyD, istyD, excD, q_lt, q_le, q_gt, q_ge, q_eq, q_ne, q_add, q_sub, q_shift, b_max, b_min, isiD, isiT, b_lent, b_lenl, b_tupl, b_tupt, b_lstl, b_lstt, b_suml, b_sumt, stE, itR, itemsOf, argsOf, callOf, slotsOf, putBack, fitL, line, h, intS]
        show ((dS Φ groupedB [v, .ol (runD l), .fz (.int x), .fz (.int k), .fz (.int y)]).bind _) = _
        rw [st]
        rfl
      · rw [g2]
        show l ++ rleA x (k + 1) r = l ++ (if y = x then rleA x (k + 1) r else _)
        rw [if_pos h]
    · obtain ⟨l', x', k', e', g1, g2, g3⟩ := loop10 Φ v r (l ++ [(x, k)]) y 1 (.fz (.int y)) (by simp; omega)
      refine ⟨l', x', k', e', ?_, ?_, by rw [List.length_append] at g3; simp at g3 ⊢; omega⟩
      · rw [← g1]
        have c2 : (runD l).length < 16777216 := by unfold runD; rw [List.length_map]; omega
        have e3 : runD l ++ [PyData.tuple [.int x, .int k]] = runD (l ++ [(x, k)]) := by rw [runD_app]; rfl
        have st : dS Φ groupedB [v, .ol (runD l), .fz (.int x), .fz (.int k), .fz (.int y)] = .ok (.nx [v, .ol (runD (l ++ [(x, k)])), .fz (.int y), .fz (.int 1), .fz (.int y)]) := by
          rw [← e3]
          simp [groupedB, dS, dE, dA, un1, un2, opnd, loc?, owned?, Res.bind, Res.of, Arg.view, Sl.dat, Sl.item, blD, bo, tyD, istyD, excD, q_lt, q_le, q_gt, q_ge, q_eq, q_ne, q_add, q_sub, q_shift, b_max, b_min, isiD, isiT, b_lent, b_lenl, b_tupl, b_tupt, b_lstl, b_lstt, b_suml, b_sumt, stE, itR, itemsOf, argsOf, callOf, slotsOf, putBack, fitL, line, h, intS, olD, c2]
        show ((dS Φ groupedB [v, .ol (runD l), .fz (.int x), .fz (.int k), .fz (.int y)]).bind _) = _
        rw [st]
        rfl
      · rw [g2, List.append_assoc]
        show l ++ ((x, k) :: rleA y 1 r) = l ++ (if y = x then _ else (x, k) :: rleA y 1 r)
        rw [if_neg h]
theorem grouped_ok (Φ : Nat → Fn) : GroupedOk (mkFn [] 1 4 (dS Φ cGrouped)) := by
  intro ns h0 hz
  cases ns with
  | nil => exact absurd rfl h0
  | cons x r =>
    rw [List.length_cons] at hz
    obtain ⟨l', x', k', e', g1, g2, g3⟩ := loop10 Φ (.fz (rowD (x :: r))) (x :: r) [] x 0 .un (by simp; omega)
    have c2 : (runD l').length < 16777216 := by unfold runD; rw [List.length_map]; simp at g3; omega
    have e3 : runD l' ++ [PyData.tuple [.int x', .int k']] = runD (rle (x :: r)) := by
      have : runD (l' ++ [(x', k')]) = runD l' ++ [PyData.tuple [.int x', .int k']] := by rw [runD_app]; rfl
      rw [← this, g2, List.nil_append]
      show runD (if x = x then rleA x (0 + 1) r else _) = _
      rw [if_pos rfl]
      rfl
    have h0 : ixD (rowD (x :: r)) (.int 0) = some (.int x) := ix_row (ns := x :: r) (j := 0) (Nat.succ_pos _)
    have hs : seqD (rowD (x :: r)) = some ((x :: r).map .int) := rfl
    have hn : runD [] = [] := rfl
    rw [hn] at g1
    rw [← e3]
    simp only [List.map_cons] at g1 hs
    simp [mkFn, runB, cGrouped, dS, dE, dA, un1, un2, opnd, loc?, owned?, Res.bind, Res.of, Arg.view, Sl.dat, Sl.item, blD, bo, tyD, istyD, excD, q_lt, q_le, q_gt, q_ge, q_eq, q_ne, q_add, q_sub, q_shift, b_max, b_min, isiD, isiT, b_lent, b_lenl, b_tupl, b_tupt, b_lstl, b_lstt, b_suml, b_sumt, stE, itR, itemsOf, argsOf, callOf, slotsOf, putBack, fitL, line, h0, hs, g1, olD, c2, outs, outS]
/-! spread -/
def SpreadOk (fn : Fn) : Prop := ∀ l : List (Int × Int), (∀ p ∈ l, 1 ≤ p.2) → (flat l).length ≤ 100000 → fn.run [.fz (.list (runD l))] = .ok (.fz (rowD (flat l)), [.fz (.list (runD l))])
def spreadB : CS :=
 (.seq (.ext 1 (.bin .mul (.lst (.cons (.loc 2) .nil)) (.loc 3)))
 .nil)
def cSpread : CS :=
 (.seq (.asg (.loc 1) (.lst .nil))
 (.seq (.fr (.tup (.cons (.loc 2) (.cons (.loc 3) .nil))) (.loc 0) spreadB)
 (.seq (.ret (.b1 .tuple (.loc 1)))
 .nil)))
theorem loop17 (Φ : Nat → Fn) (v : Sl) : ∀ (l : List (Int × Int)) (acc : List Int) (e2 e3 : Sl), (∀ p ∈ l, 1 ≤ p.2) → (acc ++ flat l).length ≤ 100000 →
    ∃ e2' e3', fLoop (.tup (.cons (.loc 2) (.cons (.loc 3) .nil))) (dS Φ spreadB) (runD l) [v, .ol (acc.map .int), e2, e3] = .ok (.nx [v, .ol ((acc ++ flat l).map .int), e2', e3'])
  | [], acc, e2, e3, h, hz => ⟨e2, e3, by
    have : acc ++ flat [] = acc := List.append_nil acc
    rw [this]; rfl⟩
  | (x, k) :: l, acc, e2, e3, h, hz => by
    have hk := h (x, k) List.mem_cons_self
    have hk : 1 ≤ k := hk
    rw [flat_cons, ← List.append_assoc] at hz
    obtain ⟨f2, f3, g⟩ := loop17 Φ v l (acc ++ List.replicate k.toNat x) (.fz (.int x)) (.fz (.int k)) (fun p hp => h p (List.mem_cons_of_mem _ hp)) hz
    refine ⟨f2, f3, ?_⟩
    rw [flat_cons, ← List.append_assoc, ← g]
    simp only [List.length_append, List.length_replicate] at hz
    have hrep := q_rep [PyData.int x] k (by omega) (by simp; omega) (by omega)
    rw [rep_one] at hrep
    have hc2 : acc.length + k.toNat ≤ 16777216 := by omega
    have e3 : acc.map PyData.int ++ List.replicate k.toNat (PyData.int x) = (acc ++ List.replicate k.toNat x).map .int := by rw [List.map_append, List.map_replicate]
    have st : dS Φ spreadB [v, .ol (acc.map .int), .fz (.int x), .fz (.int k)] = .ok (.nx [v, .ol ((acc ++ List.replicate k.toNat x).map .int), .fz (.int x), .fz (.int k)]) := by
      rw [← e3]
      simp [spreadB, dS, dE, dA, un1, un2, opnd, loc?, owned?, Res.bind, Res.of, Arg.view, Sl.dat, Sl.item, blD, bo, tyD, istyD, excD, q_lt, q_le, q_gt, q_ge, q_eq, q_ne, q_add, q_sub, q_shift, b_max, b_min, isiD, isiT, b_lent, b_lenl, b_tupl, b_tupt, b_lstl, b_lstt, b_suml, b_sumt, stE, itR, itemsOf, argsOf, callOf, slotsOf, putBack, fitL, line, olD, hrep, hc2]
    show ((dS Φ spreadB [v, .ol (acc.map .int), .fz (.int x), .fz (.int k)]).bind _) = _
    rw [st]
    rfl
theorem spread_ok (Φ : Nat → Fn) : SpreadOk (mkFn [] 1 3 (dS Φ cSpread)) := by
  intro l h hz
  obtain ⟨e2, e3, g⟩ := loop17 Φ (.fz (.list (runD l))) l [] .un .un h hz
  have hs : seqD (.list (runD l)) = some (runD l) := rfl
  simp only [List.map_nil, List.nil_append] at g
  unfold rowD
  simp [mkFn, runB, cSpread, dS, dE, dA, un1, un2, opnd, loc?, owned?, Res.bind, Res.of, Arg.view, Sl.dat, Sl.item, blD, bo, tyD, istyD, excD, q_lt, q_le, q_gt, q_ge, q_eq, q_ne, q_add, q_sub, q_shift, b_max, b_min, isiD, isiT, b_lent, b_lenl, b_tupl, b_tupt, b_lstl, b_lstt, b_suml, b_sumt, stE, itR, itemsOf, argsOf, callOf, slotsOf, putBack, fitL, line, hs, g, outs, outS]
/-! lengths_differ, lengths_are_numbers -/
def DifferOk (fn : Fn) : Prop := ∀ l : List (Int × Int), (∀ p ∈ l, 1 ≤ p.2) → fn.run [.fz (.list (runD l))] = .ok (.fz (.bool (calm l)), [.fz (.list (runD l))])
def differB : CS :=
 (.seq (.ite (.cmp .eq (.loc 3) (.loc 1))
 (.seq (.ret (.bl false))
 .nil)
 .nil)
 (.seq (.asg (.loc 1) (.loc 3))
 .nil))
def cDiffer : CS :=
 (.seq (.asg (.loc 1) (.int 0))
 (.seq (.fr (.tup (.cons (.loc 2) (.cons (.loc 3) .nil))) (.loc 0) differB)
 (.seq (.ret (.bl true))
 .nil)))
theorem differ_loop (Φ : Nat → Fn) (v : Sl) : ∀ (l : List (Int × Int)) (w x : Int) (e2 e3 : Sl), ∃ e', fLoop (.tup (.cons (.loc 2) (.cons (.loc 3) .nil))) (dS Φ differB) (runD l) [v, .fz (.int x), e2, e3] = .ok (if calm ((w, x) :: l) then .nx e' else .rt (.fz (.bool false)) e') ∧ e'[0]? = some v
  | [], w, x, e2, e3 => ⟨_, rfl, rfl⟩
  | (y, k) :: l, w, x, e2, e3 => by
    obtain ⟨e', g, h⟩ := differ_loop Φ v l y k (.fz (.int y)) (.fz (.int k))
    have hc : calm ((w, x) :: (y, k) :: l) = (decide (x ≠ k) && calm ((y, k) :: l)) := rfl
    by_cases hk : k = x
    · refine ⟨[v, .fz (.int x), .fz (.int y), .fz (.int k)], ?_, rfl⟩
      rw [hc, decide_eq_false (by simp [hk]), Bool.false_and]
      have st : dS Φ differB [v, .fz (.int x), .fz (.int y), .fz (.int k)] = .ok (.rt (.fz (.bool false)) [v, .fz (.int x), .fz (.int y), .fz (.int k)]) := by
        simp [differB, dS, dE, dA, un1, un2, opnd, loc?, owned?, Res.bind, Res.of, Arg.view, Sl.dat, Sl.item, blD, bo, tyD, istyD, excD, q_lt, q_le, q_gt, q_ge, q_eq, q_ne, q_add, q_sub, q_shift, b_max, b_min, isiD, isiT, b_lent, b_lenl, b_tupl, b_tupt, b_lstl, b_lstt, b_suml, b_sumt, stE, itR, itemsOf, argsOf, callOf, slotsOf, putBack, fitL, line, hk]
      show ((dS Φ differB [v, .fz (.int x), .fz (.int y), .fz (.int k)]).bind _) = _
      rw [st]
      rfl
    · refine ⟨e', ?_, h⟩
      rw [hc, decide_eq_true (show x ≠ k from fun z => hk z.symm), Bool.true_and]
      have st : dS Φ differB [v, .fz (.int x), .fz (.int y), .fz (.int k)] = .ok (.nx [v, .fz (.int k), .fz (.int y), .fz (.int k)]) := by
        simp [differB, dS, dE, dA, un1, un2, opnd, loc?, owned?, Res.bind, Res.of, Arg.view, Sl.dat, Sl.item, blD, bo, tyD, istyD, excD, q_lt, q_le, q_gt, q_ge, q_eq, q_ne, q_add, q_sub, q_shift, b_max, b_min, isiD, isiT, b_lent, b_lenl, b_tupl, b_tupt, b_lstl, b_lstt, b_suml, b_sumt, stE, itR, itemsOf, argsOf, callOf, slotsOf, putBack, fitL, line, hk]
      show ((dS Φ differB [v, .fz (.int x), .fz (.int y), .fz (.int k)]).bind _) = _
      rw [st]
      exact g
theorem differ_ok (Φ : Nat → Fn) : DifferOk (mkFn [] 1 3 (dS Φ cDiffer)) := by
  intro l h
  obtain ⟨e', g, h'⟩ := differ_loop Φ (.fz (.list (runD l))) l 0 0 .un .un
  have hc : calm ((0, 0) :: l) = calm l := by
    cases l with
    | nil => rfl
    | cons p r =>
      have := h p List.mem_cons_self
      show (decide ((0 : Int) ≠ p.2) && calm (p :: r)) = _
      rw [decide_eq_true (by omega), Bool.true_and]
  rw [hc] at g
  have hs : seqD (.list (runD l)) = some (runD l) := rfl
  simp [mkFn, runB, cDiffer, dS, dE, dA, un1, un2, opnd, loc?, owned?, Res.bind, Res.of, Arg.view, Sl.dat, Sl.item, blD, bo, tyD, istyD, excD, q_lt, q_le, q_gt, q_ge, q_eq, q_ne, q_add, q_sub, q_shift, b_max, b_min, isiD, isiT, b_lent, b_lenl, b_tupl, b_tupt, b_lstl, b_lstt, b_suml, b_sumt, stE, itR, itemsOf, argsOf, callOf, slotsOf, putBack, fitL, line, hs]
  rw [g]
  cases calm l <;> simp [outs, outS]
def NumbersOk (fn : Fn) : Prop := ∀ l : List (Int × Int), fn.run [.fz (.list (runD l))] = .ok (.fz (.bool (l.all fun p => decide (p.1 = p.2))), [.fz (.list (runD l))])
def numbersB : CS :=
 (.seq (.ite (.cmp .ne (.loc 1) (.loc 2))
 (.seq (.ret (.bl false))
 .nil)
 .nil)
 .nil)
def cNumbers : CS :=
 (.seq (.fr (.tup (.cons (.loc 1) (.cons (.loc 2) .nil))) (.loc 0) numbersB)
 (.seq (.ret (.bl true))
 .nil))
theorem numbers_loop (Φ : Nat → Fn) (v : Sl) : ∀ (l : List (Int × Int)) (e1 e2 : Sl), ∃ e', fLoop (.tup (.cons (.loc 1) (.cons (.loc 2) .nil))) (dS Φ numbersB) (runD l) [v, e1, e2] = .ok (if l.all fun p => decide (p.1 = p.2) then .nx e' else .rt (.fz (.bool false)) e') ∧ e'[0]? = some v
  | [], e1, e2 => ⟨_, rfl, rfl⟩
  | (y, k) :: l, e1, e2 => by
    obtain ⟨e', g, h⟩ := numbers_loop Φ v l (.fz (.int y)) (.fz (.int k))
    by_cases hk : y = k
    · refine ⟨e', ?_, h⟩
      rw [List.all_cons, decide_eq_true hk, Bool.true_and]
      have st : dS Φ numbersB [v, .fz (.int y), .fz (.int k)] = .ok (.nx [v, .fz (.int y), .fz (.int k)]) := by
        simp [numbersB, dS, dE, dA, un1, un2, opnd, loc?, owned?, Res.bind, Res.of, Arg.view, Sl.dat, Sl.item, blD, bo, tyD, istyD, excD, q_lt, q_le, q_gt, q_ge, q_eq, q_ne, q_add, q_sub, q_shift, b_max, b_min, isiD, isiT, b_lent, b_lenl, b_tupl, b_tupt, b_lstl, b_lstt, b_suml, b_sumt, stE, itR, itemsOf, argsOf, callOf, slotsOf, putBack, fitL, line, hk]
      show ((dS Φ numbersB [v, .fz (.int y), .fz (.int k)]).bind _) = _
      rw [st]
      exact g
    · refine ⟨[v, .fz (.int y), .fz (.int k)], ?_, rfl⟩
      rw [List.all_cons, decide_eq_false hk, Bool.false_and]
      have st : dS Φ numbersB [v, .fz (.int y), .fz (.int k)] = .ok (.rt (.fz (.bool false)) [v, .fz (.int y), .fz (.int k)]) := by
        simp [numbersB, dS, dE, dA, un1, un2, opnd, loc?, owned?, Res.bind, Res.of, Arg.view, Sl.dat, Sl.item, blD, bo, tyD, istyD, excD, q_lt, q_le, q_gt, q_ge, q_eq, q_ne, q_add, q_sub, q_shift, b_max, b_min, isiD, isiT, b_lent, b_lenl, b_tupl, b_tupt, b_lstl, b_lstt, b_suml, b_sumt, stE, itR, itemsOf, argsOf, callOf, slotsOf, putBack, fitL, line, hk]
      show ((dS Φ numbersB [v, .fz (.int y), .fz (.int k)]).bind _) = _
      rw [st]
      rfl
theorem numbers_ok (Φ : Nat → Fn) : NumbersOk (mkFn [] 1 2 (dS Φ cNumbers)) := by
  intro l
  obtain ⟨e', g, h'⟩ := numbers_loop Φ (.fz (.list (runD l))) l .un .un
  have hs : seqD (.list (runD l)) = some (runD l) := rfl
  generalize (l.all fun p => decide (p.1 = p.2)) = b at g ⊢
  simp [mkFn, runB, cNumbers, dS, dE, dA, un1, un2, opnd, loc?, owned?, Res.bind, Res.of, Arg.view, Sl.dat, Sl.item, blD, bo, tyD, istyD, excD, q_lt, q_le, q_gt, q_ge, q_eq, q_ne, q_add, q_sub, q_shift, b_max, b_min, isiD, isiT, b_lent, b_lenl, b_tupl, b_tupt, b_lstl, b_lstt, b_suml, b_sumt, stE, itR, itemsOf, argsOf, callOf, slotsOf, putBack, fitL, line, hs]
  rw [g]
  cases b <;> simp [outs, outS]
/-! turned -/
def TurnedOk (fn : Fn) : Prop := ∀ l : List (Int × Int), l ≠ [] → l.length ≤ 10000 → fn.run [.fz (.list (runD l))] = .ok (.ol (runD (trn l)), [.fz (.list (runD l))])
def turnedB : CS :=
 (.seq (.ite (.cmp .eq (.loc 5) (.loc 2))
 (.seq (.asg (.loc 3) (.bin .add (.loc 3) (.loc 4)))
 .nil)
 (.seq (.app 1 (.tup (.cons (.loc 2) (.cons (.loc 3) .nil))))
 (.seq (.asg (.loc 2) (.loc 5))
 (.seq (.asg (.loc 3) (.loc 4))
 .nil))))
 .nil)
def cTurned : CS :=
 (.seq (.asg (.loc 1) (.lst .nil))
 (.seq (.asg (.loc 2) (.ix (.ix (.loc 0) (.int 0)) (.int 1)))
 (.seq (.asg (.loc 3) (.int 0))
 (.seq (.fr (.tup (.cons (.loc 4) (.cons (.loc 5) .nil))) (.loc 0) turnedB)
 (.seq (.app 1 (.tup (.cons (.loc 2) (.cons (.loc 3) .nil))))
 (.seq (.retM 1)
 .nil))))))
theorem turned_loop (Φ : Nat → Fn) (v : Sl) : ∀ (m : List (Int × Int)) (l : List (Int × Int)) (x k : Int) (e4 e5 : Sl), l.length + m.length ≤ 100000 →
    ∃ (l' : List (Int × Int)) (x' k' : Int) (e4' e5' : Sl), fLoop (.tup (.cons (.loc 4) (.cons (.loc 5) .nil))) (dS Φ turnedB) (runD m) [v, .ol (runD l), .fz (.int x), .fz (.int k), e4, e5] = .ok (.nx [v, .ol (runD l'), .fz (.int x'), .fz (.int k'), e4', e5']) ∧ l' ++ [(x', k')] = l ++ mrgA x k (swp m) ∧ l'.length ≤ l.length + m.length
  | [], l, x, k, e4, e5, hz => ⟨l, x, k, e4, e5, rfl, rfl, Nat.le_refl _⟩
  | (w, y) :: r, l, x, k, e4, e5, hz => by
    rw [List.length_cons] at hz
    by_cases h : y = x
    · obtain ⟨l', x', k', e4', e5', g1, g2, g3⟩ := turned_loop Φ v r l x (k + w) (.fz (.int w)) (.fz (.int y)) (by omega)
      refine ⟨l', x', k', e4', e5', ?_, ?_, by rw [List.length_cons]; omega⟩
      · rw [← g1]
        have st : dS Φ turnedB [v, .ol (runD l), .fz (.int x), .fz (.int k), .fz (.int w), .fz (.int y)] = .ok (.nx [v, .ol (runD l), .fz (.int x), .fz (.int (k + w)), .fz (.int w), .fz (.int y)]) := by
          simp [turnedB, dS, dE, dA, un1, un2, opnd, loc?, owned?, Res.bind, Res.of, Arg.view, Sl.dat, Sl.item, blD, bo, tyD, istyD, excD, q_lt, q_le, q_gt, q_ge, q_eq, q_ne, q_add, q_sub, q_shift, b_max, b_min, isiD, isiT, b_lent, b_lenl, b_tupl, b_tupt, b_lstl, b_lstt, b_suml, b_sumt, stE, itR, itemsOf, argsOf, callOf, slotsOf, putBack, fitL, line, h, intS]
        show ((dS Φ turnedB [v, .ol (runD l), .fz (.int x), .fz (.int k), .fz (.int w), .fz (.int y)]).bind _) = _
        rw [st]
        rfl
      · rw [g2]
        show l ++ mrgA x (k + w) (swp r) = l ++ (if y = x then mrgA x (k + w) (swp r) else _)
        rw [if_pos h]
    · obtain ⟨l', x', k', e4', e5', g1, g2, g3⟩ := turned_loop Φ v r (l ++ [(x, k)]) y w (.fz (.int w)) (.fz (.int y)) (by simp; omega)
      refine ⟨l', x', k', e4', e5', ?_, ?_, by rw [List.length_append] at g3; simp at g3 ⊢; omega⟩
      · rw [← g1]
        have c2 : (runD l).length < 16777216 := by rw [runD_len]; omega
        have e3 : runD l ++ [PyData.tuple [.int x, .int k]] = runD (l ++ [(x, k)]) := by rw [runD_app]; rfl
        have st : dS Φ turnedB [v, .ol (runD l), .fz (.int x), .fz (.int k), .fz (.int w), .fz (.int y)] = .ok (.nx [v, .ol (runD (l ++ [(x, k)])), .fz (.int y), .fz (.int w), .fz (.int w), .fz (.int y)]) := by
          rw [← e3]
          simp [turnedB, dS, dE, dA, un1, un2, opnd, loc?, owned?, Res.bind, Res.of, Arg.view, Sl.dat, Sl.item, blD, bo, tyD, istyD, excD, q_lt, q_le, q_gt, q_ge, q_eq, q_ne, q_add, q_sub, q_shift, b_max, b_min, isiD, isiT, b_lent, b_lenl, b_tupl, b_tupt, b_lstl, b_lstt, b_suml, b_sumt, stE, itR, itemsOf, argsOf, callOf, slotsOf, putBack, fitL, line, h, intS, olD, c2]
        show ((dS Φ turnedB [v, .ol (runD l), .fz (.int x), .fz (.int k), .fz (.int w), .fz (.int y)]).bind _) = _
        rw [st]
        rfl
      · rw [g2, List.append_assoc]
        show l ++ ((x, k) :: mrgA y w (swp r)) = l ++ (if y = x then _ else (x, k) :: mrgA y w (swp r))
        rw [if_neg h]
theorem turned_ok (Φ : Nat → Fn) : TurnedOk (mkFn [] 1 5 (dS Φ cTurned)) := by
  intro l h0 hz
  cases l with
  | nil => exact absurd rfl h0
  | cons p r =>
    obtain ⟨w, x⟩ := p
    rw [List.length_cons] at hz
    obtain ⟨l', x', k', e4, e5, g1, g2, g3⟩ := turned_loop Φ (.fz (.list (runD ((w, x) :: r)))) ((w, x) :: r) [] x 0 .un .un (by simp; omega)
    have c2 : (runD l').length < 16777216 := by rw [runD_len]; simp at g3; omega
    have e3 : runD l' ++ [PyData.tuple [.int x', .int k']] = runD (trn ((w, x) :: r)) := by
      have : runD (l' ++ [(x', k')]) = runD l' ++ [PyData.tuple [.int x', .int k']] := by rw [runD_app]; rfl
      rw [← this, g2, List.nil_append]
      show runD (if x = x then mrgA x (0 + w) (swp r) else _) = _
      rw [if_pos rfl, Int.zero_add]
      rfl
    have h0 : ixD (.list (runD ((w, x) :: r))) (.int 0) = some (.tuple [.int w, .int x]) := atI_nat (xs := runD ((w, x) :: r)) (j := 0) rfl
    have h1 : ixD (.tuple [.int w, .int x]) (.int 1) = some (.int x) := rfl
    have hs : seqD (.list (runD ((w, x) :: r))) = some (runD ((w, x) :: r)) := rfl
    have hn : runD [] = [] := rfl
    rw [hn] at g1
    rw [← e3]
    simp [mkFn, runB, cTurned, dS, dE, dA, un1, un2, opnd, loc?, owned?, Res.bind, Res.of, Arg.view, Sl.dat, Sl.item, blD, bo, tyD, istyD, excD, q_lt, q_le, q_gt, q_ge, q_eq, q_ne, q_add, q_sub, q_shift, b_max, b_min, isiD, isiT, b_lent, b_lenl, b_tupl, b_tupt, b_lstl, b_lstt, b_suml, b_sumt, stE, itR, itemsOf, argsOf, callOf, slotsOf, putBack, fitL, line, h0, h1, hs, g1, olD, c2, outs, outS]
end Gd
set_option maxHeartbeats 4000000
set_option exponentiation.threshold 4000
namespace Gd
open PySem PySem.Spec PyProof.Rows L2 Vl Rm
/-! runs of a row -/
structure GL (l : List (Int × Int)) : Prop where
  ne : l ≠ []
  pos : Pos l
  red : Rm.red l = true
  ar : area l ≤ 200
theorem GL.trn {l : List (Int × Int)} (h : GL l) : GL (Rm.trn l) := ⟨trn_ne h.ne, pos_trn h.pos, red_trn l, by rw [area_trn]; exact h.ar⟩
theorem GL.pos2 {l : List (Int × Int)} (h : GL l) : ∀ p ∈ l, 1 ≤ p.2 := fun p hp => (h.pos p hp).2
theorem GL.pos1 {l : List (Int × Int)} (h : GL l) : ∀ p ∈ l, 1 ≤ p.1 := fun p hp => (h.pos p hp).1
theorem GL.nums {l : List (Int × Int)} (h : GL l) : ∀ n ∈ flat l, 1 ≤ n := mem_flat l h.pos1
theorem GL.sum {l : List (Int × Int)} (h : GL l) : (flat l).sum = area l := sum_flat l h.pos2
theorem GL.len {l : List (Int × Int)} (h : GL l) : (flat l).length ≤ 200 := by
  have h1 := len_sum _ h.nums
  have h2 := h.ar
  rw [h.sum] at h1
  omega
theorem GL.rle {l : List (Int × Int)} (h : GL l) : Rm.rle (flat l) = l := rle_flat_red h.pos2 h.red
theorem len_flat : ∀ l : List (Int × Int), (∀ p ∈ l, 1 ≤ p.2) → l.length ≤ (flat l).length
  | [], _ => Nat.zero_le _
  | p :: l, h => by
    have h1 := h p List.mem_cons_self
    have h2 := len_flat l fun q hq => h q (List.mem_cons_of_mem _ hq)
    rw [flat_cons, List.length_append, List.length_replicate, List.length_cons]
    omega
theorem GL.runs {l : List (Int × Int)} (h : GL l) : l.length ≤ 200 := Nat.le_trans (len_flat l h.pos2) h.len
theorem GL.fne {l : List (Int × Int)} (h : GL l) : flat l ≠ [] := by
  intro z
  have h1 := len_flat l h.pos2
  rw [z] at h1
  exact h.ne (List.length_eq_zero_iff.mp (Nat.le_zero.mp h1))
theorem GL.row {l : List (Int × Int)} (h : GL l) : isRowC (rowD (flat l)) = true := isRow_of _ h.fne h.nums (by rw [h.sum]; exact h.ar)
theorem GL.bound {l : List (Int × Int)} (h : GL l) : ∀ p ∈ l, p.1 ≤ 200 ∧ p.2 ≤ 200 := fun p hp => by
  have key : ∀ l : List (Int × Int), Pos l → p ∈ l → p.1 * p.2 ≤ area l := by
    intro l
    induction l with
    | nil => intro _ hp; cases hp
    | cons q r ih =>
      intro hq hp
      rw [area_cons]
      have hr : Pos r := fun x hx => hq x (List.mem_cons_of_mem _ hx)
      have h0 := hq q List.mem_cons_self
      have h1 : 0 ≤ q.1 * q.2 := Int.mul_nonneg (by omega) (by omega)
      rcases List.mem_cons.mp hp with rfl | hp
      · have := area_nn hr; omega
      · have := ih hr hp; omega
  have h1 := key l h.pos hp
  have h2 := h.pos p hp
  have h3 := h.ar
  have h4 : p.1 * 1 ≤ p.1 * p.2 := Int.mul_le_mul_of_nonneg_left h2.2 (by omega)
  have h5 : 1 * p.2 ≤ p.1 * p.2 := Int.mul_le_mul_of_nonneg_right h2.1 (by omega)
  omega
theorem GL.of {ns : List Int} (h0 : ns ≠ []) (h : ∀ n ∈ ns, 1 ≤ n) (hs : ns.sum ≤ 200) : GL (Rm.rle ns) where
  ne := fun z => h0 (by rw [← flat_rle ns, z]; rfl)
  pos := rle_pos h
  red := red_rle ns
  ar := by rw [← sum_flat _ (fun p hp => (rle_pos h p hp).2), flat_rle]; exact hs
def rw (l : List (Int × Int)) : PyData := rowD (flat l)
/-! the law's own round, calm, rows; on a row of given runs -/
def RoundOk (fn : Fn) : Prop := ∀ l, GL l → fn.run [.fz (rw l)] = .ok (.fz (rw (trn l)), [.fz (rw l)])
def roundB : CS :=
 (.seq (.asg (.loc 1) (.bin .add (.loc 1) (.bin .mul (.lst (.cons (.loc 3) .nil)) (.loc 2))))
 .nil)
def cRound (r : Nat) : CS :=
 (.seq (.asg (.loc 1) (.lst .nil))
 (.seq (.fr (.tup (.cons (.loc 2) (.cons (.loc 3) .nil))) (.call r (.cons (.loc 0) .nil)) roundB)
 (.seq (.ret (.b1 .tuple (.loc 1)))
 .nil)))
theorem round_loop (Φ : Nat → Fn) (v : Sl) : ∀ (l : List (Int × Int)) (acc : List Int) (e2 e3 : Sl), (∀ p ∈ l, 1 ≤ p.1) → (acc ++ flat (swp l)).length ≤ 100000 →
    ∃ e2' e3', fLoop (.tup (.cons (.loc 2) (.cons (.loc 3) .nil))) (dS Φ roundB) (runD l) [v, .ol (acc.map .int), e2, e3] = .ok (.nx [v, .ol ((acc ++ flat (swp l)).map .int), e2', e3'])
  | [], acc, e2, e3, h, hz => ⟨e2, e3, by
    have : acc ++ flat (swp []) = acc := List.append_nil acc
    rw [this]; rfl⟩
  | (x, k) :: l, acc, e2, e3, h, hz => by
    have hk : 1 ≤ x := h (x, k) List.mem_cons_self
    have e0 : flat (swp ((x, k) :: l)) = List.replicate x.toNat k ++ flat (swp l) := rfl
    rw [e0, ← List.append_assoc] at hz ⊢
    obtain ⟨f2, f3, g⟩ := round_loop Φ v l (acc ++ List.replicate x.toNat k) (.fz (.int x)) (.fz (.int k)) (fun p hp => h p (List.mem_cons_of_mem _ hp)) hz
    refine ⟨f2, f3, ?_⟩
    rw [← g]
    simp only [List.length_append, List.length_replicate] at hz
    have hrep := q_rep [PyData.int k] x (by omega) (by simp; omega) (by omega)
    rw [rep_one] at hrep
    have hc := q_cat (acc.map PyData.int) (List.replicate x.toNat (PyData.int k)) (by simp; omega)
    have e3 : acc.map PyData.int ++ List.replicate x.toNat (PyData.int k) = (acc ++ List.replicate x.toNat k).map .int := by rw [List.map_append, List.map_replicate]
    have st : dS Φ roundB [v, .ol (acc.map .int), .fz (.int x), .fz (.int k)] = .ok (.nx [v, .ol ((acc ++ List.replicate x.toNat k).map .int), .fz (.int x), .fz (.int k)]) := by
      rw [← e3]
      simp [roundB, dS, dE, dA, un1, un2, opnd, loc?, owned?, Res.bind, Res.of, Arg.view, Sl.dat, Sl.item, blD, bo, tyD, istyD, excD, q_lt, q_le, q_gt, q_ge, q_eq, q_ne, q_add, q_sub, q_shift, b_max, b_min, isiD, isiT, b_lent, b_lenl, b_tupl, b_tupt, b_lstl, b_lstt, b_suml, b_sumt, stE, itR, itemsOf, argsOf, callOf, slotsOf, putBack, fitL, line, hrep, hc]
    show ((dS Φ roundB [v, .ol (acc.map .int), .fz (.int x), .fz (.int k)]).bind _) = _
    rw [st]
    rfl
theorem flat_trn {l : List (Int × Int)} (h : GL l) : flat (trn l) = flat (swp l) := by
  have h1 := rnd_flat h.pos h.red
  unfold rnd at h1
  rw [h.rle] at h1
  exact h1.symm
theorem round_ok {Φ : Nat → Fn} {r : Nat} (hr : RunsOk (Φ r)) : RoundOk (mkFn [] 1 3 (dS Φ (cRound r))) := by
  intro l h
  have h1 := hr (flat l) (by have := h.len; omega)
  rw [h.rle] at h1
  have h2 := h.trn.len
  rw [flat_trn h] at h2
  obtain ⟨e2, e3, g⟩ := round_loop Φ (.fz (rw l)) l [] .un .un h.pos1 (by rw [List.nil_append]; omega)
  have hs : seqD (.list (runD l)) = some (runD l) := rfl
  have e : rw (trn l) = rowD (flat (swp l)) := by unfold rw; rw [flat_trn h]
  rw [e]
  simp only [List.map_nil, List.nil_append] at g
  unfold rw at *
  show _ = Res.ok (Sl.fz (PyData.tuple ((flat (swp l)).map PyData.int)), _)
  simp [mkFn, runB, cRound, dS, dE, dA, un1, un2, opnd, loc?, owned?, Res.bind, Res.of, Arg.view, Sl.dat, Sl.item, blD, bo, tyD, istyD, excD, q_lt, q_le, q_gt, q_ge, q_eq, q_ne, q_add, q_sub, q_shift, b_max, b_min, isiD, isiT, b_lent, b_lenl, b_tupl, b_tupt, b_lstl, b_lstt, b_suml, b_sumt, stE, itR, itemsOf, argsOf, callOf, slotsOf, putBack, fitL, line, h1, hs, g, outs, outS]
/-! calm -/
def CalmOk (fn : Fn) : Prop := ∀ l, GL l → fn.run [.fz (rw l)] = .ok (.fz (.bool (calm l)), [.fz (rw l)])
def calmQ : CE := .bl true
def calmE : CE := .loc 3
def calmR : CE := .cmp .eq (.ix (.loc 1) (.loc 4)) (.ix (.loc 1) (.bin .add (.loc 4) (.int 1)))
def calmF : CE := .loc 4
def cCalm (r : Nat) : CS :=
 (.seq (.asg (.loc 1) (.lc [2, 3] (.tup (.cons (.loc 2) (.cons (.loc 3) .nil))) (.call r (.cons (.loc 0) .nil)) calmQ calmE))
 (.seq (.ret (.cmp .eq (.lc [4] (.loc 4) (.rng1 (.bin .sub (.b1 .len (.loc 1)) (.int 1))) calmR calmF) (.lst .nil)))
 .nil))
theorem cmp_nil (xs : List PyData) : cmpD .eq (.list xs) (.list []) = some xs.isEmpty := by
  show eqD (.list xs) (.list []) = _
  unfold eqD
  split
  · cases xs <;> rfl
  · rename_i h
    cases xs with
    | nil => exact absurd rfl h
    | cons _ _ => rfl
theorem calm_lc1 (Φ : Nat → Fn) (v s1 s4 : Sl) (l : List (Int × Int)) (hz : l.length ≤ 100000) : lcRes [2, 3] (lcTurn [2, 3] (.tup (.cons (.loc 2) (.cons (.loc 3) .nil))) (dE Φ calmQ) (dE Φ calmE)) (runD l) [v, s1, .un, .un, s4] =
    .ok (.ol ((l.map (·.2)).map .int), [v, s1, .un, .un, s4]) := by
  obtain ⟨env', h, e2, e3, rfl⟩ := lc_map (f := lcTurn [2, 3] (.tup (.cons (.loc 2) (.cons (.loc 3) .nil))) (dE Φ calmQ) (dE Φ calmE)) (fun env => ∃ e2 e3, env = [v, s1, e2, e3, s4]) (fun d => match d with | .tuple [_, k] => some k | _ => none) (runD l) [v, s1, .un, .un, s4] [] (fun d hd env ⟨e2, e3, he⟩ => by
    obtain ⟨p, _, rfl⟩ := List.mem_map.mp hd
    subst he
    exact ⟨[v, s1, .fz (.int p.1), .fz (.int p.2), s4], by simp [lcTurn, bindT, bindR, wipeE, calmQ, calmE, dS, dE, dA, un1, un2, opnd, loc?, owned?, Res.bind, Res.of, Arg.view, Sl.dat, Sl.item, blD, bo, tyD, istyD, excD, q_lt, q_le, q_gt, q_ge, q_eq, q_ne, q_add, q_sub, q_shift, b_max, b_min, isiD, isiT, b_lent, b_lenl, b_tupl, b_tupt, b_lstl, b_lstt, b_suml, b_sumt, stE, itR, itemsOf, argsOf, callOf, slotsOf, putBack, fitL, line], _, _, rfl⟩) ⟨_, _, rfl⟩
  unfold lcRes
  rw [h]
  have e : (runD l).filterMap (fun d => match d with | .tuple [_, k] => some k | _ => none) = (l.map (·.2)).map .int := by
    unfold runD
    rw [List.filterMap_map, List.map_map]
    rw [← List.filterMap_eq_map]
    rfl
  simp only [List.nil_append, e]
  rw [if_pos (by simp [line]; omega)]
  rfl
/-- the places where two neighbours of a list are equal -/
def eqs : List Int → Bool
  | [] => false
  | [_] => false
  | a :: b :: r => decide (a = b) || eqs (b :: r)
def nth (ks : List Int) (i : Nat) : Int := (ks[i]?).getD 0
theorem nth_ix {ks : List Int} {i : Nat} (h : i < ks.length) : ixD (.list (ks.map .int)) (.int (i : Nat)) = some (.int (nth ks i)) := by
  refine atI_nat (xs := ks.map PyData.int) ?_
  unfold nth
  rw [List.getElem?_map, List.getElem?_eq_getElem h]
  rfl
theorem eqs_at : ∀ (ks : List Int), eqs ks = (List.range (ks.length - 1)).any fun i => decide (nth ks i = nth ks (i + 1))
  | [] => rfl
  | [_] => rfl
  | a :: b :: r => by
    have h := eqs_at (b :: r)
    show (decide (a = b) || eqs (b :: r)) = _
    rw [h]
    have e : (a :: b :: r).length - 1 = ((b :: r).length - 1) + 1 := by simp
    rw [e, List.range_succ_eq_map, List.any_cons, List.any_map]
    rfl
theorem calm_eqs : ∀ l : List (Int × Int), calm l = !eqs (l.map (·.2))
  | [] => rfl
  | [_] => rfl
  | p :: q :: r => by
    have h := calm_eqs (q :: r)
    show (decide (p.2 ≠ q.2) && calm (q :: r)) = !(decide (p.2 = q.2) || eqs ((q :: r).map (·.2)))
    rw [h, Bool.not_or]
    congr 1
    by_cases e : p.2 = q.2 <;> simp [e]
theorem fm_empty {α β : Type} (g : α → Option β) : ∀ xs : List α, (xs.filterMap g).isEmpty = !(xs.any fun x => (g x).isSome)
  | [] => rfl
  | x :: xs => by
    rw [List.filterMap_cons, List.any_cons]
    cases g x with
    | none => simpa using fm_empty g xs
    | some y => rfl
def pickE (ks : List Int) (d : PyData) : Option PyData := match d with
  | .int i => if nth ks i.toNat = nth ks (i.toNat + 1) then some (.int i) else none
  | _ => none
theorem calm_turn (Φ : Nat → Fn) (v e4 : Sl) (ks : List Int) (i : Nat) (hi : i + 1 < ks.length) : lcTurn [4] (.loc 4) (dE Φ calmR) (dE Φ calmF) (.int ((i : Nat) : Int)) [v, .ol (ks.map .int), .un, .un, e4] = .ok (pickE ks (.int ((i : Nat) : Int)), [v, .ol (ks.map .int), .un, .un, .fz (.int ((i : Nat) : Int))]) := by
  have a1 := nth_ix (show i < ks.length by omega)
  have a2 := nth_ix hi
  have e1 : (((i + 1 : Nat) : Int)) = (i : Int) + 1 := rfl
  rw [e1] at a2
  unfold pickE
  simp only [Int.toNat_natCast]
  by_cases hq : nth ks i = nth ks (i + 1)
  · rw [if_pos hq]
    simp [lcTurn, bindT, wipeE, calmR, calmF, dS, dE, dA, un1, un2, opnd, loc?, owned?, Res.bind, Res.of, Arg.view, Sl.dat, Sl.item, blD, bo, tyD, istyD, excD, q_lt, q_le, q_gt, q_ge, q_eq, q_ne, q_add, q_sub, q_shift, b_max, b_min, isiD, isiT, b_lent, b_lenl, b_tupl, b_tupt, b_lstl, b_lstt, b_suml, b_sumt, stE, itR, itemsOf, argsOf, callOf, slotsOf, putBack, fitL, line, a1, a2, hq]
  · rw [if_neg hq]
    simp [lcTurn, bindT, wipeE, calmR, calmF, dS, dE, dA, un1, un2, opnd, loc?, owned?, Res.bind, Res.of, Arg.view, Sl.dat, Sl.item, blD, bo, tyD, istyD, excD, q_lt, q_le, q_gt, q_ge, q_eq, q_ne, q_add, q_sub, q_shift, b_max, b_min, isiD, isiT, b_lent, b_lenl, b_tupl, b_tupt, b_lstl, b_lstt, b_suml, b_sumt, stE, itR, itemsOf, argsOf, callOf, slotsOf, putBack, fitL, line, a1, a2, hq]
theorem calm_lc2 (Φ : Nat → Fn) (v : Sl) (ks : List Int) (hz : ks.length ≤ 100000) (h0 : 0 < ks.length) : ∃ zs : List PyData, lcRes [4] (lcTurn [4] (.loc 4) (dE Φ calmR) (dE Φ calmF)) (rngL 0 (ks.length - 1)) [v, .ol (ks.map .int), .un, .un, .un] = .ok (.ol zs, [v, .ol (ks.map .int), .un, .un, .un]) ∧ zs.isEmpty = !eqs ks := by
  obtain ⟨env', g, e4, rfl⟩ := lc_map (f := lcTurn [4] (.loc 4) (dE Φ calmR) (dE Φ calmF)) (fun env => ∃ e4, env = [v, .ol (ks.map .int), .un, .un, e4]) (pickE ks) (rngL 0 (ks.length - 1)) [v, .ol (ks.map .int), .un, .un, .un] [] (fun d hd env ⟨e4, he⟩ => by
    obtain ⟨i, hi, rfl⟩ := List.mem_map.mp hd
    rw [List.mem_range] at hi
    subst he
    rw [Int.zero_add]
    exact ⟨_, calm_turn Φ v e4 ks i (by omega), _, rfl⟩) ⟨_, rfl⟩
  refine ⟨(rngL 0 (ks.length - 1)).filterMap (pickE ks), ?_, ?_⟩
  · unfold lcRes
    rw [g]
    simp only [List.nil_append]
    rw [if_pos]
    · rfl
    · have a := List.length_filterMap_le (pickE ks) (rngL 0 (ks.length - 1))
      have b : (rngL 0 (ks.length - 1)).length = ks.length - 1 := by unfold rngL; rw [List.length_map, List.length_range]
      rw [b] at a
      refine Nat.le_trans a ?_
      show ks.length - 1 ≤ 16777216
      omega
  · rw [fm_empty, eqs_at]
    congr 1
    unfold rngL
    rw [List.any_map]
    apply List.any_congr rfl
    intro i
    show (pickE ks (.int (0 + (i : Int)))).isSome = _
    rw [Int.zero_add]
    unfold pickE
    simp only [Int.toNat_natCast]
    split <;> simp [*]
theorem calm_ok {Φ : Nat → Fn} {r : Nat} (hr : RunsOk (Φ r)) : CalmOk (mkFn [] 1 4 (dS Φ (cCalm r))) := by
  intro l h
  have h1 := hr (flat l) (by have := h.len; omega)
  rw [h.rle] at h1
  have hz := h.runs
  have h2 := calm_lc1 Φ (.fz (rw l)) .un .un l (by omega)
  have hs : seqD (.list (runD l)) = some (runD l) := rfl
  have hp : 0 < l.length := List.length_pos_iff.mpr h.ne
  obtain ⟨zs, h3, h4⟩ := calm_lc2 Φ (.fz (rw l)) (l.map (·.2)) (by rw [List.length_map]; omega) (by rw [List.length_map]; omega)
  rw [← calm_eqs] at h4
  have h5 := cmp_nil zs
  rw [h4] at h5
  have hsub : ((l.length : Int) - 1).toNat = l.length - 1 := by omega
  have hR : Vl.inR ((l.length : Int) - 1) = true := decide_eq_true (by omega)
  have hq : ∀ ds : List PyData, seqD (.list ds) = some ds := fun _ => rfl
  rw [List.length_map] at h3
  unfold rw at *
  simp [mkFn, runB, cCalm, dS, dE, dA, un1, un2, opnd, loc?, owned?, Res.bind, Res.of, Arg.view, Sl.dat, Sl.item, blD, bo, tyD, istyD, excD, q_lt, q_le, q_gt, q_ge, q_eq, q_ne, q_add, q_sub, q_shift, b_max, b_min, isiD, isiT, b_lent, b_lenl, b_tupl, b_tupt, b_lstl, b_lstt, b_suml, b_sumt, stE, itR, itemsOf, argsOf, callOf, slotsOf, putBack, fitL, line, h1, hs, h2, hR, hsub, hq]
  rw [List.map_map] at h3
  simp [h3, h5, outs, outS]
end Gd
set_option maxHeartbeats 4000000
set_option exponentiation.threshold 4000
namespace Gd
open PySem PySem.Spec PyProof.Rows L2 Vl Rm
/-! _law_rows -/
def stages : Nat → List (Int × Int) → List (List (Int × Int))
  | 0, l => [l]
  | n + 1, l => l :: stages n (trn l)
theorem stages_len : ∀ (n : Nat) (l : List (Int × Int)), (stages n l).length = n + 1
  | 0, l => rfl
  | n + 1, l => by show (stages n (trn l)).length + 1 = _; rw [stages_len n]
theorem stages_last : ∀ (n : Nat) (l : List (Int × Int)), stages (n + 1) l = stages n l ++ [trnN (n + 1) l]
  | 0, l => rfl
  | n + 1, l => by
    show l :: stages (n + 1) (trn l) = (l :: stages n (trn l)) ++ [trnN (n + 1) (trn l)]
    rw [stages_last n (trn l)]; rfl
theorem GL.trnN {l : List (Int × Int)} (h : GL l) : ∀ n, GL (Rm.trnN n l)
  | 0 => h
  | n + 1 => by rw [trnN_succ]; exact (h.trnN n).trn
theorem GL.stages {l : List (Int × Int)} (h : GL l) : ∀ n, ∀ m ∈ Gd.stages n l, GL m
  | 0, m, hm => by rw [List.mem_singleton.mp hm]; exact h
  | n + 1, m, hm => by
    rw [stages_last] at hm
    rcases List.mem_append.mp hm with hm | hm
    · exact h.stages n m hm
    · rw [List.mem_singleton.mp hm]; exact h.trnN _
def RowsOk (fn : Fn) : Prop := ∀ l, GL l → fn.run [.fz (rw l)] = .ok (.ol ((stages (need l + 1) l).map rw), [.fz (rw l)])
def rowsB (r : Nat) : CS :=
 (.seq (.app 1 (.call r (.cons (.ix (.loc 1) (.neg (.int 1))) .nil)))
 .nil)
def rowsT (c : Nat) : CE := (.nt (.call c (.cons (.ix (.loc 1) (.neg (.int 1))) .nil)))
def cRows (r c : Nat) : CS :=
 (.seq (.asg (.loc 1) (.lst (.cons (.loc 0) .nil)))
 (.seq (.whl 1000000 (rowsT c) (rowsB r))
 (.seq (.ret (.bin .add (.loc 1) (.lst (.cons (.call r (.cons (.ix (.loc 1) (.neg (.int 1))) .nil)) .nil))))
 .nil)))
theorem ix_last (acc : List PyData) (x : PyData) : ixD (.list (acc ++ [x])) (.int (-1)) = some x := by
  show atI (acc ++ [x]) (-1) = _
  exact atI_last acc x
theorem rows_loop {Φ : Nat → Fn} {r c : Nat} (hr : RoundOk (Φ r)) (hc : CalmOk (Φ c)) (v : Sl) : ∀ (n m : Nat) (l : List (Int × Int)) (acc : List PyData), n < m → GL l → need l ≤ n → acc.length + n ≤ 10000 →
    wLoop (dE Φ (rowsT c)) (dS Φ (rowsB r)) m [v, .ol (acc ++ [rw l])] = .ok (.nx [v, .ol (acc ++ (stages (need l) l).map rw)]) := by
  intro n
  induction n with
  | zero =>
    intro m l acc hm h hn hz
    obtain ⟨m, rfl⟩ : ∃ k, m = k + 1 := ⟨m - 1, by omega⟩
    have hcl : calm l = true := by
      cases q : calm l with
      | true => rfl
      | false => rw [need_not q] at hn; omega
    have g1 := hc l h
    rw [hcl] at g1
    rw [wh_end (e1 := [v, .ol (acc ++ [rw l])]) (by simp [rowsT, dS, dE, dA, un1, un2, opnd, loc?, owned?, Res.bind, Res.of, Arg.view, Sl.dat, Sl.item, blD, bo, tyD, istyD, excD, q_lt, q_le, q_gt, q_ge, q_eq, q_ne, q_add, q_sub, q_shift, b_max, b_min, isiD, isiT, b_lent, b_lenl, b_tupl, b_tupt, b_lstl, b_lstt, b_suml, b_sumt, stE, itR, itemsOf, argsOf, callOf, slotsOf, putBack, fitL, line, ix_last, g1]), need_calm hcl]
    rfl
  | succ n ih =>
    intro m l acc hm h hn hz
    obtain ⟨m, rfl⟩ : ∃ k, m = k + 1 := ⟨m - 1, by omega⟩
    have g1 := hc l h
    cases hcl : calm l with
    | true =>
      rw [hcl] at g1
      rw [wh_end (e1 := [v, .ol (acc ++ [rw l])]) (by simp [rowsT, dS, dE, dA, un1, un2, opnd, loc?, owned?, Res.bind, Res.of, Arg.view, Sl.dat, Sl.item, blD, bo, tyD, istyD, excD, q_lt, q_le, q_gt, q_ge, q_eq, q_ne, q_add, q_sub, q_shift, b_max, b_min, isiD, isiT, b_lent, b_lenl, b_tupl, b_tupt, b_lstl, b_lstt, b_suml, b_sumt, stE, itR, itemsOf, argsOf, callOf, slotsOf, putBack, fitL, line, ix_last, g1]), need_calm hcl]
      rfl
    | false =>
      rw [hcl] at g1
      rw [need_not hcl] at hn ⊢
      have g2 := hr l h
      have c2 : acc.length + 1 < 16777216 := by omega
      have hb : dS Φ (rowsB r) [v, .ol (acc ++ [rw l])] = .ok (.nx [v, .ol ((acc ++ [rw l]) ++ [rw (trn l)])]) := by
        simp [rowsB, dS, dE, dA, un1, un2, opnd, loc?, owned?, Res.bind, Res.of, Arg.view, Sl.dat, Sl.item, blD, bo, tyD, istyD, excD, q_lt, q_le, q_gt, q_ge, q_eq, q_ne, q_add, q_sub, q_shift, b_max, b_min, isiD, isiT, b_lent, b_lenl, b_tupl, b_tupt, b_lstl, b_lstt, b_suml, b_sumt, stE, itR, itemsOf, argsOf, callOf, slotsOf, putBack, fitL, line, ix_last, g2, olD, c2]
      rw [wh_step (e1 := [v, .ol (acc ++ [rw l])]) (by simp [rowsT, dS, dE, dA, un1, un2, opnd, loc?, owned?, Res.bind, Res.of, Arg.view, Sl.dat, Sl.item, blD, bo, tyD, istyD, excD, q_lt, q_le, q_gt, q_ge, q_eq, q_ne, q_add, q_sub, q_shift, b_max, b_min, isiD, isiT, b_lent, b_lenl, b_tupl, b_tupt, b_lstl, b_lstt, b_suml, b_sumt, stE, itR, itemsOf, argsOf, callOf, slotsOf, putBack, fitL, line, ix_last, g1]) hb, ih m (trn l) (acc ++ [rw l]) (by omega) h.trn (by omega) (by simp; omega), List.append_assoc]
      rfl
theorem stages_end (n : Nat) (l : List (Int × Int)) : ∃ acc, (stages n l).map rw = acc ++ [rw (trnN n l)] ∧ acc.length = n := by
  cases n with
  | zero => exact ⟨[], rfl, rfl⟩
  | succ n =>
    refine ⟨(stages n l).map rw, by rw [stages_last, List.map_append]; rfl, by rw [List.length_map, stages_len]⟩
theorem rows_ok {Φ : Nat → Fn} {r c : Nat} (hr : RoundOk (Φ r)) (hc : CalmOk (Φ c)) : RowsOk (mkFn [] 1 1 (dS Φ (cRows r c))) := by
  intro l h
  have hn := need_24 h.red h.pos h.ar
  have g1 := rows_loop hr hc (.fz (rw l)) 24 1000000 l [] (by decide) h hn (by decide)
  simp only [List.nil_append] at g1
  obtain ⟨acc, e, he⟩ := stages_end (need l) l
  rw [e] at g1
  have g2 := hr (trnN (need l) l) (h.trnN _)
  have e2 : (stages (need l + 1) l).map rw = (acc ++ [rw (trnN (need l) l)]) ++ [rw (trn (trnN (need l) l))] := by
    rw [stages_last, List.map_append, e, trnN_succ]
    rfl
  have k1 := q_cat (acc ++ [rw (trnN (need l) l)]) [rw (trn (trnN (need l) l))] (by simp; omega)
  rw [e2]
  generalize hfu : 1000000 = fu at g1
  simp [mkFn, runB, cRows, dS, dE, dA, un1, un2, opnd, loc?, owned?, Res.bind, Res.of, Arg.view, Sl.dat, Sl.item, blD, bo, tyD, istyD, excD, q_lt, q_le, q_gt, q_ge, q_eq, q_ne, q_add, q_sub, q_shift, b_max, b_min, isiD, isiT, b_lent, b_lenl, b_tupl, b_tupt, b_lstl, b_lstt, b_suml, b_sumt, stE, itR, itemsOf, argsOf, callOf, slotsOf, putBack, fitL, line, hfu, g1, ix_last, g2, outs, outS]
  simp at k1
  simp [k1]
end Gd
set_option maxHeartbeats 4000000
set_option exponentiation.threshold 4000
namespace Gd
open PySem PySem.Spec PyProof.Rows L2 Vl Rm
/-! settling.py -/
def SettledOk (fn : Fn) : Prop := ∀ l, GL l → fn.run [.fz (rw l)] = .ok (.fz (.bool (calm l)), [.fz (rw l)])
def cSettled (c g d : Nat) : CS :=
 (.seq (.ex (.call c (.cons (.loc 0) .nil)))
 (.seq (.ret (.call d (.cons (.call g (.cons (.loc 0) .nil)) .nil)))
 .nil))
def still (l : List (Int × Int)) : Bool := l.all fun p => decide (p.1 = p.2)
def StillOk (fn : Fn) : Prop := ∀ l, GL l → fn.run [.fz (rw l)] = .ok (.fz (.bool (still l)), [.fz (rw l)])
theorem GL.grouped {fn : Fn} (h : GroupedOk fn) {l : List (Int × Int)} (hl : GL l) : fn.run [.fz (rw l)] = .ok (.ol (runD l), [.fz (rw l)]) := by
  have := h (flat l) hl.fne (by have := hl.len; omega)
  rw [hl.rle] at this
  exact this
theorem GL.spread {fn : Fn} (h : SpreadOk fn) {l : List (Int × Int)} (hl : GL l) : fn.run [.fz (.list (runD l))] = .ok (.fz (rw l), [.fz (.list (runD l))]) := h l hl.pos2 (by have := hl.len; omega)
theorem GL.turned {fn : Fn} (h : TurnedOk fn) {l : List (Int × Int)} (hl : GL l) : fn.run [.fz (.list (runD l))] = .ok (.ol (runD (Rm.trn l)), [.fz (.list (runD l))]) := h l hl.ne (by have := hl.runs; omega)
theorem GL.differ {fn : Fn} (h : DifferOk fn) {l : List (Int × Int)} (hl : GL l) : fn.run [.fz (.list (runD l))] = .ok (.fz (.bool (calm l)), [.fz (.list (runD l))]) := h l hl.pos2
section
variable {Φ : Nat → Fn} {c g d t s : Nat} (hc : CheckOk (Φ c)) (hg : GroupedOk (Φ g)) (hd : DifferOk (Φ d)) (ht : TurnedOk (Φ t)) (hs : SpreadOk (Φ s))
include hc hg hd
theorem settled_ok : SettledOk (mkFn [] 1 0 (dS Φ (cSettled c g d))) := by
  intro l h
  have h1 := hc _ h.row
  have h2 := h.grouped hg
  have h3 := h.differ hd
  unfold rw at *
  simp [mkFn, runB, cSettled, dS, dE, dA, un1, un2, opnd, loc?, owned?, Res.bind, Res.of, Arg.view, Sl.dat, Sl.item, blD, bo, tyD, istyD, excD, q_lt, q_le, q_gt, q_ge, q_eq, q_ne, q_add, q_sub, q_shift, b_max, b_min, isiD, isiT, b_lent, b_lenl, b_tupl, b_tupt, b_lstl, b_lstt, b_suml, b_sumt, stE, itR, itemsOf, argsOf, callOf, slotsOf, putBack, fitL, line, h1, h2, h3, outs, outS]
end
theorem still_ok {Φ : Nat → Fn} {c g n : Nat} (hc : CheckOk (Φ c)) (hg : GroupedOk (Φ g)) (hn : NumbersOk (Φ n)) : StillOk (mkFn [] 1 0 (dS Φ (cSettled c g n))) := by
  intro l h
  have h1 := hc _ h.row
  have h2 := h.grouped hg
  have h3 := hn l
  unfold rw still at *
  generalize (l.all fun p => decide (p.1 = p.2)) = b at h3 ⊢
  simp [mkFn, runB, cSettled, dS, dE, dA, un1, un2, opnd, loc?, owned?, Res.bind, Res.of, Arg.view, Sl.dat, Sl.item, blD, bo, tyD, istyD, excD, q_lt, q_le, q_gt, q_ge, q_eq, q_ne, q_add, q_sub, q_shift, b_max, b_min, isiD, isiT, b_lent, b_lenl, b_tupl, b_tupt, b_lstl, b_lstt, b_suml, b_sumt, stE, itR, itemsOf, argsOf, callOf, slotsOf, putBack, fitL, line, h1, h2, h3, outs, outS]
/-! rounds_needed -/
def NeededOk (fn : Fn) : Prop := ∀ l, GL l → fn.run [.fz (rw l)] = .ok (.fz (.int (need l : Nat)), [.fz (rw l)])
def neededB (t : Nat) : CS :=
 (.seq (.asg (.loc 1) (.call t (.cons (.loc 1) .nil)))
 (.seq (.aug 2 false (.int 1))
 .nil))
def neededT (d : Nat) : CE := (.nt (.call d (.cons (.loc 1) .nil)))
def cNeeded (c g d t : Nat) : CS :=
 (.seq (.ex (.call c (.cons (.loc 0) .nil)))
 (.seq (.asg (.loc 1) (.call g (.cons (.loc 0) .nil)))
 (.seq (.asg (.loc 2) (.int 0))
 (.seq (.whl 1000000 (neededT d) (neededB t))
 (.seq (.retM 2)
 .nil)))))
theorem calm_need {l : List (Int × Int)} (h : need l = 0) : calm l = true := by
  cases q : calm l with
  | true => rfl
  | false => rw [need_not q] at h; cases h
/-- the slot of the runs, its own or frozen by the test -/
theorem test_differ {Φ : Nat → Fn} {d : Nat} (hd : DifferOk (Φ d)) {l : List (Int × Int)} (hl : GL l) (v s2 : Sl) : dE Φ (neededT d) [v, .ol (runD l), s2] = .ok (.fz (.bool (!calm l)), [v, .fz (.list (runD l)), s2]) := by
  have h := hl.differ hd
  simp [neededT, dS, dE, dA, un1, un2, opnd, loc?, owned?, Res.bind, Res.of, Arg.view, Sl.dat, Sl.item, blD, bo, tyD, istyD, excD, q_lt, q_le, q_gt, q_ge, q_eq, q_ne, q_add, q_sub, q_shift, b_max, b_min, isiD, isiT, b_lent, b_lenl, b_tupl, b_tupt, b_lstl, b_lstt, b_suml, b_sumt, stE, itR, itemsOf, argsOf, callOf, slotsOf, putBack, fitL, line, h]
theorem needed_loop {Φ : Nat → Fn} {d t : Nat} (hd : DifferOk (Φ d)) (ht : TurnedOk (Φ t)) (v : Sl) : ∀ (n m : Nat) (l : List (Int × Int)) (k : Int), need l = n → n < m → GL l →
    wLoop (dE Φ (neededT d)) (dS Φ (neededB t)) m [v, .ol (runD l), .fz (.int k)] = .ok (.nx [v, .fz (.list (runD (trnN n l))), .fz (.int (k + n))])
  | 0, m, l, k, hn, hm, h => by
    obtain ⟨m, rfl⟩ : ∃ k, m = k + 1 := ⟨m - 1, by omega⟩
    have h1 := test_differ hd h v (.fz (.int k))
    rw [calm_need hn] at h1
    rw [wh_end h1]
    simp [trnN]
  | n + 1, m, l, k, hn, hm, h => by
    obtain ⟨m, rfl⟩ : ∃ k, m = k + 1 := ⟨m - 1, by omega⟩
    have h1 := test_differ hd h v (.fz (.int k))
    have hcl : calm l = false := by
      cases q : calm l with
      | false => rfl
      | true => rw [need_calm q] at hn; cases hn
    rw [hcl] at h1
    rw [need_not hcl] at hn
    have h2 := h.turned ht
    have hb : dS Φ (neededB t) [v, .fz (.list (runD l)), .fz (.int k)] = .ok (.nx [v, .ol (runD (trn l)), .fz (.int (k + 1))]) := by
      simp [neededB, dS, dE, dA, un1, un2, opnd, loc?, owned?, Res.bind, Res.of, Arg.view, Sl.dat, Sl.item, blD, bo, tyD, istyD, excD, q_lt, q_le, q_gt, q_ge, q_eq, q_ne, q_add, q_sub, q_shift, b_max, b_min, isiD, isiT, b_lent, b_lenl, b_tupl, b_tupt, b_lstl, b_lstt, b_suml, b_sumt, stE, itR, itemsOf, argsOf, callOf, slotsOf, putBack, fitL, line, h2, intS]
    rw [wh_step h1 hb, needed_loop hd ht v n m (trn l) (k + 1) (by omega) (by omega) h.trn]
    have e : k + 1 + (n : Int) = k + ((n + 1 : Nat) : Int) := by omega
    rw [e]
    rfl
theorem needed_ok {Φ : Nat → Fn} {c g d t : Nat} (hc : CheckOk (Φ c)) (hg : GroupedOk (Φ g)) (hd : DifferOk (Φ d)) (ht : TurnedOk (Φ t)) : NeededOk (mkFn [] 1 2 (dS Φ (cNeeded c g d t))) := by
  intro l h
  have h1 := hc _ h.row
  have h2 := h.grouped hg
  have hn := need_24 h.red h.pos h.ar
  have h3 := needed_loop hd ht (.fz (rw l)) (need l) 1000000 l 0 rfl (by omega) h
  rw [Int.zero_add] at h3
  generalize hfu : 1000000 = fu at h3
  unfold rw at *
  simp [mkFn, runB, cNeeded, dS, dE, dA, un1, un2, opnd, loc?, owned?, Res.bind, Res.of, Arg.view, Sl.dat, Sl.item, blD, bo, tyD, istyD, excD, q_lt, q_le, q_gt, q_ge, q_eq, q_ne, q_add, q_sub, q_shift, b_max, b_min, isiD, isiT, b_lent, b_lenl, b_tupl, b_tupt, b_lstl, b_lstt, b_suml, b_sumt, stE, itR, itemsOf, argsOf, callOf, slotsOf, putBack, fitL, line, h1, h2, hfu, h3, outs, outS]
/-! settled_pair -/
def PairOk (fn : Fn) : Prop := ∀ l, GL l → fn.run [.fz (rw l)] = .ok (.fz (.tuple [rw (trnN (need l) l), rw (trnN (need l + 1) l)]), [.fz (rw l)])
def pairB (t : Nat) : CS :=
 (.seq (.asg (.loc 1) (.call t (.cons (.loc 1) .nil)))
 .nil)
def cPair (c g d t s : Nat) : CS :=
 (.seq (.ex (.call c (.cons (.loc 0) .nil)))
 (.seq (.asg (.loc 1) (.call g (.cons (.loc 0) .nil)))
 (.seq (.whl 1000000 (neededT d) (pairB t))
 (.seq (.ret (.tup (.cons (.call s (.cons (.loc 1) .nil)) (.cons (.call s (.cons (.call t (.cons (.loc 1) .nil)) .nil)) .nil))))
 .nil))))
theorem pair_loop {Φ : Nat → Fn} {d t : Nat} (hd : DifferOk (Φ d)) (ht : TurnedOk (Φ t)) (v : Sl) : ∀ (n m : Nat) (l : List (Int × Int)), need l = n → n < m → GL l →
    wLoop (dE Φ (neededT d)) (dS Φ (pairB t)) m [v, .ol (runD l)] = .ok (.nx [v, .fz (.list (runD (trnN n l)))])
  | 0, m, l, hn, hm, h => by
    obtain ⟨m, rfl⟩ : ∃ k, m = k + 1 := ⟨m - 1, by omega⟩
    have h1 := h.differ hd
    rw [calm_need hn] at h1
    rw [wh_end (e1 := [v, .fz (.list (runD l))]) (by simp [neededT, dS, dE, dA, un1, un2, opnd, loc?, owned?, Res.bind, Res.of, Arg.view, Sl.dat, Sl.item, blD, bo, tyD, istyD, excD, q_lt, q_le, q_gt, q_ge, q_eq, q_ne, q_add, q_sub, q_shift, b_max, b_min, isiD, isiT, b_lent, b_lenl, b_tupl, b_tupt, b_lstl, b_lstt, b_suml, b_sumt, stE, itR, itemsOf, argsOf, callOf, slotsOf, putBack, fitL, line, h1])]
    rfl
  | n + 1, m, l, hn, hm, h => by
    obtain ⟨m, rfl⟩ : ∃ k, m = k + 1 := ⟨m - 1, by omega⟩
    have h1 := h.differ hd
    have hcl : calm l = false := by
      cases q : calm l with
      | false => rfl
      | true => rw [need_calm q] at hn; cases hn
    rw [hcl] at h1
    rw [need_not hcl] at hn
    have h2 := h.turned ht
    have hb : dS Φ (pairB t) [v, .fz (.list (runD l))] = .ok (.nx [v, .ol (runD (trn l))]) := by
      simp [pairB, dS, dE, dA, un1, un2, opnd, loc?, owned?, Res.bind, Res.of, Arg.view, Sl.dat, Sl.item, blD, bo, tyD, istyD, excD, q_lt, q_le, q_gt, q_ge, q_eq, q_ne, q_add, q_sub, q_shift, b_max, b_min, isiD, isiT, b_lent, b_lenl, b_tupl, b_tupt, b_lstl, b_lstt, b_suml, b_sumt, stE, itR, itemsOf, argsOf, callOf, slotsOf, putBack, fitL, line, h2]
    rw [wh_step (e1 := [v, .fz (.list (runD l))]) (by simp [neededT, dS, dE, dA, un1, un2, opnd, loc?, owned?, Res.bind, Res.of, Arg.view, Sl.dat, Sl.item, blD, bo, tyD, istyD, excD, q_lt, q_le, q_gt, q_ge, q_eq, q_ne, q_add, q_sub, q_shift, b_max, b_min, isiD, isiT, b_lent, b_lenl, b_tupl, b_tupt, b_lstl, b_lstt, b_suml, b_sumt, stE, itR, itemsOf, argsOf, callOf, slotsOf, putBack, fitL, line, h1]) hb, pair_loop hd ht v n m (trn l) (by omega) (by omega) h.trn]
    rfl
theorem pair_ok {Φ : Nat → Fn} {c g d t s : Nat} (hc : CheckOk (Φ c)) (hg : GroupedOk (Φ g)) (hd : DifferOk (Φ d)) (ht : TurnedOk (Φ t)) (hs : SpreadOk (Φ s)) : PairOk (mkFn [] 1 1 (dS Φ (cPair c g d t s))) := by
  intro l h
  have h1 := hc _ h.row
  have h2 := h.grouped hg
  have hn := need_24 h.red h.pos h.ar
  have h3 := pair_loop hd ht (.fz (rw l)) (need l) 1000000 l rfl (by omega) h
  have h4 := (h.trnN (need l)).spread hs
  have h5 := (h.trnN (need l)).turned ht
  have h6 := (h.trnN (need l)).trn.spread hs
  rw [trnN_succ]
  generalize hfu : 1000000 = fu at h3
  unfold rw at *
  simp [mkFn, runB, cPair, dS, dE, dA, un1, un2, opnd, loc?, owned?, Res.bind, Res.of, Arg.view, Sl.dat, Sl.item, blD, bo, tyD, istyD, excD, q_lt, q_le, q_gt, q_ge, q_eq, q_ne, q_add, q_sub, q_shift, b_max, b_min, isiD, isiT, b_lent, b_lenl, b_tupl, b_tupt, b_lstl, b_lstt, b_suml, b_sumt, stE, itR, itemsOf, argsOf, callOf, slotsOf, putBack, fitL, line, h1, h2, hfu, h3, h4, h5, h6, outs, outS]
/-! run_counts -/
def CountsOk (fn : Fn) : Prop := ∀ l, GL l → fn.run [.fz (rw l)] = .ok (.ol ((stages (need l) l).map fun m => .int (m.length : Nat)), [.fz (rw l)])
def countsB (t : Nat) : CS :=
 (.seq (.asg (.loc 1) (.call t (.cons (.loc 1) .nil)))
 (.seq (.app 2 (.b1 .len (.loc 1)))
 .nil))
def cCounts (c g d t : Nat) : CS :=
 (.seq (.ex (.call c (.cons (.loc 0) .nil)))
 (.seq (.asg (.loc 1) (.call g (.cons (.loc 0) .nil)))
 (.seq (.asg (.loc 2) (.lst (.cons (.b1 .len (.loc 1)) .nil)))
 (.seq (.whl 1000000 (neededT d) (countsB t))
 (.seq (.retM 2)
 .nil)))))
theorem counts_loop {Φ : Nat → Fn} {d t : Nat} (hd : DifferOk (Φ d)) (ht : TurnedOk (Φ t)) (v : Sl) : ∀ (n m : Nat) (l : List (Int × Int)) (acc : List PyData), need l = n → n < m → GL l → acc.length + n ≤ 10000 → ∃ e1,
    wLoop (dE Φ (neededT d)) (dS Φ (countsB t)) m [v, .ol (runD l), .ol (acc ++ [.int (l.length : Nat)])] = .ok (.nx [v, e1, .ol (acc ++ (stages n l).map fun m => .int (m.length : Nat))])
  | 0, m, l, acc, hn, hm, h, hz => by
    obtain ⟨m, rfl⟩ : ∃ k, m = k + 1 := ⟨m - 1, by omega⟩
    have h1 := test_differ hd h v (.ol (acc ++ [.int (l.length : Nat)]))
    rw [calm_need hn] at h1
    exact ⟨_, by rw [wh_end h1]; rfl⟩
  | n + 1, m, l, acc, hn, hm, h, hz => by
    obtain ⟨m, rfl⟩ : ∃ k, m = k + 1 := ⟨m - 1, by omega⟩
    have h1 := test_differ hd h v (.ol (acc ++ [.int (l.length : Nat)]))
    have hcl : calm l = false := by
      cases q : calm l with
      | false => rfl
      | true => rw [need_calm q] at hn; cases hn
    rw [hcl] at h1
    rw [need_not hcl] at hn
    have h2 := h.turned ht
    have c2 : acc.length + 1 < 16777216 := by omega
    have hl : (runD (trn l)).length = (trn l).length := runD_len _
    have hb : dS Φ (countsB t) [v, .fz (.list (runD l)), .ol (acc ++ [.int (l.length : Nat)])] = .ok (.nx [v, .ol (runD (trn l)), .ol ((acc ++ [.int (l.length : Nat)]) ++ [.int ((trn l).length : Nat)])]) := by
      simp [countsB, dS, dE, dA, un1, un2, opnd, loc?, owned?, Res.bind, Res.of, Arg.view, Sl.dat, Sl.item, blD, bo, tyD, istyD, excD, q_lt, q_le, q_gt, q_ge, q_eq, q_ne, q_add, q_sub, q_shift, b_max, b_min, isiD, isiT, b_lent, b_lenl, b_tupl, b_tupt, b_lstl, b_lstt, b_suml, b_sumt, stE, itR, itemsOf, argsOf, callOf, slotsOf, putBack, fitL, line, h2, olD, c2, hl]
    obtain ⟨e1, g⟩ := counts_loop hd ht v n m (trn l) (acc ++ [.int (l.length : Nat)]) (by omega) (by omega) h.trn (by simp; omega)
    refine ⟨e1, ?_⟩
    rw [wh_step h1 hb, g, List.append_assoc]
    rfl
theorem counts_ok {Φ : Nat → Fn} {c g d t : Nat} (hc : CheckOk (Φ c)) (hg : GroupedOk (Φ g)) (hd : DifferOk (Φ d)) (ht : TurnedOk (Φ t)) : CountsOk (mkFn [] 1 2 (dS Φ (cCounts c g d t))) := by
  intro l h
  have h1 := hc _ h.row
  have h2 := h.grouped hg
  have hn := need_24 h.red h.pos h.ar
  obtain ⟨e1, h3⟩ := counts_loop hd ht (.fz (rw l)) (need l) 1000000 l [] rfl (by omega) h (by simp; omega)
  simp only [List.nil_append] at h3
  generalize hfu : 1000000 = fu at h3
  have hl : (runD l).length = l.length := runD_len _
  unfold rw at *
  simp [mkFn, runB, cCounts, dS, dE, dA, un1, un2, opnd, loc?, owned?, Res.bind, Res.of, Arg.view, Sl.dat, Sl.item, blD, bo, tyD, istyD, excD, q_lt, q_le, q_gt, q_ge, q_eq, q_ne, q_add, q_sub, q_shift, b_max, b_min, isiD, isiT, b_lent, b_lenl, b_tupl, b_tupt, b_lstl, b_lstt, b_suml, b_sumt, stE, itR, itemsOf, argsOf, callOf, slotsOf, putBack, fitL, line, h1, h2, hfu, hl, h3, outs, outS]
/-! == of runs, of rows -/
theorem eqv_ints : ∀ (ns ms : List Int), PyData.eqvAll (ns.map .int) (ms.map .int) = decide (ns = ms)
  | [], [] => by simp [PyData.eqvAll]
  | [], m :: ms => by simp [PyData.eqvAll]
  | n :: ns, [] => by simp [PyData.eqvAll]
  | n :: ns, m :: ms => by
    simp only [List.map_cons, PyData.eqvAll, PyData.eqv, eqv_ints ns ms]
    by_cases h : n = m <;> by_cases h2 : ns = ms <;> simp [h, h2]
theorem lay_ints : ∀ ns : List Int, PyData.canLayAll0 (ns.map .int) = true ∧ PyData.depthAll (ns.map .int) = 0
  | [] => ⟨rfl, rfl⟩
  | n :: ns => by
    obtain ⟨h1, h2⟩ := lay_ints ns
    refine ⟨?_, ?_⟩
    · simp [PyData.canLayAll0, PyData.canLay0, h1]
    · show max 0 (PyData.depthAll (ns.map .int)) = 0
      rw [h2]; rfl
theorem shaped_row (ns : List Int) : SeqAt.shaped (rowD ns) = true := by
  obtain ⟨h1, h2⟩ := lay_ints ns
  unfold SeqAt.shaped rowD
  rw [Bool.and_eq_true]
  refine ⟨by simpa [PyData.canLay0] using h1, decide_eq_true ?_⟩
  show PyData.depthAll (ns.map .int) + 1 ≤ 64
  rw [h2]; decide
theorem eq_row (ns ms : List Int) : cmpD .eq (rowD ns) (rowD ms) = some (decide (ns = ms)) := by
  show eqD (rowD ns) (rowD ms) = _
  unfold eqD
  rw [shaped_row, shaped_row, if_pos (show (true && true) = true from rfl)]
  show some (PyData.eqvAll (ns.map .int) (ms.map .int)) = _
  rw [eqv_ints]
theorem eqv_runs : ∀ (l m : List (Int × Int)), PyData.eqvAll (runD l) (runD m) = decide (l = m)
  | [], [] => by simp [runD, PyData.eqvAll]
  | [], m :: ms => by simp [runD, PyData.eqvAll]
  | n :: ns, [] => by simp [runD, PyData.eqvAll]
  | (a, b) :: ns, (c, d) :: ms => by
    have h := eqv_runs ns ms
    unfold runD at h ⊢
    simp only [List.map_cons, PyData.eqvAll, PyData.eqv, h]
    by_cases h1 : a = c <;> by_cases h2 : b = d <;> by_cases h3 : ns = ms <;> simp [h1, h2, h3]
theorem lay_runs : ∀ l : List (Int × Int), PyData.canLayAll0 (runD l) = true ∧ PyData.depthAll (runD l) ≤ 1
  | [] => ⟨rfl, Nat.zero_le _⟩
  | p :: l => by
    obtain ⟨h1, h2⟩ := lay_runs l
    unfold runD at *
    refine ⟨?_, ?_⟩
    · simp [PyData.canLayAll0, PyData.canLay0, h1]
    · show max (max 0 (max 0 0) + 1) (PyData.depthAll _) ≤ 1
      omega
theorem shaped_runs (l : List (Int × Int)) : SeqAt.shaped (.list (runD l)) = true := by
  obtain ⟨h1, h2⟩ := lay_runs l
  unfold SeqAt.shaped
  rw [Bool.and_eq_true]
  refine ⟨by simpa [PyData.canLay0] using h1, decide_eq_true ?_⟩
  show PyData.depthAll (runD l) + 1 ≤ 64
  omega
theorem eq_runs (l m : List (Int × Int)) : eqD (.list (runD l)) (.list (runD m)) = some (decide (l = m)) := by
  unfold eqD
  rw [shaped_runs, shaped_runs, if_pos (show (true && true) = true from rfl)]
  show some (PyData.eqvAll (runD l) (runD m)) = _
  rw [eqv_runs]
theorem ne_runs (l m : List (Int × Int)) : cmpD .ne (.list (runD l)) (.list (runD m)) = some (!decide (l = m)) := by
  show (eqD (.list (runD l)) (.list (runD m))).map (!·) = _
  rw [eq_runs]; rfl
theorem eq_rw {l m : List (Int × Int)} (h : GL l) (h' : GL m) : cmpD .eq (rw l) (rw m) = some (decide (l = m)) := by
  unfold rw
  rw [eq_row]
  congr 1
  by_cases e : l = m
  · rw [e]; simp
  · rw [decide_eq_false e, decide_eq_false fun z => e (flat_inj h.pos h'.pos h.red h'.red z)]
/-! meeting -/
/-- the least number of rounds, up to n, after which two rows are equal -/
def meetN : Nat → List (Int × Int) → List (Int × Int) → Option Nat
  | 0, l, m => if l = m then some 0 else none
  | n + 1, l, m => if l = m then some 0 else (meetN n (trn l) (trn m)).map (· + 1)
def optD (o : Option Nat) : PyData := match o with
  | some k => .int (k : Nat)
  | none => .none
theorem swp_inj {l m : List (Int × Int)} (h : swp l = swp m) : l = m := by rw [← swp_swp l, h, swp_swp]
theorem meet_calm : ∀ (n : Nat) {l m : List (Int × Int)}, calm l = true → calm m = true → Rm.red l = true → Rm.red m = true → l ≠ m → meetN n l m = none
  | 0, l, m, _, _, _, _, h => if_neg h
  | n + 1, l, m, h1, h2, h3, h4, h => by
    show (if l = m then some 0 else _) = _
    rw [if_neg h, meet_calm n (calm_trn h1 h3) (calm_trn h2 h4) (red_trn l) (red_trn m) (fun z => h (swp_inj (by rw [← trn_calm h1, ← trn_calm h2, z])))]
    rfl
theorem meet_area : ∀ (n : Nat) {l m : List (Int × Int)}, area l ≠ area m → meetN n l m = none
  | 0, l, m, h => if_neg fun z => h (by rw [z])
  | n + 1, l, m, h => by
    show (if l = m then some 0 else _) = _
    rw [if_neg fun z => h (by rw [z]), meet_area n (by rw [area_trn, area_trn]; exact h)]
    rfl
def MeetingOk (fn : Fn) : Prop := ∀ l m, GL l → GL m → fn.run [.fz (rw l), .fz (rw m)] = .ok (.fz (optD (meetN 59 l m)), [.fz (rw l), .fz (rw m)])
def meetingB (d t : Nat) : CS :=
 (.seq (.ite (.and (.call d (.cons (.loc 2) .nil)) (.call d (.cons (.loc 3) .nil)))
 (.seq (.ret .non)
 .nil)
 .nil)
 (.seq (.asg (.loc 2) (.call t (.cons (.loc 2) .nil)))
 (.seq (.asg (.loc 3) (.call t (.cons (.loc 3) .nil)))
 (.seq (.aug 4 false (.int 1))
 .nil))))
def meetingT : CE := (.cmp .ne (.loc 2) (.loc 3))
def cMeeting (c g d t : Nat) : CS :=
 (.seq (.ex (.call c (.cons (.loc 0) .nil)))
 (.seq (.ex (.call c (.cons (.loc 1) .nil)))
 (.seq (.ite (.cmp .ne (.b1 .sum (.loc 0)) (.b1 .sum (.loc 1)))
 (.seq (.ret .non)
 .nil)
 .nil)
 (.seq (.asg (.loc 2) (.call g (.cons (.loc 0) .nil)))
 (.seq (.asg (.loc 3) (.call g (.cons (.loc 1) .nil)))
 (.seq (.asg (.loc 4) (.int 0))
 (.seq (.whl 1000000 meetingT (meetingB d t))
 (.seq (.retM 4)
 .nil))))))))
theorem need_trn_le {l : List (Int × Int)} {n : Nat} (hr : Rm.red l = true) (h : need l ≤ n + 1) : need (trn l) ≤ n := by
  cases q : calm l with
  | false => rw [need_not q] at h; omega
  | true => rw [need_calm (calm_trn q hr)]; omega
def MeetEnd (v w : Sl) (k : Int) (o : Option Nat) (fl : Fl) : Prop := match o with
  | some j => ∃ e2 e3, fl = .nx [v, w, e2, e3, .fz (.int (k + (j : Nat)))]
  | none => ∃ e2 e3 e4, fl = .rt (.fz .none) [v, w, e2, e3, e4]
theorem meeting_loop {Φ : Nat → Fn} {d t : Nat} (hd : DifferOk (Φ d)) (ht : TurnedOk (Φ t)) (v w : Sl) : ∀ (n f : Nat) (l m : List (Int × Int)) (k : Int), GL l → GL m → need l ≤ n → need m ≤ n → n < f →
    ∃ fl, wLoop (dE Φ meetingT) (dS Φ (meetingB d t)) f [v, w, .ol (runD l), .ol (runD m), .fz (.int k)] = .ok fl ∧ MeetEnd v w k (meetN n l m) fl := by
  intro n
  induction n with
  | zero =>
    intro f l m k hl hm h1 h2 hf
    obtain ⟨f, rfl⟩ : ∃ j, f = j + 1 := ⟨f - 1, by omega⟩
    have c1 := calm_need (Nat.le_zero.mp h1)
    have c2 := calm_need (Nat.le_zero.mp h2)
    have d1 := hl.differ hd
    have d2 := hm.differ hd
    rw [c1] at d1
    rw [c2] at d2
    show ∃ fl, _ ∧ MeetEnd v w k (if l = m then some 0 else none) fl
    by_cases e : l = m
    · subst e
      have t1 : dE Φ meetingT [v, w, .ol (runD l), .ol (runD l), .fz (.int k)] = .ok (.fz (.bool false), [v, w, .ol (runD l), .ol (runD l), .fz (.int k)]) := by
        simp [meetingT, dS, dE, dA, un1, un2, opnd, loc?, owned?, Res.bind, Res.of, Arg.view, Sl.dat, Sl.item, blD, bo, tyD, istyD, excD, q_lt, q_le, q_gt, q_ge, q_eq, q_ne, q_add, q_sub, q_shift, b_max, b_min, isiD, isiT, b_lent, b_lenl, b_tupl, b_tupt, b_lstl, b_lstt, b_suml, b_sumt, stE, itR, itemsOf, argsOf, callOf, slotsOf, putBack, fitL, line, ne_runs]
      rw [if_pos rfl]
      exact ⟨_, wh_end t1, .ol (runD l), .ol (runD l), by simp⟩
    · have t1 : dE Φ meetingT [v, w, .ol (runD l), .ol (runD m), .fz (.int k)] = .ok (.fz (.bool true), [v, w, .ol (runD l), .ol (runD m), .fz (.int k)]) := by
        simp [meetingT, dS, dE, dA, un1, un2, opnd, loc?, owned?, Res.bind, Res.of, Arg.view, Sl.dat, Sl.item, blD, bo, tyD, istyD, excD, q_lt, q_le, q_gt, q_ge, q_eq, q_ne, q_add, q_sub, q_shift, b_max, b_min, isiD, isiT, b_lent, b_lenl, b_tupl, b_tupt, b_lstl, b_lstt, b_suml, b_sumt, stE, itR, itemsOf, argsOf, callOf, slotsOf, putBack, fitL, line, ne_runs, e]
      have hb : dS Φ (meetingB d t) [v, w, .ol (runD l), .ol (runD m), .fz (.int k)] = .ok (.rt (.fz .none) [v, w, .fz (.list (runD l)), .fz (.list (runD m)), .fz (.int k)]) := by
        simp [meetingB, dS, dE, dA, un1, un2, opnd, loc?, owned?, Res.bind, Res.of, Arg.view, Sl.dat, Sl.item, blD, bo, tyD, istyD, excD, q_lt, q_le, q_gt, q_ge, q_eq, q_ne, q_add, q_sub, q_shift, b_max, b_min, isiD, isiT, b_lent, b_lenl, b_tupl, b_tupt, b_lstl, b_lstt, b_suml, b_sumt, stE, itR, itemsOf, argsOf, callOf, slotsOf, putBack, fitL, line, d1, d2]
      rw [if_neg e]
      refine ⟨.rt (.fz .none) [v, w, .fz (.list (runD l)), .fz (.list (runD m)), .fz (.int k)], ?_, _, _, _, rfl⟩
      show ((dE Φ meetingT [v, w, .ol (runD l), .ol (runD m), .fz (.int k)]).bind _) = _
      rw [t1]
      show ((dS Φ (meetingB d t) [v, w, .ol (runD l), .ol (runD m), .fz (.int k)]).bind _) = _
      rw [hb]
      rfl
  | succ n ih =>
    intro f l m k hl hm h1 h2 hf
    obtain ⟨f, rfl⟩ : ∃ j, f = j + 1 := ⟨f - 1, by omega⟩
    have d1 := hl.differ hd
    have d2 := hm.differ hd
    have u1 := hl.turned ht
    have u2 := hm.turned ht
    show ∃ fl, _ ∧ MeetEnd v w k (if l = m then some 0 else (meetN n (trn l) (trn m)).map (· + 1)) fl
    by_cases e : l = m
    · subst e
      have t1 : dE Φ meetingT [v, w, .ol (runD l), .ol (runD l), .fz (.int k)] = .ok (.fz (.bool false), [v, w, .ol (runD l), .ol (runD l), .fz (.int k)]) := by
        simp [meetingT, dS, dE, dA, un1, un2, opnd, loc?, owned?, Res.bind, Res.of, Arg.view, Sl.dat, Sl.item, blD, bo, tyD, istyD, excD, q_lt, q_le, q_gt, q_ge, q_eq, q_ne, q_add, q_sub, q_shift, b_max, b_min, isiD, isiT, b_lent, b_lenl, b_tupl, b_tupt, b_lstl, b_lstt, b_suml, b_sumt, stE, itR, itemsOf, argsOf, callOf, slotsOf, putBack, fitL, line, ne_runs]
      rw [if_pos rfl]
      exact ⟨_, wh_end t1, .ol (runD l), .ol (runD l), by simp⟩
    · have t1 : dE Φ meetingT [v, w, .ol (runD l), .ol (runD m), .fz (.int k)] = .ok (.fz (.bool true), [v, w, .ol (runD l), .ol (runD m), .fz (.int k)]) := by
        simp [meetingT, dS, dE, dA, un1, un2, opnd, loc?, owned?, Res.bind, Res.of, Arg.view, Sl.dat, Sl.item, blD, bo, tyD, istyD, excD, q_lt, q_le, q_gt, q_ge, q_eq, q_ne, q_add, q_sub, q_shift, b_max, b_min, isiD, isiT, b_lent, b_lenl, b_tupl, b_tupt, b_lstl, b_lstt, b_suml, b_sumt, stE, itR, itemsOf, argsOf, callOf, slotsOf, putBack, fitL, line, ne_runs, e]
      rw [if_neg e]
      cases c1 : calm l with
      | true =>
        rw [c1] at d1
        cases c2 : calm m with
        | true =>
          rw [c2] at d2
          have hb : dS Φ (meetingB d t) [v, w, .ol (runD l), .ol (runD m), .fz (.int k)] = .ok (.rt (.fz .none) [v, w, .fz (.list (runD l)), .fz (.list (runD m)), .fz (.int k)]) := by
            simp [meetingB, dS, dE, dA, un1, un2, opnd, loc?, owned?, Res.bind, Res.of, Arg.view, Sl.dat, Sl.item, blD, bo, tyD, istyD, excD, q_lt, q_le, q_gt, q_ge, q_eq, q_ne, q_add, q_sub, q_shift, b_max, b_min, isiD, isiT, b_lent, b_lenl, b_tupl, b_tupt, b_lstl, b_lstt, b_suml, b_sumt, stE, itR, itemsOf, argsOf, callOf, slotsOf, putBack, fitL, line, d1, d2]
          rw [meet_calm n (calm_trn c1 hl.red) (calm_trn c2 hm.red) (red_trn l) (red_trn m) (fun z => e (swp_inj (by rw [← trn_calm c1, ← trn_calm c2, z])))]
          refine ⟨.rt (.fz .none) [v, w, .fz (.list (runD l)), .fz (.list (runD m)), .fz (.int k)], ?_, _, _, _, rfl⟩
          show ((dE Φ meetingT [v, w, .ol (runD l), .ol (runD m), .fz (.int k)]).bind _) = _
          rw [t1]
          show ((dS Φ (meetingB d t) [v, w, .ol (runD l), .ol (runD m), .fz (.int k)]).bind _) = _
          rw [hb]
          rfl
        | false =>
          rw [c2] at d2
          have hb : dS Φ (meetingB d t) [v, w, .ol (runD l), .ol (runD m), .fz (.int k)] = .ok (.nx [v, w, .ol (runD (trn l)), .ol (runD (trn m)), .fz (.int (k + 1))]) := by
            simp [meetingB, dS, dE, dA, un1, un2, opnd, loc?, owned?, Res.bind, Res.of, Arg.view, Sl.dat, Sl.item, blD, bo, tyD, istyD, excD, q_lt, q_le, q_gt, q_ge, q_eq, q_ne, q_add, q_sub, q_shift, b_max, b_min, isiD, isiT, b_lent, b_lenl, b_tupl, b_tupt, b_lstl, b_lstt, b_suml, b_sumt, stE, itR, itemsOf, argsOf, callOf, slotsOf, putBack, fitL, line, d1, d2, u1, u2, intS]
          obtain ⟨fl, g1, g2⟩ := ih f (trn l) (trn m) (k + 1) hl.trn hm.trn (need_trn_le hl.red h1) (need_trn_le hm.red h2) (by omega)
          refine ⟨fl, by rw [wh_step t1 hb]; exact g1, ?_⟩
          cases q : meetN n (trn l) (trn m) with
          | none => rw [q] at g2; exact g2
          | some j =>
            rw [q] at g2
            obtain ⟨e2, e3, g2⟩ := g2
            refine ⟨e2, e3, ?_⟩
            rw [g2]
            have : k + 1 + (j : Int) = k + ((j + 1 : Nat) : Int) := by omega
            rw [this]
      | false =>
        rw [c1] at d1
        have hb : dS Φ (meetingB d t) [v, w, .ol (runD l), .ol (runD m), .fz (.int k)] = .ok (.nx [v, w, .ol (runD (trn l)), .ol (runD (trn m)), .fz (.int (k + 1))]) := by
          simp [meetingB, dS, dE, dA, un1, un2, opnd, loc?, owned?, Res.bind, Res.of, Arg.view, Sl.dat, Sl.item, blD, bo, tyD, istyD, excD, q_lt, q_le, q_gt, q_ge, q_eq, q_ne, q_add, q_sub, q_shift, b_max, b_min, isiD, isiT, b_lent, b_lenl, b_tupl, b_tupt, b_lstl, b_lstt, b_suml, b_sumt, stE, itR, itemsOf, argsOf, callOf, slotsOf, putBack, fitL, line, d1, u1, u2, intS]
        obtain ⟨fl, g1, g2⟩ := ih f (trn l) (trn m) (k + 1) hl.trn hm.trn (need_trn_le hl.red h1) (need_trn_le hm.red h2) (by omega)
        refine ⟨fl, by rw [wh_step t1 hb]; exact g1, ?_⟩
        cases q : meetN n (trn l) (trn m) with
        | none => rw [q] at g2; exact g2
        | some j =>
          rw [q] at g2
          obtain ⟨e2, e3, g2⟩ := g2
          refine ⟨e2, e3, ?_⟩
          rw [g2]
          have : k + 1 + (j : Int) = k + ((j + 1 : Nat) : Int) := by omega
          rw [this]
theorem sum_rw {l : List (Int × Int)} (h : GL l) : b1D .sum (rw l) = some (.fz (.int (area l))) := by
  have := b_sumt (flat l)
  rw [h.sum] at this
  exact this
theorem meeting_ok {Φ : Nat → Fn} {c g d t : Nat} (hc : CheckOk (Φ c)) (hg : GroupedOk (Φ g)) (hd : DifferOk (Φ d)) (ht : TurnedOk (Φ t)) : MeetingOk (mkFn [] 2 3 (dS Φ (cMeeting c g d t))) := by
  intro l m h h'
  have h1 := hc _ h.row
  have h1' := hc _ h'.row
  have h2 := h.grouped hg
  have h2' := h'.grouped hg
  have s1 := sum_rw h
  have s2 := sum_rw h'
  have n1 := need_24 h.red h.pos h.ar
  have n2 := need_24 h'.red h'.pos h'.ar
  by_cases ha : area l = area m
  · obtain ⟨fl, h3, h4⟩ := meeting_loop hd ht (.fz (rw l)) (.fz (rw m)) 59 1000000 l m 0 h h' (by omega) (by omega) (by decide)
    generalize hfu : 1000000 = fu at h3
    unfold rw at *
    cases q : meetN 59 l m with
    | none =>
      rw [q] at h4
      obtain ⟨e2, e3, e4, rfl⟩ := h4
      simp [mkFn, runB, cMeeting, dS, dE, dA, un1, un2, opnd, loc?, owned?, Res.bind, Res.of, Arg.view, Sl.dat, Sl.item, blD, bo, tyD, istyD, excD, q_lt, q_le, q_gt, q_ge, q_eq, q_ne, q_add, q_sub, q_shift, b_max, b_min, isiD, isiT, b_lent, b_lenl, b_tupl, b_tupt, b_lstl, b_lstt, b_suml, b_sumt, stE, itR, itemsOf, argsOf, callOf, slotsOf, putBack, fitL, line, h1, h1', h2, h2', s1, s2, ha, hfu, h3, outs, outS, optD, List.range, List.range.loop]
    | some j =>
      rw [q] at h4
      obtain ⟨e2, e3, rfl⟩ := h4
      rw [Int.zero_add] at h3
      simp [mkFn, runB, cMeeting, dS, dE, dA, un1, un2, opnd, loc?, owned?, Res.bind, Res.of, Arg.view, Sl.dat, Sl.item, blD, bo, tyD, istyD, excD, q_lt, q_le, q_gt, q_ge, q_eq, q_ne, q_add, q_sub, q_shift, b_max, b_min, isiD, isiT, b_lent, b_lenl, b_tupl, b_tupt, b_lstl, b_lstt, b_suml, b_sumt, stE, itR, itemsOf, argsOf, callOf, slotsOf, putBack, fitL, line, h1, h1', h2, h2', s1, s2, ha, hfu, h3, outs, outS, optD, List.range, List.range.loop]
  · rw [meet_area 59 ha]
    unfold rw at *
    simp [mkFn, runB, cMeeting, dS, dE, dA, un1, un2, opnd, loc?, owned?, Res.bind, Res.of, Arg.view, Sl.dat, Sl.item, blD, bo, tyD, istyD, excD, q_lt, q_le, q_gt, q_ge, q_eq, q_ne, q_add, q_sub, q_shift, b_max, b_min, isiD, isiT, b_lent, b_lenl, b_tupl, b_tupt, b_lstl, b_lstt, b_suml, b_sumt, stE, itR, itemsOf, argsOf, callOf, slotsOf, putBack, fitL, line, h1, h1', h2, h2', s1, s2, ha, outs, outS, optD, List.range, List.range.loop]
end Gd
set_option maxHeartbeats 4000000
set_option exponentiation.threshold 4000
namespace Gd
open PySem PySem.Spec PyProof.Rows L2 Vl Rm
/-! repr -/
theorem small_i {i : Int} (h : i.natAbs ≤ 1000000) : Small (.int i) := .int (Nat.lt_of_le_of_lt h (by decide +kernel))
theorem small_b (b : Bool) : Small (.bool b) := ⟨rfl, rfl, rfl, by cases b <;> decide⟩
theorem small_n : Small .none := ⟨rfl, rfl, rfl, by decide⟩
theorem ne_same (x : Str) : cmpD .ne (.str x) (.str x) = some false := by
  have e : eqD (.str x) (.str x) = some true := by
    unfold eqD
    split
    · congr 1
      simp [PyData.eqv]
    · simp
  show (eqD (.str x) (.str x)).map (!·) = _
  rw [e]; rfl
theorem rep_row {l : List (Int × Int)} (h : GL l) : RepGood (rw l) := by
  refine tup_good (fun d hd => ?_) (by rw [List.length_map]; have := h.len; omega)
  obtain ⟨n, hn, rfl⟩ := List.mem_map.mp hd
  have := h.nums n hn
  have := le_sum _ h.nums n hn
  have := h.ar
  rw [h.sum] at *
  exact small_i (by omega)
/-- things with a repr of at most b signs, at most two deep -/
structure Med (b : Nat) (d : PyData) : Prop where
  sh : d.showable = true
  cl : d.canLay0 = true
  dp : d.depth ≤ 3
  ln : d.shown.length ≤ b
theorem Small.med {d : PyData} (s : Small d) {b : Nat} (hb : 71 ≤ b) : Med b d := ⟨s.sh, s.cl, by rw [depth_flat s.fl]; decide, Nat.le_trans s.ln hb⟩
theorem all_med {b : Nat} : ∀ {ds : List PyData}, (∀ d ∈ ds, Med b d) → PyData.showableAll ds = true ∧ PyData.canLayAll0 ds = true ∧ PyData.depthAll ds ≤ 3
  | [], _ => ⟨rfl, rfl, Nat.zero_le _⟩
  | d :: r, h => by
    obtain ⟨h1, h2, h3⟩ := all_med (ds := r) fun x hx => h x (List.mem_cons_of_mem _ hx)
    have s := h d List.mem_cons_self
    refine ⟨?_, ?_, ?_⟩
    · show (d.showable && PyData.showableAll r) = true
      rw [s.sh, h1]; rfl
    · simp only [PyData.canLayAll0, s.cl, h2]; rfl
    · show max d.depth (PyData.depthAll r) ≤ 3
      have := s.dp
      omega
theorem lst_med {b : Nat} {ds : List PyData} (h : ∀ d ∈ ds, Med b d) (hz : ds.length * (b + 2) ≤ 1000000) : RepGood (.list ds) := by
  obtain ⟨h1, h2, h3⟩ := all_med h
  refine repGood h1 ?_ ?_ (Nat.le_trans (lst_shown (b := b) fun d hd => (h d hd).ln) (by omega))
  · have : PyData.canLay0 (.list ds) = true := by simpa [PyData.canLay0] using h2
    unfold repOk
    rw [this]; rfl
  · show PyData.depthAll ds + 1 ≤ 64
    omega
theorem tup_med {b : Nat} {ds : List PyData} (h : ∀ d ∈ ds, Med b d) (hz : ds.length * (b + 2) ≤ 1000000) : RepGood (.tuple ds) := by
  obtain ⟨h1, h2, h3⟩ := all_med h
  refine repGood h1 ?_ ?_ (Nat.le_trans (tup_shown (b := b) fun d hd => (h d hd).ln) (by omega))
  · have : PyData.canLay0 (.tuple ds) = true := by simpa [PyData.canLay0] using h2
    unfold repOk
    rw [this]; rfl
  · show PyData.depthAll ds + 1 ≤ 64
    omega
theorem med_row {l : List (Int × Int)} (h : GL l) : Med 20000 (rw l) := by
  have hs : ∀ d ∈ (flat l).map PyData.int, Small d := fun d hd => by
    obtain ⟨n, hn, rfl⟩ := List.mem_map.mp hd
    have := h.nums n hn
    have := le_sum _ h.nums n hn
    have := h.ar
    rw [h.sum] at *
    exact small_i (by omega)
  obtain ⟨h1, h2, h3⟩ := all_small hs
  have hl := h.len
  refine ⟨h1, by simpa [PyData.canLay0, rw, rowD] using h2, ?_, ?_⟩
  · show PyData.depthAll _ + 1 ≤ 3
    rw [h3]; decide
  · have := tup_shown (b := 71) fun d hd => (hs d hd).ln
    rw [List.length_map] at this
    show (PyData.shown (.tuple ((flat l).map .int))).length ≤ _
    omega
theorem rep_rows {ls : List (List (Int × Int))} (h : ∀ l ∈ ls, GL l) (hz : ls.length ≤ 45) : RepGood (.list (ls.map rw)) ∧ RepGood (.tuple (ls.map rw)) := by
  have hm : ∀ d ∈ ls.map rw, Med 20000 d := fun d hd => by
    obtain ⟨l, hl, rfl⟩ := List.mem_map.mp hd
    exact med_row (h l hl)
  exact ⟨lst_med hm (by rw [List.length_map]; omega), tup_med hm (by rw [List.length_map]; omega)⟩
theorem rep_ints {ns : List Int} (h : ∀ n ∈ ns, n.natAbs ≤ 1000000) (hz : ns.length ≤ 10000) : RepGood (.list (ns.map .int)) := by
  refine lst_good (fun d hd => ?_) (by rw [List.length_map]; omega)
  obtain ⟨n, hn, rfl⟩ := List.mem_map.mp hd
  exact small_i (h n hn)
/-! slices -/
theorem cut_take (xs : List PyData) (k : Int) (h0 : 0 ≤ k) (h1 : k ≤ xs.length) : Vl.cutD xs none (some k) = xs.take k.toNat := by
  obtain ⟨j, rfl⟩ := Int.eq_ofNat_of_zero_le h0
  unfold Vl.cutD
  rw [HT.sIx_none, show HT.sIx xs.length xs.length (some (j : Int)) = min j xs.length from HT.sIx_nat _ _ _]
  rw [List.drop_zero, Nat.sub_zero, Int.toNat_natCast]
  congr 1
  omega
theorem cut_drop (xs : List PyData) (k : Int) (h0 : 0 ≤ k) (h1 : k ≤ xs.length) : Vl.cutD xs (some k) none = xs.drop k.toNat := by
  obtain ⟨j, rfl⟩ := Int.eq_ofNat_of_zero_le h0
  unfold Vl.cutD
  rw [HT.sIx_none, show HT.sIx xs.length 0 (some (j : Int)) = min j xs.length from HT.sIx_nat _ _ _, Int.toNat_natCast]
  have e : min j xs.length = j := by omega
  rw [e]
  exact List.take_of_length_le (by rw [List.length_drop]; exact Nat.le_refl _)
theorem cut_init (xs : List PyData) (x : PyData) : Vl.cutD (xs ++ [x]) none (some (-1)) = xs := by
  unfold Vl.cutD
  have e : HT.sIx (xs ++ [x]).length (xs ++ [x]).length (some (-1)) = xs.length := by
    unfold HT.sIx
    simp only
    rw [if_pos (by decide), List.length_append, List.length_singleton]
    omega
  rw [e, HT.sIx_none, List.drop_zero, Nat.sub_zero, List.take_left]
theorem cut_last2 (xs : List PyData) (x y : PyData) : Vl.cutD (xs ++ [x, y]) (some (-2)) none = [x, y] := by
  unfold Vl.cutD
  have e : HT.sIx (xs ++ [x, y]).length 0 (some (-2)) = xs.length := by
    unfold HT.sIx
    simp only
    rw [if_pos (by decide), List.length_append]
    show (-2 + ((xs.length + 2 : Nat) : Int)).toNat = _
    omega
  rw [e, HT.sIx_none, List.drop_left]
  apply List.take_of_length_le
  rw [List.length_append]
  show 2 ≤ xs.length + 2 - xs.length
  omega
theorem ix_last2 (xs : List PyData) (x y : PyData) : ixD (.list (xs ++ [x, y])) (.int (-2)) = some x := by
  show atI (xs ++ [x, y]) (-2) = _
  unfold atI
  have e : ixN (xs ++ [x, y]).length (-2) = some xs.length := by
    unfold ixN
    rw [List.length_append]
    show (if (0 : Int) ≤ -2 then _ else if -(((xs.length + 2 : Nat) : Int)) ≤ -2 then some (-2 + ((xs.length + 2 : Nat) : Int)).toNat else none) = _
    rw [if_neg (by decide), if_pos (by omega)]
    congr 1
    omega
  rw [e]
  show (xs ++ [x, y])[xs.length]? = _
  simp
theorem rng_succ (k : Int) (n : Nat) : rngL k (n + 1) = .int k :: rngL (k + 1) n := by
  unfold rngL
  rw [List.range_succ_eq_map, List.map_cons, List.map_map]
  congr 1
  · simp
  · apply List.map_congr_left
    intro i _
    show PyData.int (k + ((i + 1 : Nat) : Int)) = .int (k + 1 + i)
    congr 1
    omega
theorem still_trn {l : List (Int × Int)} (h : GL l) : still l = decide (trn l = l) := by
  have sw : (swp l = l) ↔ still l = true := by
    unfold still swp
    rw [List.all_eq_true]
    constructor
    · intro e p hp
      have : p ∈ l.map fun p => (p.2, p.1) := by rw [e]; exact hp
      have key : ∀ (l : List (Int × Int)), (l.map fun p => (p.2, p.1)) = l → ∀ p ∈ l, p.1 = p.2 := by
        intro l
        induction l with
        | nil => intro _ p hp; cases hp
        | cons q r ih =>
          intro e p hp
          rw [List.map_cons, List.cons.injEq] at e
          rcases List.mem_cons.mp hp with rfl | hp
          · have := congrArg Prod.fst e.1
            exact this.symm
          · exact ih e.2 p hp
      exact decide_eq_true (key l e p hp)
    · intro e
      have : l.map (fun p => (p.2, p.1)) = l.map id := by
        apply List.map_congr_left
        intro p hp
        have := of_decide_eq_true (e p hp)
        obtain ⟨x, y⟩ := p
        have this : x = y := this
        subst this
        rfl
      rw [this, List.map_id]
  cases hc : calm l with
  | true =>
    rw [trn_calm hc]
    cases hs : still l with
    | true => rw [decide_eq_true (sw.mpr hs)]
    | false => rw [decide_eq_false fun z => by rw [sw.mp z] at hs; cases hs]
  | false =>
    have h1 : trn l ≠ l := fun z => by have := len_trn_lt hc; rw [z] at this; omega
    rw [decide_eq_false h1]
    cases hs : still l with
    | false => rfl
    | true =>
      exfalso
      have e := sw.mpr hs
      unfold calm at hc
      rw [e, h.red] at hc
      cases hc
theorem meet_symm : ∀ (n : Nat) (l m : List (Int × Int)), meetN n l m = meetN n m l
  | 0, l, m => by
    show (if l = m then some 0 else none) = if m = l then some 0 else none
    by_cases e : l = m
    · rw [if_pos e, if_pos e.symm]
    · rw [if_neg e, if_neg fun z => e z.symm]
  | n + 1, l, m => by
    show (if l = m then some 0 else (meetN n (trn l) (trn m)).map (· + 1)) = if m = l then some 0 else (meetN n (trn m) (trn l)).map (· + 1)
    rw [meet_symm n]
    by_cases e : l = m
    · rw [if_pos e, if_pos e.symm]
    · rw [if_neg e, if_neg fun z => e z.symm]
theorem meet_le : ∀ (n : Nat) (l m : List (Int × Int)) (j : Nat), meetN n l m = some j → j ≤ n
  | 0, l, m, j, h => by
    have h : (if l = m then some 0 else none) = some j := h
    split at h <;> cases h
    exact Nat.le_refl _
  | n + 1, l, m, j, h => by
    have h : (if l = m then some 0 else (meetN n (trn l) (trn m)).map (· + 1)) = some j := h
    split at h
    · cases h; exact Nat.zero_le _
    · rw [Option.map_eq_some_iff] at h
      obtain ⟨i, h1, rfl⟩ := h
      have := meet_le n _ _ i h1
      omega
theorem rep_opt (l m : List (Int × Int)) : RepGood (optD (meetN 59 l m)) := by
  cases q : meetN 59 l m with
  | none => exact small_n.good
  | some j =>
    have := meet_le 59 l m j q
    exact (small_i (by omega)).good
/-- a tuple of ints that is a row -/
theorem rw_rle (ns : List Int) : rw (rle ns) = rowD ns := by unfold rw; rw [flat_rle]
end Gd
set_option maxHeartbeats 4000000
namespace Gd
open PySem PySem.Spec PyProof.Rows L2 Vl Rm
/-! joined_runs: what it is worth; proved by hand, since a list stands in another while it grows -/
structure JS where
  cl : List (List Int)
  cur : List Int
  bef : Int
def JS.all (s : JS) : List (List Int) := s.cl ++ (if 2 ≤ s.cur.length then [s.cur] else [])
def JS.step (s : JS) (i len : Int) : JS := if len = s.bef then ⟨s.cl, s.cur ++ [i], len⟩ else ⟨s.all, [i], len⟩
def jfold : Nat → List (Int × Int) → JS → JS
  | _, [], s => s
  | i, p :: l, s => jfold (i + 1) l (s.step (i : Nat) p.2)
def joined (l : List (Int × Int)) : List (List Int) := (jfold 0 l ⟨[], [], 0⟩).all
def joinedD (l : List (Int × Int)) : PyData := .list ((joined l).map fun g => .list (g.map .int))
theorem jfold_snoc : ∀ (l : List (Int × Int)) (i : Nat) (p : Int × Int) (s : JS), jfold i (l ++ [p]) s = (jfold i l s).step ((i + l.length : Nat) : Int) p.2
  | [], i, p, s => rfl
  | q :: l, i, p, s => by
    show jfold (i + 1) (l ++ [p]) _ = (jfold (i + 1) l _).step _ _
    rw [jfold_snoc l (i + 1) p, List.length_cons]
    rw [show i + 1 + l.length = i + (l.length + 1) by omega]
theorem JS.len_step (s : JS) (i len : Int) : (s.step i len).cl.length ≤ s.cl.length + 1 ∧ (s.step i len).cur.length ≤ s.cur.length + 1 ∧ (s.step i len).all.length ≤ s.cl.length + 2 := by
  unfold JS.step JS.all
  split <;> split <;> simp <;> split <;> simp <;> omega
theorem jfold_len : ∀ (l : List (Int × Int)) (i : Nat) (s : JS), (jfold i l s).cl.length ≤ s.cl.length + l.length ∧ (jfold i l s).cur.length ≤ s.cur.length + l.length
  | [], i, s => ⟨Nat.le_refl _, Nat.le_refl _⟩
  | p :: l, i, s => by
    obtain ⟨h1, h2⟩ := jfold_len l (i + 1) (s.step (i : Nat) p.2)
    obtain ⟨h3, h4, _⟩ := s.len_step (i : Nat) p.2
    refine ⟨?_, ?_⟩
    · show (jfold (i + 1) l _).cl.length ≤ _
      rw [List.length_cons]; omega
    · show (jfold (i + 1) l _).cur.length ≤ _
      rw [List.length_cons]; omega
/-- the entries of a row -/
def rowNs (d : PyData) : Option (List Int) := match d with
  | .tuple ds => if isRowC d then intsD ds else none
  | _ => none
theorem rowC_intsD : ∀ (xs : List PyData) (m : Int), rowC m xs = true → ∃ ns, xs = ns.map .int ∧ intsD xs = some ns
  | [], _, _ => ⟨[], rfl, rfl⟩
  | .int i :: r, m, h => by
    have h : (if i = 1 then rowC m r else if 1 < i ∧ i ≤ m then rowC (m - (i - 1)) r else false) = true := h
    have go : ∀ m', rowC m' r = true → ∃ ns, PyData.int i :: r = ns.map .int ∧ intsD (.int i :: r) = some ns := fun m' h' => by
      obtain ⟨ns, e1, e2⟩ := rowC_intsD r m' h'
      exact ⟨i :: ns, by rw [e1]; rfl, by show (intsD r).map (i :: ·) = _; rw [e2]; rfl⟩
    split at h
    · exact go _ h
    · split at h
      · exact go _ h
      · cases h
  | .none :: _, _, h => by cases h
  | .bool _ :: _, _, h => by cases h
  | .str _ :: _, _, h => by cases h
  | .list _ :: _, _, h => by cases h
  | .tuple _ :: _, _, h => by cases h
  | .dict _ :: _, _, h => by cases h
theorem rowC_sums : ∀ (ns : List Int) (m : Int), 1 ≤ m → rowC m (ns.map .int) = true → (∀ n ∈ ns, 1 ≤ n) ∧ ns.sum - (ns.length : Int) ≤ m - 1
  | [], m, h, _ => ⟨fun _ h => (nomatch h), by simp; omega⟩
  | a :: A, m, hm, h => by
    replace h : (if a = 1 then rowC m (A.map .int) else if 1 < a ∧ a ≤ m then rowC (m - (a - 1)) (A.map .int) else false) = true := h
    split at h
    · rename_i e
      obtain ⟨h1, h2⟩ := rowC_sums A m hm h
      refine ⟨fun n hn => ?_, by rw [List.sum_cons, List.length_cons]; omega⟩
      rcases List.mem_cons.mp hn with rfl | hn
      · omega
      · exact h1 n hn
    · split at h
      · obtain ⟨h1, h2⟩ := rowC_sums A _ (by omega) h
        refine ⟨fun n hn => ?_, by rw [List.sum_cons, List.length_cons]; omega⟩
        rcases List.mem_cons.mp hn with rfl | hn
        · omega
        · exact h1 n hn
      · cases h
theorem row_inv {d : PyData} (h : isRowC d = true) : ∃ ns, d = rowD ns ∧ rowNs d = some ns ∧ ns ≠ [] ∧ (∀ n ∈ ns, 1 ≤ n) ∧ ns.sum ≤ 200 ∧ ns.length ≤ 200 := by
  have h0 := h
  unfold isRowC at h
  split at h
  · rename_i xs
    rw [Bool.and_eq_true, Bool.and_eq_true] at h
    obtain ⟨⟨h1, h2⟩, h3⟩ := h
    have h1 := of_decide_eq_true h1
    have h2 := of_decide_eq_true h2
    obtain ⟨ns, rfl, e⟩ := rowC_intsD xs _ h3
    rw [List.length_map] at h1 h2 h3
    obtain ⟨g1, g2⟩ := rowC_sums ns _ (by omega) h3
    refine ⟨ns, rfl, ?_, by rintro rfl; simp at h1, g1, by omega, h2⟩
    show (if isRowC (.tuple (ns.map .int)) then intsD (ns.map .int) else none) = some ns
    rw [h0, if_pos rfl, e]
  · cases h
theorem rowNs_row (ns : List Int) (h0 : ns ≠ []) (h : ∀ n ∈ ns, 1 ≤ n) (hs : ns.sum ≤ 200) : rowNs (rowD ns) = some ns := by
  obtain ⟨ms, e, e2, _⟩ := row_inv (isRow_of ns h0 h hs)
  rw [e2]
  have e : ns.map PyData.int = ms.map .int := by injection e
  have : ns = ms := by
    have q : ∀ (a b : List Int), a.map PyData.int = b.map .int → a = b := fun a => by
      induction a with
      | nil => intro b h; cases b <;> first | rfl | cases h
      | cons x a ih =>
        intro b h
        cases b with
        | nil => cases h
        | cons y b =>
          simp only [List.map_cons, List.cons.injEq, PyData.int.injEq] at h
          rw [h.1, ih b h.2]
    exact q _ _ e
  rw [this]
/-- the meaning of the body behind its check, and of all of it -/
def rJoin2 : Env' → Res Fl := fun env => match env with
  | .fz d :: r => if r.length = 6 then (match rowNs d with
    | some ns => .ok (.rt (.fz (joinedD (rle ns))) (.fz d :: List.replicate 6 .un))
    | none => .no) else .no
  | _ => .no
def rJoin : Env' → Res Fl := fun env => match env with
  | .fz d :: _ => if noX d then (if isRowC d then rJoin2 env else .exc "InvalidRow") else .no
  | _ => .no
section
variable {X : Cx} {T : Tab} {Φ : Nat → Fn} {exA : Str → Option Addr} {L : Nat} {W : WX}
/-- the lists as they stand at a turn; p2 is open, qs are closed -/
structure LSt (s : JS) (σ : L2.St) (H : Hp) (p1 p2 : Addr) (qs : List Addr) : Prop where
  v1 : σ[1]? = some (some (.ref p1))
  v2 : σ[2]? = some (some (.ref p2))
  v3 : σ[3]? = some (some (.int s.bef))
  h1 : H p1 = some (.lst ((qs ++ if 2 ≤ s.cur.length then [p2] else []).map V.ref))
  h2 : H p2 = some (.lst (s.cur.map V.int))
  hq : Paired (fun q g => H q = some (.lst (g.map V.int))) qs s.cl
  nd : (p1 :: p2 :: qs).Nodup
def names7 : List Str := ["row", "groups", "group", "before", "index", "_", "length"]
/-- what one turn does -/
def tTurn : TS := fun D σ H => ∃ (s : JS) (i len : Int) (p1 p2 : Addr) (qs : List Addr), σ.length = 7 ∧ LSt s σ H p1 p2 qs ∧ σ[4]? = some (some (.int i)) ∧ σ[6]? = some (some (.int len)) ∧ s.cl.length < 10000 ∧ s.cur.length < 10000 ∧
  ∀ σ' H' p2' qs', LSt (s.step i len) σ' H' p1 p2' qs' → σ'[0]? = σ[0]? → σ'.length = 7 → (∀ x o, H x = some o → x ≠ p1 → x ≠ p2 → H' x = some o) → (∀ x ∈ p2' :: qs', x ∈ p2 :: qs ∨ H x = none) → D.nx σ' H'
/-- the end of a turn: the open list enters the other one when it holds two -/
def tTail : TS := fun D σ H => ∃ (a1 b : Addr) (gs : List V) (cur : List Int) (len : Int), σ[1]? = some (some (.ref a1)) ∧ σ[2]? = some (some (.ref b)) ∧ σ[6]? = some (some (.int len)) ∧ H a1 = some (.lst gs) ∧ gs.length < 100000 ∧ H b = some (.lst (cur.map V.int)) ∧
  D.nx (σ.set 3 (some (.int len))) (if cur.length = 2 then upd H a1 (.lst (gs ++ [.ref b])) else H)
theorem tail_join (hN : X.N = names7) (nd : X.N.Nodup) (st : ∀ x ∈ names7, L2.Loc X.env.scope x ∧ (X.fn x = true ∨ X.env.scope.names.lookup x = some .local))
    (hlen : Gl X "len" ∧ X.mg "len" = none) (p13 p14 p15 p16 p17 p19 p20 p21 p22 p23 p24 p25 p26 p27 : Pos) (g2 : (p20.endLine == p22.line) = true) (kk : Nat) :
    PSs X [.If (.Compare (.Call (.Name "len" p13) [.Name "group" p14] [] p15) [.Eq] [.Constant (.int 2) kk p16] p17) [.Expr (.Call (.Attribute (.Name "groups" p19) "append" p20) [.Name "group" p21] [] p22) p23] [] p24,
      .Assign [.Name "before" p25] (.Name "length" p26) p27] tTail := by
  have nm : ∀ (i : Nat) (x : Str), names7[i]? = some x → X.N[i]? = some x := fun i x h => by rw [hN]; exact h
  have pv : ∀ (i : Nat) (x : Str) (p : Pos), names7[i]? = some x → (x == ("__debug__" : Str)) = false → (x == ("__classdict__" : Str)) = false → PE X (.Name x p) (tVar i) := fun i x p h d1 d2 => by
    obtain ⟨h1, _⟩ := st x (List.mem_of_getElem? h)
    exact pe_var (nm i x h) (h1.imp id .inl) d1 d2
  refine PSs.imp (pss_cons (ps_if (pt_cmpR op_eq (pe_callB call_len_seq hlen.1 hlen.2 PySem.boot_len (pa_cons (pv 2 "group" p14 rfl rfl rfl) pa_nil)) pe_int (nomark _)) (pss_one (ps_expr (pe_bm PySem.F.plainAttrs_list PySem.F.slot_list_append PySem.F.type_list_append mt_append (pv 1 "groups" p19 rfl rfl rfl) (pa_cons (pv 2 "group" p21 rfl rfl rfl) pa_nil) rfl rfl g2))) pss_nil)
    (pss_one (ps_set (i := 3) nd (nm 3 _ rfl) (st _ (by decide)).1 (pv 6 "length" p26 rfl rfl rfl) rfl (st _ (by decide)).2))) fun D σ H q => ?_
  obtain ⟨a1, b, gs, cur, len, v1, v2, v6, h1, z, h2, go⟩ := q
  refine ⟨_, v2, b, _, rfl, .inl (.inl (.inl h2)), rfl, _, rfl, ?_⟩
  by_cases e : cur.length = 2
  · rw [if_pos e] at go
    rw [if_pos (by simp [e])]
    refine ⟨_, v1, .inl ⟨rfl, _, .inl (.inl h1)⟩, _, v2, ?_⟩
    exact ⟨a1, _, _, rfl, rfl, h1, by rw [sizeLine_eq]; omega, _, v6, go⟩
  · rw [if_neg e] at go
    rw [if_neg (by simp; omega)]
    exact ⟨_, v6, go⟩
theorem paired_keep {H H' : Hp} : ∀ {qs : List Addr} {gs : List (List Int)}, Paired (fun q (g : List Int) => H q = some (.lst (g.map V.int))) qs gs → (∀ q ∈ qs, ∀ o, H q = some o → H' q = some o) → Paired (fun q (g : List Int) => H' q = some (.lst (g.map V.int))) qs gs
  | _, _, .nil, _ => .nil
  | _, _, .cons h t, k => .cons (k _ List.mem_cons_self _ h) (paired_keep t fun q hq => k q (List.mem_cons_of_mem _ hq))
theorem paired_snoc {G : Addr → List Int → Prop} : ∀ {qs : List Addr} {gs : List (List Int)} {q : Addr} {g : List Int}, Paired G qs gs → G q g → Paired G (qs ++ [q]) (gs ++ [g])
  | _, _, _, _, .nil, h => .cons h .nil
  | _, _, _, _, .cons h t, k => .cons h (paired_snoc t k)
theorem paired_len {G : Addr → List Int → Prop} : ∀ {qs : List Addr} {gs : List (List Int)}, Paired G qs gs → qs.length = gs.length
  | _, _, .nil => rfl
  | _, _, .cons _ t => by simp [paired_len t]
theorem body_join (hN : X.N = names7) (nd : X.N.Nodup) (st : ∀ x ∈ names7, L2.Loc X.env.scope x ∧ (X.fn x = true ∨ X.env.scope.names.lookup x = some .local))
    (hlen : Gl X "len" ∧ X.mg "len" = none) (p1 p2 p3 p4 p5 p6 p7 p8 p9 p10 p11 p12 p13 p14 p15 p16 p17 p19 p20 p21 p22 p23 p24 p25 p26 p27 : Pos) (g1 : (p9.endLine == p11.line) = true) (g2 : (p20.endLine == p22.line) = true) (kk : Nat) :
    PSs X [.If (.Compare (.Name "length" p1) [.NotEq] [.Name "before" p2] p3) [.Assign [.Name "group" p4] (.List [] p5) p6] [] p7,
      .Expr (.Call (.Attribute (.Name "group" p8) "append" p9) [.Name "index" p10] [] p11) p12,
      .If (.Compare (.Call (.Name "len" p13) [.Name "group" p14] [] p15) [.Eq] [.Constant (.int 2) kk p16] p17) [.Expr (.Call (.Attribute (.Name "groups" p19) "append" p20) [.Name "group" p21] [] p22) p23] [] p24,
      .Assign [.Name "before" p25] (.Name "length" p26) p27] tTurn := by
  have nm : ∀ (i : Nat) (x : Str), names7[i]? = some x → X.N[i]? = some x := fun i x h => by rw [hN]; exact h
  have pv : ∀ (i : Nat) (x : Str) (p : Pos), names7[i]? = some x → (x == ("__debug__" : Str)) = false → (x == ("__classdict__" : Str)) = false → PE X (.Name x p) (tVar i) := fun i x p h d1 d2 => by
    obtain ⟨h1, _⟩ := st x (List.mem_of_getElem? h)
    exact pe_var (nm i x h) (h1.imp id .inl) d1 d2
  refine PSs.imp (pss_cons (ps_if (pt_cmpR op_ne (pv 6 "length" p1 rfl rfl rfl) (pv 3 "before" p2 rfl rfl rfl) (nomark _)) (pss_one (ps_set (i := 2) nd (nm 2 _ rfl) (st _ (by decide)).1 (pe_lst pa_nil) rfl (st _ (by decide)).2)) pss_nil)
    (pss_cons (ps_expr (pe_bm PySem.F.plainAttrs_list PySem.F.slot_list_append PySem.F.type_list_append mt_append (pv 2 "group" p8 rfl rfl rfl) (pa_cons (pv 4 "index" p10 rfl rfl rfl) pa_nil) rfl rfl g1))
    (tail_join hN nd st hlen p13 p14 p15 p16 p17 p19 p20 p21 p22 p23 p24 p25 p26 p27 g2 kk))) fun D σ H q => ?_
  obtain ⟨s, i, len, a1, a2, qs, hl, S, v4, v6, z1, z2, go⟩ := q
  have nd12 : a1 ≠ a2 := by have := S.nd; simp at this; exact this.1.1
  have nq : ∀ x ∈ qs, x ≠ a1 ∧ x ≠ a2 := fun x hx => by
    have := S.nd
    simp at this
    exact ⟨fun z => this.1.2 (z ▸ hx), fun z => this.2.1 (z ▸ hx)⟩
  have ql := paired_len S.hq
  refine ⟨_, v6, _, S.v3, rfl, _, rfl, ?_⟩
  by_cases e : len = s.bef
  · subst e
    rw [if_neg (by simp)]
    -- the open group grows
    have hs : s.step i s.bef = ⟨s.cl, s.cur ++ [i], s.bef⟩ := by unfold JS.step; rw [if_pos rfl]
    rw [hs] at go
    refine ⟨_, S.v2, .inl ⟨rfl, _, .inl (.inl S.h2)⟩, _, v4, ?_⟩
    refine ⟨a2, _, _, rfl, rfl, S.h2, by rw [List.length_map, sizeLine_eq]; omega, ?_⟩
    have e2 : s.cur.map V.int ++ [V.int i] = (s.cur ++ [i]).map V.int := by simp
    rw [e2]
    refine ⟨a1, a2, _, s.cur ++ [i], s.bef, S.v1, S.v2, v6, (upd_ne nd12).trans S.h1, ?_, upd_same, ?_⟩
    · have zz : (if 2 ≤ s.cur.length then [a2] else []).length ≤ 1 := by split <;> simp
      rw [List.length_map, List.length_append]; omega
    · refine go _ _ a2 qs ?_ (by rw [List.getElem?_set_ne (by decide)]) (by rw [List.length_set]; exact hl) (fun x o hx n1 n2 => ?_) fun x hx => .inl hx
      · have hq1 : Paired (fun q (g : List Int) => (upd H a2 (.lst ((s.cur ++ [i]).map V.int))) q = some (.lst (g.map V.int))) qs s.cl := paired_keep S.hq fun q hq o ho => by rw [upd_ne (nq q hq).2]; exact ho
        refine ⟨by rw [List.getElem?_set_ne (by decide)]; exact S.v1, by rw [List.getElem?_set_ne (by decide)]; exact S.v2, by rw [List.getElem?_set_self (by omega)], ?_, ?_, ?_, S.nd⟩
        · split
          · rename_i e3
            rw [upd_same, if_neg (by simp at e3; omega), if_pos (by simp at e3 ⊢; omega)]
            simp
          · rename_i e3
            rw [upd_ne nd12, S.h1]
            by_cases e4 : 2 ≤ s.cur.length
            · rw [if_pos e4, if_pos (by simp; omega)]
            · rw [if_neg e4, if_neg (by rw [List.length_append, List.length_singleton] at e3 ⊢; omega)]
        · split
          · rw [upd_ne (Ne.symm nd12), upd_same]
          · exact upd_same
        · split
          · exact paired_keep hq1 fun q hq o ho => by rw [upd_ne (nq q hq).1]; exact ho
          · exact hq1
      · split
        · rw [upd_ne n1, upd_ne n2]; exact hx
        · rw [upd_ne n2]; exact hx
  · have hb : (!decide (V.int len = V.int s.bef)) = true := by simpa using e
    rw [hb]
    show (if true = true then _ else _)
    rw [if_pos rfl]
    -- a new group begins
    have hs : s.step i len = ⟨s.all, [i], len⟩ := by unfold JS.step; rw [if_neg e]
    rw [hs] at go
    refine ⟨by rw [sizeLine_eq]; simp, fun p3 hp3 => ?_⟩
    have n31 : a1 ≠ p3 := ne_of_none S.h1 hp3
    have n32 : a2 ≠ p3 := ne_of_none S.h2 hp3
    have n3q : ∀ x ∈ qs, x ≠ p3 := fun x hx => by
      rintro rfl
      have : ∀ {qs : List Addr} {gs : List (List Int)}, Paired (fun q (g : List Int) => H q = some (.lst (g.map V.int))) qs gs → x ∈ qs → False := fun {qs gs} h m => by
        induction h with
        | nil => cases m
        | cons h1 _ ih =>
          rcases List.mem_cons.mp m with rfl | m
          · rw [hp3] at h1; cases h1
          · exact ih m
      exact this S.hq hx
    have lt2 : 2 < σ.length := by omega
    refine ⟨_, List.getElem?_set_self lt2, .inl ⟨rfl, _, .inl (.inl upd_same)⟩, _, (List.getElem?_set_ne (by decide)).trans v4, ?_⟩
    refine ⟨p3, _, _, rfl, rfl, upd_same, by rw [sizeLine_eq]; simp, ?_⟩
    have h1' : (upd (upd H p3 (.lst [])) p3 (.lst ([] ++ [V.int i]))) a1 = some (.lst ((qs ++ if 2 ≤ s.cur.length then [a2] else []).map V.ref)) := by rw [upd_ne n31, upd_ne n31]; exact S.h1
    refine ⟨a1, p3, _, [i], len, (List.getElem?_set_ne (by decide)).trans S.v1, List.getElem?_set_self lt2, (List.getElem?_set_ne (by decide)).trans v6, h1', ?_, upd_same, ?_⟩
    · have zz : (if 2 ≤ s.cur.length then [a2] else []).length ≤ 1 := by split <;> simp
      rw [List.length_map, List.length_append]; omega
    · rw [if_neg (by simp)]
      refine go _ _ p3 (qs ++ if 2 ≤ s.cur.length then [a2] else []) ?_ (by rw [List.getElem?_set_ne (by decide), List.getElem?_set_ne (by decide)]) (by rw [List.length_set, List.length_set]; exact hl) (fun x o hx n1 n2 => ?_) fun x hx => ?_
      · refine ⟨by rw [List.getElem?_set_ne (by decide), List.getElem?_set_ne (by decide)]; exact S.v1, by rw [List.getElem?_set_ne (by decide), List.getElem?_set_self lt2], by rw [List.getElem?_set_self (by rw [List.length_set]; omega)], ?_, upd_same, ?_, ?_⟩
        · rw [h1']; simp
        · have hk : Paired (fun q (g : List Int) => (upd (upd H p3 (.lst [])) p3 (.lst ([] ++ [V.int i]))) q = some (.lst (g.map V.int))) qs s.cl := paired_keep S.hq fun q hq o ho => by rw [upd_ne (n3q q hq), upd_ne (n3q q hq)]; exact ho
          unfold JS.all
          split
          · exact paired_snoc hk (by rw [upd_ne n32, upd_ne n32]; exact S.h2)
          · simpa using hk
        · have ndq := S.nd
          simp only [List.nodup_cons, List.mem_cons, not_or] at ndq ⊢
          refine ⟨⟨n31, ?_⟩, ?_, ?_⟩
          · rw [List.mem_append, not_or]
            refine ⟨ndq.1.2, ?_⟩
            split
            · simpa using nd12
            · simp
          · rw [List.mem_append, not_or]
            refine ⟨fun m => n3q _ m rfl, ?_⟩
            split
            · simpa using Ne.symm n32
            · simp
          · split
            · rw [List.nodup_append]
              refine ⟨ndq.2.2, by simp, fun x hx y hy => ?_⟩
              rw [List.mem_singleton] at hy
              subst hy
              exact (nq x hx).2
            · simpa using ndq.2.2
      · have n3 : x ≠ p3 := ne_of_none hx hp3
        rw [upd_ne n3, upd_ne n3]; exact hx
      · rcases List.mem_cons.mp hx with rfl | hx
        · exact .inr hp3
        · rw [List.mem_append] at hx
          rcases hx with hx | hx
          · exact .inl (List.mem_cons_of_mem _ hx)
          · split at hx
            · rw [List.mem_singleton] at hx; subst hx; exact .inl List.mem_cons_self
            · cases hx
/-- at a turn of the loop; p1 is the list that will be handed back -/
structure JPv (H0 F' : Hp) (p1 a : Addr) (xs : List V) (l : List (Int × Int)) (v0 : Option (Option V)) (n : Nat) (σ : L2.St) (H : Hp) : Prop where
  ls : ∃ (p2 : Addr) (qs : List Addr), LSt (jfold 0 (l.take n) ⟨[], [], 0⟩) σ H p1 p2 qs ∧ ∀ x ∈ p1 :: p2 :: qs, H0 x = none ∧ F' x = none ∧ x ≠ a
  r : σ[0]? = v0
  n : σ.length = 7
  a : H a = some (.lst xs)
  k0 : ∀ x o, H0 x = some o → H x = some o
  kF : Sub F' H
theorem pss_joined2 (C : Cok X T Φ exA L W) (fr : Frm X) (hN : T.N = names7) (hst : ∀ x ∈ names7, T.st x = true) {g : Nat} {eg : Expr} (hg : ck (.call g (.cons (.loc 0) .nil)) T .e eg = true) (hns : nst eg = true) (hen : blB T "enumerate" = true) (hle : blB T "len" = true) (og : GroupedOk (Φ g))
    (q1 q2 q3 q4 q5 q6 q7 q8 q9 r1 r2 r3 r4 r5 r6 r7 r8 r9 t1 t2 : Pos) (k0 k1 k2 : Nat)
    (p1 p2 p3 p4 p5 p6 p7 p8 p9 p10 p11 p12 p13 p14 p15 p16 p17 p19 p20 p21 p22 p23 p24 p25 p26 p27 : Pos) (g1 : (p9.endLine == p11.line) = true) (g2 : (p20.endLine == p22.line) = true) (kk : Nat) :
    PSs X [.Assign [.Name "groups" q1] (.List [] q2) q3, .Assign [.Name "group" q4] (.List [] q5) q6, .Assign [.Name "before" q7] (.Constant (.int 0) k0 q8) q9,
      .For (.Tuple [.Name "index" r1, .Tuple [.Name "_" r2, .Name "length" r3] k1 r4] k2 r5) (.Call (.Name "enumerate" r6) [eg] [] r7)
        [.If (.Compare (.Name "length" p1) [.NotEq] [.Name "before" p2] p3) [.Assign [.Name "group" p4] (.List [] p5) p6] [] p7,
      .Expr (.Call (.Attribute (.Name "group" p8) "append" p9) [.Name "index" p10] [] p11) p12,
      .If (.Compare (.Call (.Name "len" p13) [.Name "group" p14] [] p15) [.Eq] [.Constant (.int 2) kk p16] p17) [.Expr (.Call (.Attribute (.Name "groups" p19) "append" p20) [.Name "group" p21] [] p22) p23] [] p24,
      .Assign [.Name "before" p25] (.Name "length" p26) p27] [] r8,
      .Return (some (.Name "groups" t1)) t2] (tSx X.K exA W [] rJoin2) := by
  have hN' : X.N = names7 := by rw [C.n]; exact hN
  have nd : X.N.Nodup := by rw [C.n]; exact C.nd
  have st : ∀ x ∈ names7, L2.Loc X.env.scope x ∧ (X.fn x = true ∨ X.env.scope.names.lookup x = some .local) := fun x hx => C.st x (hst x hx)
  have nm : ∀ (i : Nat) (x : Str), names7[i]? = some x → X.N[i]? = some x := fun i x h => by rw [hN']; exact h
  have pv : ∀ (i : Nat) (x : Str) (p : Pos), names7[i]? = some x → (x == ("__debug__" : Str)) = false → (x == ("__classdict__" : Str)) = false → PE X (.Name x p) (tVar i) := fun i x p h d1 d2 => by
    obtain ⟨h1, _⟩ := st x (List.mem_of_getElem? h)
    exact pe_var (nm i x h) (h1.imp id .inl) d1 d2
  have pg : ∀ (i : Nat) (x : Str) (p : Pos), names7[i]? = some x → PG X (.Name x p) (gName i) := fun i x p h => pg_name nd (nm i x h) (st x (List.mem_of_getElem? h)).1 (st x (List.mem_of_getElem? h)).2
  have hge := (sound Φ exA L (.call g (.cons (.loc 0) .nil))).e X T W C eg hg
  refine PSs.imp (pss_cons (ps_set (i := 1) nd (nm 1 _ rfl) (st _ (by decide)).1 (pe_lst pa_nil) rfl (st _ (by decide)).2)
    (pss_cons (ps_set (i := 2) nd (nm 2 _ rfl) (st _ (by decide)).1 (pe_lst pa_nil) rfl (st _ (by decide)).2)
    (pss_cons (ps_set (i := 3) nd (nm 3 _ rfl) (st _ (by decide)).1 pe_int rfl (st _ (by decide)).2)
    (pss_cons (ps_for fr.po C.calm (pi_enum (blB_ok C hen).1 (blB_ok C hen).2 (pa_cons hge pa_nil (nst_star hns _ _)) (nst_star hns _ _))
      (pg_tup C.calm (pgs_cons (pg 4 "index" r1 rfl) (pgs_cons (pg_tup C.calm (pgs_cons (pg 5 "_" r2 rfl) (pgs_cons (pg 6 "length" r3 rfl) pgs_nil))) pgs_nil)))
      (body_join hN' nd st (blB_ok C hle) p1 p2 p3 p4 p5 p6 p7 p8 p9 p10 p11 p12 p13 p14 p15 p16 p17 p19 p20 p21 p22 p23 p24 p25 p26 p27 g1 g2 kk))
    (pss_one (ps_ret (pv 1 "groups" t1 rfl rfl rfl))))))) fun D σ H q => ?_
  obtain ⟨F, env, E, q⟩ := q
  -- the argument
  obtain ⟨d, env', rfl⟩ : ∃ d env', env = .fz d :: env' := by
    unfold rJoin2 at q
    split at q
    · exact ⟨_, _, rfl⟩
    · exact q.elim
  have q : OnR (if env'.length = 6 then (match rowNs d with
    | some ns => Res.ok (Fl.rt (.fz (joinedD (rle ns))) (.fz d :: List.replicate 6 .un))
    | none => .no) else .no) (fun f => Kst X.K F H (.fz d :: env') σ [] f D) (Xk exA W F H (Ow (.fz d :: env') σ)) := q
  split at q <;> first | exact q.elim | skip
  rename_i h6
  have hσ : σ.length = 7 := by rw [← E.len, List.length_cons, h6]
  cases hns' : rowNs d with
  | none => rw [hns'] at q; exact q.elim
  | some ns =>
    rw [hns'] at q
    have hrow : isRowC d = true := by
      unfold rowNs at hns'
      split at hns'
      · split at hns'
        · assumption
        · cases hns'
      · cases hns'
    obtain ⟨ns', rfl, e2, n0, n1, n2, n3⟩ := row_inv hrow
    rw [hns'] at e2
    cases e2
    obtain ⟨v0, hv0, rv0⟩ := E.ok 0 (.fz (rowD ns)) rfl (by simp)
    have rv0 : Rp X.K F v0 (rowD ns) := rv0
    have k : Kst X.K F H (.fz (rowD ns) :: env') σ [] (.rt (.fz (joinedD (rle ns))) (.fz (rowD ns) :: List.replicate 6 .un)) D := q
    generalize hl : rle ns = l at k
    have hl7 : l.length ≤ 200 := by
      rw [← hl]
      have := GL.of n0 n1 n2
      have := this.runs
      omega
    -- the two new lists
    refine ⟨by rw [sizeLine_eq]; simp, fun p1 hp1 => ⟨by rw [sizeLine_eq]; simp, fun p2 hp2 => ?_⟩⟩
    have n21 : p2 ≠ p1 := by rintro rfl; rw [upd_same] at hp2; cases hp2
    have hp2' : H p2 = none := by rw [upd_ne n21] at hp2; exact hp2
    generalize hH3 : upd (upd H p1 (.lst [])) p2 (.lst []) = H3
    have up3 : ∀ x o, H x = some o → H3 x = some o := fun x o hx => by
      rw [← hH3, upd_ne (ne_of_none hx hp2'), upd_ne (ne_of_none hx hp1)]; exact hx
    have a1 : H3 p1 = some (.lst []) := by rw [← hH3, upd_ne (Ne.symm n21), upd_same]
    have a2 : H3 p2 = some (.lst []) := by rw [← hH3, upd_same]
    generalize hσ3 : (((σ.set 1 (some (.ref p1))).set 2 (some (.ref p2))).set 3 (some (.int 0))) = σ3
    have s0 : σ3[0]? = some (some v0) := by rw [← hσ3, List.getElem?_set_ne (by decide), List.getElem?_set_ne (by decide), List.getElem?_set_ne (by decide)]; exact hv0
    have s1 : σ3[1]? = some (some (.ref p1)) := by rw [← hσ3, List.getElem?_set_ne (by decide), List.getElem?_set_ne (by decide), List.getElem?_set_self (by omega)]
    have s2 : σ3[2]? = some (some (.ref p2)) := by rw [← hσ3, List.getElem?_set_ne (by decide), List.getElem?_set_self (by rw [List.length_set]; omega)]
    have s3 : σ3[3]? = some (some (.int 0)) := by rw [← hσ3, List.getElem?_set_self (by simp; omega)]
    have sl : σ3.length = 7 := by rw [← hσ3]; simp; exact hσ
    obtain ⟨E3, no3⟩ := env_ofFz (K := X.K) (F := F) (H := H3) (env := .fz (rowD ns) :: List.replicate 6 .un) (σ := σ3) (fun x o h => up3 x o (E.sub x o h)) (by rw [sl]; rfl) fun i s hi => by
      cases i with
      | zero => cases hi; exact .inr ⟨_, v0, rfl, s0, rv0⟩
      | succ i =>
        rw [List.getElem?_cons_succ, List.getElem?_replicate] at hi
        split at hi
        · cases hi; exact .inl rfl
        · cases hi
    have run : dE Φ (.call g (.cons (.loc 0) .nil)) (.fz (rowD ns) :: List.replicate 6 .un) = .ok (.ol (runD l), .fz (rowD ns) :: List.replicate 6 .un) := by
      have r := og ns n0 (by omega)
      rw [hl] at r
      simp [dS, dE, dA, un1, un2, opnd, loc?, owned?, Res.bind, Res.of, Arg.view, Sl.dat, Sl.item, blD, bo, tyD, istyD, excD, q_lt, q_le, q_gt, q_ge, q_eq, q_ne, q_add, q_sub, q_shift, b_max, b_min, isiD, isiT, b_lent, b_lenl, b_tupl, b_tupt, b_lstl, b_lstt, b_suml, b_sumt, stE, itR, itemsOf, argsOf, callOf, slotsOf, putBack, fitL, line, r]
    subst hσ3 hH3
    refine ⟨F, _, E3, ?_⟩
    rw [run]
    intro v F' H4 E4 st4 t4
    obtain ⟨a, xs, rfl, Fa, Ha, rxs⟩ : ∃ a xs, v = .ref a ∧ F' a = none ∧ H4 a = some (.lst xs) ∧ RpA X.K F' xs (runD l) := t4.ok
    have up4 : ∀ x o, (upd (upd H p1 (.lst [])) p2 (.lst [])) x = some o → H4 x = some o := fun x o h => st4.keep x o h (no3 x)
    have fra : (upd (upd H p1 (.lst [])) p2 (.lst [])) a = none := by
      rcases t4.fr a rfl with z | z
      · exact absurd z (no3 a)
      · exact z
    have newF : ∀ x, H x = none → (upd (upd H p1 (.lst [])) p2 (.lst [])) x ≠ none → F' x = none := fun x h1 h2 => by
      cases e : F' x with
      | none => rfl
      | some o =>
        rcases st4.new x (by rw [e]; simp) with z | z | z
        · exact absurd (by
            cases e2 : F x with
            | none => rfl
            | some o2 => have := E.sub x o2 e2; rw [h1] at this; cases this) z
        · exact absurd z h2
        · exact absurd z (no3 x)
    have hxl : xs.length = l.length := by rw [rxs.n, runD_len]
    have w := walk_enum (K := X.K) (a := a) (xs := xs)
    refine ⟨a, xs, rfl, .inl (.inl Ha), for_it w (fun n σ' H' => JPv H F' p1 a xs l (some (some v0)) n σ' H') ?_ ?_ ?_ ?_⟩
    · refine ⟨⟨p2, [], ⟨s1, s2, s3, up4 _ _ a1, up4 _ _ a2, .nil, by simp; exact Ne.symm n21⟩, fun x hx => ?_⟩, s0, sl, Ha, fun x o h => up4 x o (up3 x o h), E4.sub⟩
      have : x = p1 ∨ x = p2 := by simpa using hx
      rcases this with rfl | rfl
      · exact ⟨hp1, newF _ hp1 (by rw [a1]; simp), by rintro rfl; rw [a1] at fra; cases fra⟩
      · exact ⟨hp2', newF _ hp2' (by rw [a2]; simp), by rintro rfl; rw [a2] at fra; cases fra⟩
    · exact fun n σ' H' _ J => .inl (.inl J.a)
    · intro n x σ' H' H'' hn J y
      obtain ⟨Tp, y1, y2, rfl, hT, rfl, e1, e2⟩ := y
      cases e1
      obtain ⟨dd, hd1, hd2⟩ := rxs.getV e2
      have hn' : n < l.length := by omega
      have hdd : dd = .tuple [.int l[n].1, .int l[n].2] := by
        unfold runD at hd1
        rw [List.getElem?_map, List.getElem?_eq_getElem hn'] at hd1
        cases hd1
        rfl
      subst hdd
      obtain ⟨tq, zs, rfl, hz, rz⟩ : ∃ tq zs, y2 = .ref tq ∧ SqT X.K F' tq zs ∧ RpA X.K F' zs [.int l[n].1, .int l[n].2] := by
        cases hd2 with
        | tup h n e => exact ⟨_, _, rfl, h, n, e⟩
      have hzs : zs = [V.int l[n].1, V.int l[n].2] := RpA.ints (ns := [l[n].1, l[n].2]) rz
      subst hzs
      obtain ⟨⟨b2, qs, S, fresh⟩, j0, jn, ja, jk, jF⟩ := J
      have nT : ∀ x o, H' x = some o → x ≠ Tp := fun x o h => ne_of_none h hT
      refine ⟨Tp, _, rfl, .inl (.inl upd_same), rfl, _, _, rfl, ?_⟩
      refine ⟨_, _, rfl, ⟨tq, [V.int l[n].1, V.int l[n].2], rfl, ?_, rfl, .int l[n].1, _, rfl, .int l[n].2, _, rfl, rfl, rfl, ?_⟩⟩
      · exact sqT_sub (fun x o h => by rw [upd_ne (nT x o (jF x o h))]; exact jF x o h) hz
      · have L := jfold_len (l.take n) 0 ⟨[], [], 0⟩
        simp only [List.length_nil, Nat.zero_add, List.length_take] at L
        refine ⟨jfold 0 (l.take n) ⟨[], [], 0⟩, (n : Int), l[n].2, p1, b2, qs, by simp; exact jn, ⟨?_, ?_, ?_, ?_, ?_, ?_, S.nd⟩, ?_, ?_, by omega, by omega, ?_⟩
        · rw [List.getElem?_set_ne (by decide), List.getElem?_set_ne (by decide), List.getElem?_set_ne (by decide)]; exact S.v1
        · rw [List.getElem?_set_ne (by decide), List.getElem?_set_ne (by decide), List.getElem?_set_ne (by decide)]; exact S.v2
        · rw [List.getElem?_set_ne (by decide), List.getElem?_set_ne (by decide), List.getElem?_set_ne (by decide)]; exact S.v3
        · rw [upd_ne (nT _ _ S.h1)]; exact S.h1
        · rw [upd_ne (nT _ _ S.h2)]; exact S.h2
        · exact paired_keep S.hq fun q hq o ho => by rw [upd_ne (nT q o ho)]; exact ho
        · rw [List.getElem?_set_ne (by decide), List.getElem?_set_ne (by decide), List.getElem?_set_self (by omega)]
        · rw [List.getElem?_set_self (by simp; omega)]
        · intro σ5 H5 c2 qs5 S5 r5 l5 k5 f5
          have hjf : jfold 0 (l.take (n + 1)) ⟨[], [], 0⟩ = (jfold 0 (l.take n) ⟨[], [], 0⟩).step (n : Nat) l[n].2 := by
            rw [List.take_succ, List.getElem?_eq_getElem hn']
            show jfold 0 (l.take n ++ [l[n]]) _ = _
            rw [jfold_snoc, Nat.zero_add, List.length_take, Nat.min_eq_left (by omega)]
          have keep5 : ∀ x o, H' x = some o → x ≠ p1 → x ≠ b2 → H5 x = some o := fun x o h n1 n2 => k5 x o (by rw [upd_ne (nT x o h)]; exact h) n1 n2
          have f1 := fresh p1 List.mem_cons_self
          have f2 := fresh b2 (List.mem_cons_of_mem _ List.mem_cons_self)
          refine ⟨⟨c2, qs5, by rw [hjf]; exact S5, fun x hx => ?_⟩, ?_, l5, keep5 a _ ja (Ne.symm f1.2.2) (Ne.symm f2.2.2), fun x o h => ?_, fun x o h => ?_⟩
          · rcases List.mem_cons.mp hx with rfl | hx
            · exact f1
            · rcases f5 x hx with z | z
              · exact fresh x (List.mem_cons_of_mem _ z)
              · have z' : H' x = none := by
                  by_cases e : x = Tp
                  · rw [e]; exact hT
                  · rw [upd_ne e] at z; exact z
                refine ⟨?_, ?_, ?_⟩
                · cases e : H x with
                  | none => rfl
                  | some o => have := jk x o e; rw [z'] at this; cases this
                · cases e : F' x with
                  | none => rfl
                  | some o => have := jF x o e; rw [z'] at this; cases this
                · rintro rfl; rw [ja] at z'; cases z'
          · rw [r5, List.getElem?_set_ne (by decide), List.getElem?_set_ne (by decide), List.getElem?_set_ne (by decide)]; exact j0
          · exact keep5 x o (jk x o h) (by rintro rfl; rw [f1.1] at h; cases h) (by rintro rfl; rw [f2.1] at h; cases h)
          · exact keep5 x o (jF x o h) (by rintro rfl; rw [f1.2.1] at h; cases h) (by rintro rfl; rw [f2.2.1] at h; cases h)
    · intro σ' H' J
      obtain ⟨⟨b2, qs, S, fresh⟩, j0, jn, ja, jk, jF⟩ := J
      rw [hxl, List.take_of_length_le (Nat.le_refl _)] at S
      refine ⟨_, S.v1, ?_⟩
      -- what is handed back is frozen
      generalize hs : jfold 0 l ⟨[], [], 0⟩ = s at S
      have hj : joined l = s.all := by unfold joined; rw [hs]
      obtain ⟨qa, hqa⟩ : ∃ qa, qa = qs ++ if 2 ≤ s.cur.length then [b2] else [] := ⟨_, rfl⟩
      have pa : Paired (fun q (g : List Int) => H' q = some (.lst (g.map V.int))) qa s.all := by
        rw [hqa]
        unfold JS.all
        split
        · exact paired_snoc S.hq S.h2
        · simpa using S.hq
      have fra' : ∀ x ∈ p1 :: qa, H x = none ∧ F' x = none ∧ x ≠ a := fun x hx => by
        rcases List.mem_cons.mp hx with rfl | hx
        · exact fresh _ List.mem_cons_self
        · rw [hqa, List.mem_append] at hx
          rcases hx with hx | hx
          · exact fresh x (List.mem_cons_of_mem _ (List.mem_cons_of_mem _ hx))
          · split at hx
            · rw [List.mem_singleton] at hx; subst hx; exact fresh _ (List.mem_cons_of_mem _ List.mem_cons_self)
            · cases hx
      have H1 : H' p1 = some (.lst (qa.map V.ref)) := by rw [hqa]; exact S.h1
      have sub2 : Sub F (fun x => if x ∈ p1 :: qa then H' x else F x) := fun x o h => by
        show (if x ∈ p1 :: qa then H' x else F x) = some o
        rw [if_neg (fun m => by have := (fra' x m).1; rw [E.sub x o h] at this; cases this)]
        exact h
      obtain ⟨E9, no9⟩ := env_ofFz (K := X.K) (F := fun x => if x ∈ p1 :: qa then H' x else F x) (H := H') (env := .fz (rowD ns) :: List.replicate 6 .un) (σ := σ')
        (fun x o h => by
          replace h : (if x ∈ p1 :: qa then H' x else F x) = some o := h
          split at h
          · exact h
          · exact jk x o (E.sub x o h))
        (by rw [jn]; rfl) fun i s hi => by
          cases i with
          | zero => cases hi; exact .inr ⟨_, v0, rfl, j0, Rp.sub sub2 rv0⟩
          | succ i =>
            rw [List.getElem?_cons_succ, List.getElem?_replicate] at hi
            split at hi
            · cases hi; exact .inl rfl
            · cases hi
      refine k _ σ' _ H' E9 ⟨sub2, fun x o h _ => jk x o h, fun x h => ?_, fun x h => absurd h (no9 x)⟩ (fun _ h => by cases h) ⟨?_, fun x o => o.elim, fun x o => o.elim⟩
      · by_cases m : x ∈ p1 :: qa
        · exact .inr (.inl (fra' x m).1)
        · replace h : (if x ∈ p1 :: qa then H' x else F x) ≠ none := h
          rw [if_neg m] at h
          exact .inl h
      · show Rp X.K (fun x => if x ∈ p1 :: qa then H' x else F x) (.ref p1) (joinedD l)
        unfold joinedD
        rw [hj]
        have items : ∀ (q : List Addr) (g : List (List Int)), (∀ x ∈ q, x ∈ p1 :: qa) → Paired (fun q (g : List Int) => H' q = some (.lst (g.map V.int))) q g → RpA X.K (fun x => if x ∈ p1 :: qa then H' x else F x) (q.map V.ref) (g.map fun g => PyData.list (g.map .int)) := by
          intro q g hm p
          induction p with
          | nil => exact .nil
          | @cons x y q' g' h1 _ ih =>
            refine .cons (.lst' (.inl (.inl ?_)) (xs := y.map V.int) ?_) (ih fun x hx => hm x (List.mem_cons_of_mem _ hx))
            · show (if x ∈ p1 :: qa then H' x else F x) = _
              rw [if_pos (hm x List.mem_cons_self)]
              exact h1
            · refine ⟨by simp, fun i v d e1 e2 => ?_⟩
              rw [List.getElem?_map] at e1 e2
              cases e : y[i]? with
              | none => rw [e] at e1; cases e1
              | some n => rw [e] at e1 e2; cases e1; cases e2; exact .int n
        exact .lst' (.inl (.inl (by show (if p1 ∈ p1 :: qa then H' p1 else F p1) = _; rw [if_pos List.mem_cons_self]; exact H1))) (items qa s.all (fun x hx => List.mem_cons_of_mem _ hx) pa)
theorem pss_joined (C : Cok X T Φ exA L W) (fr : Frm X) {c : Nat} {s1 : Stmt} {rest : List Stmt} (h1 : ckS (.ex (.call c (.cons (.loc 0) .nil))) T [] s1 = true) (oc : CheckOk (Φ c)) (ob : CheckBad (Φ c)) (hr : PSs X rest (tSx X.K exA W [] rJoin2)) : PSs X (s1 :: rest) (tSx X.K exA W [] rJoin) := by
  refine PSs.imp (pss_consx ((sndS_all (.ex (.call c (.cons (.loc 0) .nil)))).s X T W [] C fr s1 h1) hr) fun D σ H q => ?_
  obtain ⟨F, env, E, q⟩ := q
  refine ⟨F, env, E, ?_⟩
  unfold rJoin at q
  split at q <;> first | exact q.elim | skip
  rename_i d r
  split at q <;> first | exact q.elim | skip
  rename_i hx
  split at q
  · rename_i hrow
    have e : dS Φ (.ex (.call c (.cons (.loc 0) .nil))) (.fz d :: r) = .ok (.nx (.fz d :: r)) := by
      have := oc d hrow
      simp [dS, dE, dA, un1, un2, opnd, loc?, owned?, Res.bind, Res.of, Arg.view, Sl.dat, Sl.item, blD, bo, tyD, istyD, excD, q_lt, q_le, q_gt, q_ge, q_eq, q_ne, q_add, q_sub, q_shift, b_max, b_min, isiD, isiT, b_lent, b_lenl, b_tupl, b_tupt, b_lstl, b_lstt, b_suml, b_sumt, stE, itR, itemsOf, argsOf, callOf, slotsOf, putBack, fitL, line, this]
    show OnR ((dS Φ (.ex (.call c (.cons (.loc 0) .nil))) (.fz d :: r)).bind _) _ _
    rw [e]
    exact q
  · rename_i hrow
    have e : dS Φ (.ex (.call c (.cons (.loc 0) .nil))) (.fz d :: r) = .exc "InvalidRow" := by
      have := ob d hx (by simpa using hrow)
      simp [dS, dE, dA, un1, un2, opnd, loc?, owned?, Res.bind, Res.of, Arg.view, Sl.dat, Sl.item, blD, bo, tyD, istyD, excD, q_lt, q_le, q_gt, q_ge, q_eq, q_ne, q_add, q_sub, q_shift, b_max, b_min, isiD, isiT, b_lent, b_lenl, b_tupl, b_tupt, b_lstl, b_lstt, b_suml, b_sumt, stE, itR, itemsOf, argsOf, callOf, slotsOf, putBack, fitL, line, this]
    show OnR ((dS Φ (.ex (.call c (.cons (.loc 0) .nil))) (.fz d :: r)).bind _) _ _
    rw [e]
    exact q
end
/-! what the def is worth -/
def JoinOk (fn : Fn) : Prop := ∀ l, GL l → fn.run [.fz (rw l)] = .ok (.fz (joinedD l), [.fz (rw l)])
def JoinBad (fn : Fn) : Prop := ∀ d, noX d = true → isRowC d = false → fn.run [.fz d] = .exc "InvalidRow"
theorem join_ok : JoinOk (mkFn [] 1 6 rJoin) ∧ JoinBad (mkFn [] 1 6 rJoin) := by
  refine ⟨fun l h => ?_, fun d hx h => ?_⟩
  · have h1 := h.row
    have h2 := rowC_noX h1
    have h3 := rowNs_row (flat l) h.fne h.nums (by rw [h.sum]; exact h.ar)
    have h4 := h.rle
    unfold rw
    simp [mkFn, runB, rJoin, rJoin2, Res.bind, h1, h2, h3, h4, outs, outS, List.range, List.range.loop]
  · simp [mkFn, runB, rJoin, Res.bind, hx, h]
end Gd
set_option maxHeartbeats 4000000
set_option exponentiation.threshold 4000
namespace Gd
open PySem PySem.Spec PyProof.Rows L2 Vl Rm
/-! _law_pool, _law_dip, _law_row of the laws of bounds and of what leads to a row -/
theorem seq_nx {Φ : Nat → Fn} {a r : CS} {env e : Env'} (h : dS Φ a env = .ok (.nx e)) : dS Φ (.seq a r) env = dS Φ r e := by
  show ((dS Φ a env).bind _) = _
  rw [h]
  rfl
theorem seq_ok {Φ : Nat → Fn} {a r : CS} {env e : Env'} {f : Res Fl} (h : dS Φ a env = .ok (.nx e)) (h2 : dS Φ r e = f) : dS Φ (.seq a r) env = f := (seq_nx h).trans h2
theorem q_cube (i : Int) (h0 : 0 ≤ i) (h1 : i ≤ 1000000000000000000000000000000000000000000000000000000000000) : opD .pow (.int i) (.int 3) = some (.fz (.int (i ^ 3))) := by
  show (if cPowW i 3 then some (Sl.fz (.int (i ^ (3 : Int).toNat))) else none) = _
  have : cPowW i 3 = true := by
    refine decide_eq_true (.inr ⟨by decide, by decide, ?_⟩)
    by_cases hz : i.natAbs = 0
    · rw [hz]; decide
    · refine Nat.lt_trans ((Nat.log2_lt hz).mpr (?_ : i.natAbs < 2 ^ 200)) (by decide)
      omega
  rw [this]; rfl
theorem q_divW (i j : Int) (h : 0 < j) (h2 : j ≤ 1000000000000000000000000000000000000000000000000000000000000) : opD .fdiv (.int i) (.int j) = some (.fz (.int (i / j))) := by
  show (if cDiv i j then some (Sl.fz (.int (i / j))) else none) = _
  have : cDiv i j = true := by
    refine decide_eq_true ⟨h, ?_⟩
    refine Nat.lt_trans ((Nat.log2_lt (by omega)).mpr (?_ : j.natAbs < 2 ^ 200)) (by decide)
    omega
  rw [this]; rfl
theorem p18 : opD .pow (.int 10) (.int 18) = some (.fz (.int 1000000000000000000)) := rfl
theorem p38 : opD .pow (.int 10) (.int 38) = some (.fz (.int 100000000000000000000000000000000000000)) := rfl
theorem p40 : opD .pow (.int 10) (.int 40) = some (.fz (.int 10000000000000000000000000000000000000000)) := rfl
theorem p41 : opD .pow (.int 10) (.int 41) = some (.fz (.int 100000000000000000000000000000000000000000)) := rfl
def cPool : CS :=
 (.seq (.asg (.loc 2) (.int 0))
 (.seq (.ite (.cmp .lt (.loc 1) (.b1 .len (.loc 0)))
 (.seq (.asg (.loc 2) (.ix (.loc 0) (.loc 1)))
 .nil)
 .nil)
 (.seq (.ret (.lst (.cons (.b2 .max (.int 0) (.bin .sub (.loc 2) (.bin .pow (.int 10) (.int 18)))) (.cons (.bin .add (.bin .add (.bin .mod (.loc 2) (.bin .add (.bin .pow (.int 10) (.int 38)) (.int 133))) (.bin .mul (.int 40009) (.loc 1))) (.int 53)) (.cons (.int 0) .nil)))))
 .nil)))
/-- what a pool's numbers are -/
structure PoolN (b c : Int) : Prop where
  b0 : 0 ≤ b
  b1 : b ≤ 1000000000000000000000000000000000000000
  c0 : 0 ≤ c
  c1 : c ≤ 1000000000
theorem PoolN.up {b c c' : Int} (h : PoolN b c) (h1 : c ≤ c') (h2 : c' ≤ 1000000000) : PoolN b c' := ⟨h.b0, h.b1, Int.le_trans h.c0 h1, h2⟩
def PoolOk (fn : Fn) : Prop := ∀ (ns : List Int) (k : Nat), k ≤ 1000 → ∃ a b, fn.run [.fz (.list (ns.map .int)), .fz (.int k)] = .ok (.ol (bagD a b 0), [.fz (.list (ns.map .int)), .fz (.int k)]) ∧ PoolN b 0
theorem pool_ok (Φ : Nat → Fn) : PoolOk (mkFn [] 2 1 (dS Φ cPool)) := by
  intro ns k hk
  have m : ∀ x : Int, 0 ≤ x % 100000000000000000000000000000000000133 ∧ x % 100000000000000000000000000000000000133 < 100000000000000000000000000000000000133 := fun x => ⟨Int.emod_nonneg x (by omega), Int.emod_lt_of_pos x (by omega)⟩
  have md := fun x => q_mod x 100000000000000000000000000000000000133 (by decide)
  have ml := q_mul 40009 (k : Int) (by decide)
  have key : ∀ x : Int, ((k : Int) < ns.length → ixD (.list (ns.map .int)) (.int k) = some (.int x)) → (¬ (k : Int) < ns.length → x = 0) →
      (mkFn [] 2 1 (dS Φ cPool)).run [.fz (.list (ns.map .int)), .fz (.int k)] = .ok (.ol (bagD (if x - 1000000000000000000 > 0 then x - 1000000000000000000 else 0) (x % 100000000000000000000000000000000000133 + 40009 * k + 53) 0), [.fz (.list (ns.map .int)), .fz (.int k)]) := by
    intro x h1 h2
    have ln : b1D .len (.list (ns.map PyData.int)) = some (.fz (.int (ns.length : Nat))) := by
      show some (Sl.fz (.int ((ns.map PyData.int).length : Nat))) = _
      rw [List.length_map]
    by_cases h : (k : Int) < ns.length
    · have h1 := h1 h
      generalize ns.map PyData.int = L at *
      simp [mkFn, runB, cPool, dS, dE, dA, un1, un2, opnd, loc?, owned?, Res.bind, Res.of, Arg.view, Sl.dat, Sl.item, blD, bo, tyD, istyD, excD, q_lt, q_le, q_gt, q_ge, q_eq, q_ne, q_add, q_sub, q_shift, b_max, b_min, isiD, isiT, b_lent, b_lenl, b_tupl, b_tupt, b_lstl, b_lstt, b_suml, b_sumt, stE, itR, itemsOf, argsOf, callOf, slotsOf, putBack, fitL, line, bagD, p38, ln, h, h1, md, ml, outs, outS, List.range, List.range.loop]
    · have h2 := h2 h
      subst h2
      generalize ns.map PyData.int = L at *
      simp [mkFn, runB, cPool, dS, dE, dA, un1, un2, opnd, loc?, owned?, Res.bind, Res.of, Arg.view, Sl.dat, Sl.item, blD, bo, tyD, istyD, excD, q_lt, q_le, q_gt, q_ge, q_eq, q_ne, q_add, q_sub, q_shift, b_max, b_min, isiD, isiT, b_lent, b_lenl, b_tupl, b_tupt, b_lstl, b_lstt, b_suml, b_sumt, stE, itR, itemsOf, argsOf, callOf, slotsOf, putBack, fitL, line, bagD, p38, ln, h, md, ml, outs, outS, List.range, List.range.loop]
  by_cases h : k < ns.length
  · refine ⟨_, _, key ns[k] (fun _ => ?_) (fun z => absurd (by omega) z), ⟨?_, ?_, by decide, by decide⟩⟩
    · show atI (ns.map PyData.int) ((k : Nat) : Int) = _
      exact atI_nat (by rw [List.getElem?_map, List.getElem?_eq_getElem h]; rfl)
    · have := m ns[k]; omega
    · have := m ns[k]; omega
  · refine ⟨_, _, key 0 (fun z => absurd z (by omega)) (fun _ => rfl), ⟨?_, ?_, by decide, by decide⟩⟩
    · have := m 0; omega
    · have := m 0; omega
def cDip : CS :=
 (.seq (.ite (.cmp .gt (.ix (.loc 0) (.int 0)) (.int 0))
 (.seq (.asg (.loc 3) (.bin .mod (.ix (.loc 0) (.int 0)) (.loc 1)))
 (.seq (.setix 0 (.int 0) (.bin .fdiv (.ix (.loc 0) (.int 0)) (.loc 1)))
 (.seq (.retM 3)
 .nil)))
 .nil)
 (.seq (.setix 0 (.int 2) (.bin .add (.ix (.loc 0) (.int 2)) (.int 1)))
 (.seq (.asg (.loc 2) (.bin .mod (.bin .pow (.bin .add (.ix (.loc 0) (.int 1)) (.bin .mul (.int 32452867) (.ix (.loc 0) (.int 2)))) (.int 3)) (.bin .add (.bin .pow (.int 10) (.int 41)) (.int 37))))
 (.seq (.asg (.loc 2) (.bin .mod (.bin .pow (.bin .add (.loc 2) (.bin .mul (.int 86028121) (.ix (.loc 0) (.int 2)))) (.int 3)) (.bin .add (.bin .pow (.int 10) (.int 40)) (.int 121))))
 (.seq (.ret (.bin .mod (.bin .fdiv (.loc 2) (.int 655373)) (.loc 1)))
 .nil)))))
def DipOk (fn : Fn) : Prop := ∀ a b c m : Int, PoolN b c → 1 ≤ m → m ≤ 10000000000000000000000000000000 → ∃ t a' c', fn.run [.ol (bagD a b c), .fz (.int m)] = .ok (.fz (.int t), [.ol (bagD a' b c'), .fz (.int m)]) ∧ 0 ≤ t ∧ t < m ∧ c ≤ c' ∧ c' ≤ c + 1
theorem dip_ok (Φ : Nat → Fn) : DipOk (mkFn [0] 2 2 (dS Φ cDip)) := by
  intro a b c m hp h1 h2
  have h : 0 < m := by omega
  have m1 : ∀ x : Int, 0 ≤ x % m ∧ x % m < m := fun x => ⟨Int.emod_nonneg x (by omega), Int.emod_lt_of_pos x h⟩
  have i0 : ∀ x y z : Int, ixD (.list [.int x, .int y, .int z]) (.int 0) = some (.int x) := fun _ _ _ => rfl
  have i1 : ∀ x y z : Int, ixD (.list [.int x, .int y, .int z]) (.int 1) = some (.int y) := fun _ _ _ => rfl
  have i2 : ∀ x y z : Int, ixD (.list [.int x, .int y, .int z]) (.int 2) = some (.int z) := fun _ _ _ => rfl
  have n0 : ixN 3 0 = some 0 := rfl
  have n2 : ixN 3 2 = some 2 := rfl
  by_cases g : 0 < a
  · refine ⟨a % m, a / m, c, ?_, (m1 a).1, (m1 a).2, by omega, by omega⟩
    simp [mkFn, runB, cDip, dS, dE, dA, un1, un2, opnd, loc?, owned?, Res.bind, Res.of, Arg.view, Sl.dat, Sl.item, blD, bo, tyD, istyD, excD, q_lt, q_le, q_gt, q_ge, q_eq, q_ne, q_add, q_sub, q_shift, b_max, b_min, isiD, isiT, b_lent, b_lenl, b_tupl, b_tupt, b_lstl, b_lstt, b_suml, b_sumt, stE, itR, itemsOf, argsOf, callOf, slotsOf, putBack, fitL, line, bagD, g, h, q_mod _ _ h, q_divW _ _ h (by omega), outs, outS, i0, i1, i2, n0, n2, olD, intS, List.range, List.range.loop]
  · have hb0 := hp.b0
    have hb1 := hp.b1
    have hc0 := hp.c0
    have hc1 := hp.c1
    have ml1 := q_mul 32452867 (c + 1) (by decide)
    have ml2 := q_mul 86028121 (c + 1) (by decide)
    have md1 := fun x => q_mod x 100000000000000000000000000000000000000037 (by decide)
    have md2 := fun x => q_mod x 10000000000000000000000000000000000000121 (by decide)
    have dv := fun x => q_divW x 655373 (by decide) (by decide)
    have cu1 := q_cube (b + 32452867 * (c + 1)) (by omega) (by omega)
    have hx0 := Int.emod_nonneg ((b + 32452867 * (c + 1)) ^ 3) (show (100000000000000000000000000000000000000037 : Int) ≠ 0 by decide)
    have hx1 := Int.emod_lt_of_pos ((b + 32452867 * (c + 1)) ^ 3) (show (0 : Int) < 100000000000000000000000000000000000000037 by decide)
    have md1' := md1 ((b + 32452867 * (c + 1)) ^ 3)
    generalize (b + 32452867 * (c + 1)) ^ 3 = y1 at *
    generalize y1 % 100000000000000000000000000000000000000037 = x1 at *
    have cu2 := q_cube (x1 + 86028121 * (c + 1)) (by omega) (by omega)
    generalize (x1 + 86028121 * (c + 1)) ^ 3 = y2 at *
    refine ⟨y2 % 10000000000000000000000000000000000000121 / 655373 % m, a, c + 1, ?_, (m1 _).1, (m1 _).2, by omega, by omega⟩
    simp [mkFn, runB, cDip, dS, dE, dA, un1, un2, opnd, loc?, owned?, Res.bind, Res.of, Arg.view, Sl.dat, Sl.item, blD, bo, tyD, istyD, excD, q_lt, q_le, q_gt, q_ge, q_eq, q_ne, q_add, q_sub, q_shift, b_max, b_min, isiD, isiT, b_lent, b_lenl, b_tupl, b_tupt, b_lstl, b_lstt, b_suml, b_sumt, stE, itR, itemsOf, argsOf, callOf, slotsOf, putBack, fitL, line, bagD, g, h, p40, p41, ml1, ml2, md1', md2, dv, cu1, cu2, q_mod _ _ h, outs, outS, i0, i1, i2, n0, n2, olD, intS, List.range, List.range.loop]
end Gd
set_option maxHeartbeats 200000
namespace Bn
/-! rows by their marks: a row with the sum n + 1 as n marks, true where two units stand in one entry -/
def incR : List Int → List Int
  | [] => [1]
  | h :: r => (h + 1) :: r
def R : List Bool → List Int
  | [] => [1]
  | true :: b => incR (R b)
  | false :: b => 1 :: R b
def val : List Bool → Nat
  | [] => 0
  | b :: r => (if b then 2 ^ r.length else 0) + val r
def bits : Nat → Nat → List Bool
  | 0, _ => []
  | j + 1, s => decide ((s / 2 ^ j) % 2 = 1) :: bits j s
theorem bits_len : ∀ j s, (bits j s).length = j
  | 0, _ => rfl
  | j + 1, s => by show (bits j s).length + 1 = _; rw [bits_len]
theorem R_ne : ∀ b, R b ≠ []
  | [] => by simp [R]
  | true :: b => by
    show incR (R b) ≠ []
    cases h : R b <;> simp [incR]
  | false :: b => by simp [R]
theorem R_pos : ∀ b, ∀ n ∈ R b, 1 ≤ n
  | [], n, h => by simp [R] at h; omega
  | true :: b, n, h => by
    have ih := R_pos b
    replace h : n ∈ incR (R b) := h
    cases e : R b with
    | nil => exact absurd e (R_ne b)
    | cons x r =>
      rw [e] at h ih
      replace h : n ∈ (x + 1) :: r := h
      rcases List.mem_cons.mp h with z | z
      · have := ih x List.mem_cons_self; omega
      · exact ih n (List.mem_cons_of_mem _ z)
  | false :: b, n, h => by
    replace h : n ∈ 1 :: R b := h
    rcases List.mem_cons.mp h with z | z
    · omega
    · exact R_pos b n z
theorem R_sum : ∀ b, (R b).sum = (b.length : Int) + 1
  | [] => rfl
  | true :: b => by
    have ih := R_sum b
    show (incR (R b)).sum = _
    cases e : R b with
    | nil => exact absurd e (R_ne b)
    | cons x r =>
      rw [e, List.sum_cons] at ih
      show ((x + 1) :: r).sum = _
      rw [List.sum_cons, List.length_cons]
      omega
  | false :: b => by
    have ih := R_sum b
    show (1 :: R b).sum = _
    rw [List.sum_cons, List.length_cons]
    omega
/-- a row's number -/
def numA (a : Int) : List Int → Int
  | [] => a
  | e :: r => numA (a * 2 ^ e.toNat + 2 ^ (e - 1).toNat - 1) r
theorem numA_add : ∀ (r : List Int) (a : Int), (∀ n ∈ r, 1 ≤ n) → numA a r = a * 2 ^ r.sum.toNat + numA 0 r
  | [], a, _ => by simp [numA]
  | e :: r, a, h => by
    have he := h e List.mem_cons_self
    have hr : ∀ n ∈ r, 1 ≤ n := fun n hn => h n (List.mem_cons_of_mem _ hn)
    have hs : 0 ≤ r.sum := by
      have : ∀ l : List Int, (∀ n ∈ l, 1 ≤ n) → 0 ≤ l.sum := by
        intro l
        induction l with
        | nil => intro _; decide
        | cons x xs ih =>
          intro hx
          have := hx x List.mem_cons_self
          have := ih fun y hy => hx y (List.mem_cons_of_mem _ hy)
          rw [List.sum_cons]; omega
      exact this r hr
    show numA (a * 2 ^ e.toNat + 2 ^ (e - 1).toNat - 1) r = a * 2 ^ (e :: r).sum.toNat + numA (0 * 2 ^ e.toNat + 2 ^ (e - 1).toNat - 1) r
    rw [numA_add r _ hr, numA_add r (0 * 2 ^ e.toNat + 2 ^ (e - 1).toNat - 1) hr, List.sum_cons, show (e + r.sum).toNat = e.toNat + r.sum.toNat by omega, Int.pow_add]
    generalize (2 : Int) ^ e.toNat = x
    generalize (2 : Int) ^ (e - 1).toNat = y
    generalize (2 : Int) ^ r.sum.toNat = z
    generalize numA 0 r = w
    rw [Int.sub_mul, Int.sub_mul, Int.add_mul, Int.add_mul, Int.zero_mul, Int.zero_mul, Int.mul_assoc]
    omega
theorem val_lt : ∀ b, val b < 2 ^ b.length
  | [] => by decide
  | b :: r => by
    have := val_lt r
    show (if b then 2 ^ r.length else 0) + val r < 2 ^ (r.length + 1)
    rw [Nat.pow_succ]
    split <;> omega
theorem num_R : ∀ b, numA 0 (R b) = (val b : Int)
  | [] => by simp [R, numA, val]
  | true :: b => by
    have ih := num_R b
    have hp := R_pos b
    have hs := R_sum b
    show numA 0 (incR (R b)) = ((2 ^ b.length + val b : Nat) : Int)
    cases e : R b with
    | nil => exact absurd e (R_ne b)
    | cons x r =>
      rw [e] at ih hp hs
      have hx := hp x List.mem_cons_self
      have hr : ∀ n ∈ r, 1 ≤ n := fun n hn => hp n (List.mem_cons_of_mem _ hn)
      replace ih : numA (0 * 2 ^ x.toNat + 2 ^ (x - 1).toNat - 1) r = (val b : Int) := ih
      show numA (0 * 2 ^ (x + 1).toNat + 2 ^ (x + 1 - 1).toNat - 1) r = _
      rw [numA_add r _ hr] at ih ⊢
      rw [List.sum_cons] at hs
      have hrs : 0 ≤ r.sum := by
        cases r with
        | nil => decide
        | cons y ys =>
          have : ∀ l : List Int, (∀ n ∈ l, 1 ≤ n) → 0 ≤ l.sum := by
            intro l
            induction l with
            | nil => intro _; decide
            | cons x xs ih =>
              intro hx
              have := hx x List.mem_cons_self
              have := ih fun y hy => hx y (List.mem_cons_of_mem _ hy)
              rw [List.sum_cons]; omega
          exact this _ hr
      have e1 : (x + 1 - 1).toNat = (x - 1).toNat + 1 := by omega
      have e2 : b.length = (x - 1).toNat + r.sum.toNat := by omega
      have w1 : (2 : Int) ^ ((x - 1).toNat + 1) = 2 ^ (x - 1).toNat * 2 := Int.pow_succ ..
      have w2 : (2 : Int) ^ ((x - 1).toNat + r.sum.toNat) = 2 ^ (x - 1).toNat * 2 ^ r.sum.toNat := Int.pow_add ..
      have e3 : ((2 : Nat) : Int) = 2 := rfl
      rw [e1, w1, Int.natCast_add, Int.natCast_pow, e2, e3, w2]
      rw [Int.zero_mul, Int.zero_add] at ih ⊢
      generalize (2 : Int) ^ (x - 1).toNat = y at *
      generalize (2 : Int) ^ r.sum.toNat = z at *
      generalize numA 0 r = w at *
      rw [Int.sub_mul] at ih ⊢
      have : y * 2 * z = y * z + y * z := by rw [Int.mul_assoc, Int.mul_comm 2 z, ← Int.mul_assoc]; omega
      omega
  | false :: b => by
    have ih := num_R b
    show numA (0 * 2 ^ (1 : Int).toNat + 2 ^ ((1 : Int) - 1).toNat - 1) (R b) = ((0 + val b : Nat) : Int)
    rw [Nat.zero_add, ← ih]
    rfl
/-- every row has its marks -/
theorem R_onto : ∀ (n : Nat) (f : List Int), f ≠ [] → (∀ x ∈ f, 1 ≤ x) → f.sum ≤ n → ∃ b, R b = f
  | 0, f, h0, h1, h2 => by
    cases f with
    | nil => exact absurd rfl h0
    | cons x r =>
      have hx := h1 x List.mem_cons_self
      have : ∀ l : List Int, (∀ n ∈ l, 1 ≤ n) → 0 ≤ l.sum := by
        intro l
        induction l with
        | nil => intro _; decide
        | cons x xs ih =>
          intro hx
          have := hx x List.mem_cons_self
          have := ih fun y hy => hx y (List.mem_cons_of_mem _ hy)
          rw [List.sum_cons]; omega
      have := this r fun n hn => h1 n (List.mem_cons_of_mem _ hn)
      rw [List.sum_cons] at h2
      omega
  | n + 1, f, h0, h1, h2 => by
    cases f with
    | nil => exact absurd rfl h0
    | cons x r =>
      have hx := h1 x List.mem_cons_self
      have hr : ∀ y ∈ r, 1 ≤ y := fun y hy => h1 y (List.mem_cons_of_mem _ hy)
      rw [List.sum_cons] at h2
      by_cases e : x = 1
      · subst e
        cases r with
        | nil => exact ⟨[], rfl⟩
        | cons y ys =>
          obtain ⟨b, hb⟩ := R_onto n (y :: ys) (by simp) hr (by omega)
          exact ⟨false :: b, by show 1 :: R b = _; rw [hb]⟩
      · obtain ⟨b, hb⟩ := R_onto n ((x - 1) :: r) (by simp) (fun y hy => by
          rcases List.mem_cons.mp hy with z | z
          · omega
          · exact hr y z) (by rw [List.sum_cons]; omega)
        refine ⟨true :: b, ?_⟩
        show incR (R b) = _
        rw [hb]
        show (x - 1 + 1) :: r = _
        rw [show x - 1 + 1 = x by omega]
theorem bits_add : ∀ (j s x : Nat), bits j (s + 2 ^ j * x) = bits j s
  | 0, _, _ => rfl
  | j + 1, s, x => by
    show decide (((s + 2 ^ (j + 1) * x) / 2 ^ j) % 2 = 1) :: bits j (s + 2 ^ (j + 1) * x) = decide ((s / 2 ^ j) % 2 = 1) :: bits j s
    have e : s + 2 ^ (j + 1) * x = s + 2 ^ j * (2 * x) := by rw [Nat.pow_succ, Nat.mul_assoc]
    rw [e, bits_add j s (2 * x), Nat.add_mul_div_left _ _ (Nat.pos_of_neZero _), Nat.add_mul_mod_self_left]
theorem bits_val : ∀ b, bits b.length (val b) = b
  | [] => rfl
  | b :: r => by
    have hl := val_lt r
    have ih := bits_val r
    show decide ((((if b then 2 ^ r.length else 0) + val r) / 2 ^ r.length) % 2 = 1) :: bits r.length ((if b then 2 ^ r.length else 0) + val r) = _
    cases b with
    | false =>
      simp only [Bool.false_eq_true, if_false, Nat.zero_add]
      rw [ih, Nat.div_eq_of_lt hl]
      rfl
    | true =>
      simp only [if_true]
      have e : 2 ^ r.length + val r = val r + 2 ^ r.length * 1 := by omega
      rw [e, bits_add, ih, Nat.add_mul_div_left _ _ (Nat.pos_of_neZero _), Nat.div_eq_of_lt hl]
      rfl
theorem val_bits : ∀ (j s : Nat), s < 2 ^ j → val (bits j s) = s
  | 0, s, h => by
    have : s = 0 := by simpa using h
    subst this; rfl
  | j + 1, s, h => by
    show (if decide ((s / 2 ^ j) % 2 = 1) then 2 ^ (bits j s).length else 0) + val (bits j s) = s
    rw [bits_len]
    have h2 : s / 2 ^ j < 2 := Nat.div_lt_of_lt_mul (by rw [Nat.pow_succ] at h; exact h)
    have hd := Nat.div_add_mod s (2 ^ j)
    have hm := Nat.mod_lt s (Nat.pos_of_neZero (2 ^ j))
    have e : bits j s = bits j (s % 2 ^ j) := by
      conv => lhs; rw [← hd, Nat.add_comm]
      exact bits_add _ _ _
    rw [e, val_bits j _ hm]
    clear e h
    generalize s / 2 ^ j = q at *
    have h3 : q = 0 ∨ q = 1 := by omega
    rcases h3 with z | z <;> rw [z] at hd ⊢
    · simp; omega
    · simp; omega
/-- the low end -/
theorem bits_low : ∀ (j s : Nat), bits (j + 1) s = bits j (s / 2) ++ [decide (s % 2 = 1)]
  | 0, s => by show [decide ((s / 2 ^ 0) % 2 = 1)] = _; simp [bits]
  | j + 1, s => by
    show decide ((s / 2 ^ (j + 1)) % 2 = 1) :: bits (j + 1) s = _
    rw [bits_low j s]
    show _ = (decide ((s / 2 / 2 ^ j) % 2 = 1) :: bits j (s / 2)) ++ _
    rw [Nat.div_div_eq_div_mul, Nat.pow_succ, Nat.mul_comm 2]
    rfl
/-! the order -/
theorem lex_irr : ∀ xs : List Int, HT.lexLt xs xs = false
  | [] => rfl
  | x :: xs => by rw [HT.lexLt_cons, if_pos rfl]; exact lex_irr xs
theorem lex_inc {f g : List Int} (hf : f ≠ []) (hg : g ≠ []) : HT.lexLt (incR f) (incR g) = HT.lexLt f g := by
  cases f with
  | nil => exact absurd rfl hf
  | cons x r =>
    cases g with
    | nil => exact absurd rfl hg
    | cons y s =>
      show HT.lexLt ((x + 1) :: r) ((y + 1) :: s) = _
      rw [HT.lexLt_cons, HT.lexLt_cons]
      by_cases e : x = y
      · rw [if_pos e, if_pos (by omega)]
      · rw [if_neg e, if_neg (by omega)]
        by_cases h : x < y
        · rw [decide_eq_true h, decide_eq_true (by omega)]
        · rw [decide_eq_false h, decide_eq_false (by omega)]
theorem lex_R : ∀ (b c : List Bool), b.length = c.length → HT.lexLt (R b) (R c) = decide (val b < val c)
  | [], [], _ => rfl
  | [], _ :: _, h => by cases h
  | _ :: _, [], h => by cases h
  | x :: b, y :: c, h => by
    have hl : b.length = c.length := by simpa using h
    have ih := lex_R b c hl
    have v1 := val_lt b
    have v2 := val_lt c
    cases x <;> cases y
    · show HT.lexLt (1 :: R b) (1 :: R c) = decide (0 + val b < 0 + val c)
      rw [HT.lexLt_cons, if_pos rfl, ih]
      simp
    · show HT.lexLt (1 :: R b) (incR (R c)) = decide (0 + val b < 2 ^ c.length + val c)
      have hp := R_pos c
      cases e : R c with
      | nil => exact absurd e (R_ne c)
      | cons z r =>
        rw [e] at hp
        have := hp z List.mem_cons_self
        show HT.lexLt (1 :: R b) ((z + 1) :: r) = _
        rw [HT.lexLt_cons, if_neg (by omega), decide_eq_true (by omega), decide_eq_true (by rw [hl] at v1; omega)]
    · show HT.lexLt (incR (R b)) (1 :: R c) = decide (2 ^ b.length + val b < 0 + val c)
      have hp := R_pos b
      cases e : R b with
      | nil => exact absurd e (R_ne b)
      | cons z r =>
        rw [e] at hp
        have := hp z List.mem_cons_self
        show HT.lexLt ((z + 1) :: r) (1 :: R c) = _
        rw [HT.lexLt_cons, if_neg (by omega), decide_eq_false (by omega), decide_eq_false (by rw [← hl] at v2; omega)]
    · show HT.lexLt (incR (R b)) (incR (R c)) = decide (2 ^ b.length + val b < 2 ^ c.length + val c)
      rw [lex_inc (R_ne b) (R_ne c), ih, hl]
      simp
/-! the text of the marks, cut at each 0 -/
def chs (b : List Bool) : List Nat := b.map fun x => if x then 49 else 48
def incN (a : Nat) : List Int → List Int
  | [] => []
  | h :: r => (h + a) :: r
theorem spl_R : ∀ (b : List Bool) (acc : List Nat), (TL.spl [48] 0 acc (chs b)).map (fun p => (p.length : Int) + 1) = incN acc.length (R b)
  | [], acc => by
    show ([acc] : List (List Nat)).map _ = incN acc.length [1]
    show [(acc.length : Int) + 1] = [1 + (acc.length : Int)]
    rw [Int.add_comm]
  | true :: b, acc => by
    have h : TL.pre [48] (49 :: chs b) = false := rfl
    show (TL.spl [48] 0 acc (49 :: chs b)).map _ = incN acc.length (incR (R b))
    rw [TL.spl_miss h, spl_R b (acc ++ [49])]
    cases e : R b with
    | nil => exact absurd e (R_ne b)
    | cons x r =>
      show (x + ((acc ++ [49]).length : Nat)) :: r = (x + 1 + (acc.length : Nat)) :: r
      rw [List.length_append, List.length_singleton]
      congr 1
      omega
  | false :: b, acc => by
    have h : TL.pre [48] (48 :: chs b) = true := rfl
    show (TL.spl [48] 0 acc (48 :: chs b)).map _ = incN acc.length (1 :: R b)
    rw [TL.spl_hit h]
    show ((acc.length : Int) + 1) :: (TL.spl [48] 0 [] (chs b)).map (fun p => (p.length : Int) + 1) = (1 + (acc.length : Int)) :: R b
    rw [spl_R b []]
    have : incN ([] : List Nat).length (R b) = R b := by
      cases R b with
      | nil => rfl
      | cons x r => show (x + ((0 : Nat) : Int)) :: r = _; rw [Int.natCast_zero, Int.add_zero]
    rw [this, Int.add_comm]
/-- the binary text of 2 ^ k + s -/
theorem digits_bits : ∀ (k s : Nat), s < 2 ^ k → (Nat.toDigits 2 (2 ^ k + s)).map Char.toNat = 49 :: chs (bits k s)
  | 0, s, h => by
    have : s = 0 := by simpa using h
    subst this
    decide
  | k + 1, s, h => by
    have hp : 0 < 2 ^ k := Nat.pos_of_neZero _
    have h2 : s / 2 < 2 ^ k := by rw [Nat.pow_succ] at h; omega
    have e : 2 ^ (k + 1) + s = 2 * (2 ^ k + s / 2) + s % 2 := by rw [Nat.pow_succ]; omega
    have ap := Nat.toDigits_append_toDigits (b := 2) (n := 2 ^ k + s / 2) (d := s % 2) (by decide) (by omega) (Nat.mod_lt _ (by decide))
    rw [e, ← ap, List.map_append, digits_bits k _ h2, bits_low]
    have hm : s % 2 = 0 ∨ s % 2 = 1 := by omega
    unfold chs
    rw [List.map_append]
    rcases hm with z | z <;> rw [z] <;> rfl
end Bn
set_option maxHeartbeats 4000000
set_option exponentiation.threshold 4000
namespace Gd
open PySem PySem.Spec PyProof.Rows L2 Vl Rm
/-! _law_jar, _law_grain, _law_row of the laws of counting -/
theorem p42 : opD .pow (.int 10) (.int 42) = some (.fz (.int 1000000000000000000000000000000000000000000)) := rfl
theorem p43 : opD .pow (.int 10) (.int 43) = some (.fz (.int 10000000000000000000000000000000000000000000)) := rfl
structure JarN (b c : Int) : Prop where
  b0 : 0 ≤ b
  b1 : b ≤ 100000000000000000000000000000000000000000000
  c0 : 0 ≤ c
  c1 : c ≤ 1000000000
theorem JarN.up {b c c' : Int} (h : JarN b c) (h1 : c ≤ c') (h2 : c' ≤ 1000000000) : JarN b c' := ⟨h.b0, h.b1, Int.le_trans h.c0 h1, h2⟩
def cJar : CS :=
 (.seq (.asg (.loc 2) (.ite (.cmp .lt (.loc 1) (.b1 .len (.loc 0))) (.ix (.loc 0) (.loc 1)) (.int 0)))
 (.seq (.ret (.lst (.cons (.b2 .max (.int 0) (.bin .sub (.loc 2) (.bin .pow (.int 10) (.int 18)))) (.cons (.bin .add (.bin .mul (.bin .mod (.loc 2) (.bin .add (.bin .pow (.int 10) (.int 41)) (.int 37))) (.int 128)) (.loc 1)) (.cons (.int 0) .nil)))))
 .nil))
def JarOk (fn : Fn) : Prop := ∀ (ns : List Int) (k : Nat), k ≤ 1000 → ∃ a b, fn.run [.fz (.list (ns.map .int)), .fz (.int k)] = .ok (.ol (bagD a b 0), [.fz (.list (ns.map .int)), .fz (.int k)]) ∧ JarN b 0
theorem jar_ok (Φ : Nat → Fn) : JarOk (mkFn [] 2 1 (dS Φ cJar)) := by
  intro ns k hk
  have m : ∀ x : Int, 0 ≤ x % 100000000000000000000000000000000000000037 ∧ x % 100000000000000000000000000000000000000037 < 100000000000000000000000000000000000000037 := fun x => ⟨Int.emod_nonneg x (by omega), Int.emod_lt_of_pos x (by omega)⟩
  have md := fun x => q_mod x 100000000000000000000000000000000000000037 (by decide)
  have ml := fun x => q_mul' x 128 (by decide)
  have key : ∀ x : Int, ((k : Int) < ns.length → ixD (.list (ns.map .int)) (.int k) = some (.int x)) → (¬ (k : Int) < ns.length → x = 0) →
      (mkFn [] 2 1 (dS Φ cJar)).run [.fz (.list (ns.map .int)), .fz (.int k)] = .ok (.ol (bagD (if x - 1000000000000000000 > 0 then x - 1000000000000000000 else 0) (x % 100000000000000000000000000000000000000037 * 128 + k) 0), [.fz (.list (ns.map .int)), .fz (.int k)]) := by
    intro x h1 h2
    have ln : b1D .len (.list (ns.map PyData.int)) = some (.fz (.int (ns.length : Nat))) := by
      show some (Sl.fz (.int ((ns.map PyData.int).length : Nat))) = _
      rw [List.length_map]
    by_cases h : (k : Int) < ns.length
    · have h1 := h1 h
      generalize ns.map PyData.int = L at *
      simp [mkFn, runB, cJar, dS, dE, dA, un1, un2, opnd, loc?, owned?, Res.bind, Res.of, Arg.view, Sl.dat, Sl.item, blD, bo, tyD, istyD, excD, q_lt, q_le, q_gt, q_ge, q_eq, q_ne, q_add, q_sub, q_shift, b_max, b_min, isiD, isiT, b_lent, b_lenl, b_tupl, b_tupt, b_lstl, b_lstt, b_suml, b_sumt, stE, itR, itemsOf, argsOf, callOf, slotsOf, putBack, fitL, line, bagD, p41, ln, h, h1, md, ml, outs, outS, List.range, List.range.loop]
    · have h2 := h2 h
      subst h2
      generalize ns.map PyData.int = L at *
      simp [mkFn, runB, cJar, dS, dE, dA, un1, un2, opnd, loc?, owned?, Res.bind, Res.of, Arg.view, Sl.dat, Sl.item, blD, bo, tyD, istyD, excD, q_lt, q_le, q_gt, q_ge, q_eq, q_ne, q_add, q_sub, q_shift, b_max, b_min, isiD, isiT, b_lent, b_lenl, b_tupl, b_tupt, b_lstl, b_lstt, b_suml, b_sumt, stE, itR, itemsOf, argsOf, callOf, slotsOf, putBack, fitL, line, bagD, p41, ln, h, md, ml, outs, outS, List.range, List.range.loop]
  by_cases h : k < ns.length
  · refine ⟨_, _, key ns[k] (fun _ => ?_) (fun z => absurd (by omega) z), ⟨?_, ?_, by decide, by decide⟩⟩
    · show atI (ns.map PyData.int) ((k : Nat) : Int) = _
      exact atI_nat (by rw [List.getElem?_map, List.getElem?_eq_getElem h]; rfl)
    · have := m ns[k]; omega
    · have := m ns[k]; omega
  · refine ⟨_, _, key 0 (fun z => absurd z (by omega)) (fun _ => rfl), ⟨?_, ?_, by decide, by decide⟩⟩
    · have := m 0; omega
    · have := m 0; omega
def cGrain : CS :=
 (.seq (.ite (.cmp .gt (.ix (.loc 0) (.int 0)) (.int 0))
 (.seq (.asg (.loc 3) (.bin .mod (.ix (.loc 0) (.int 0)) (.loc 1)))
 (.seq (.setix 0 (.int 0) (.bin .fdiv (.ix (.loc 0) (.int 0)) (.loc 1)))
 (.seq (.retM 3)
 .nil)))
 .nil)
 (.seq (.setix 0 (.int 2) (.bin .add (.ix (.loc 0) (.int 2)) (.int 1)))
 (.seq (.asg (.loc 2) (.bin .mod (.bin .pow (.bin .add (.ix (.loc 0) (.int 1)) (.bin .mul (.int 86028157) (.ix (.loc 0) (.int 2)))) (.int 3)) (.bin .add (.bin .pow (.int 10) (.int 43)) (.int 57))))
 (.seq (.asg (.loc 2) (.bin .mod (.bin .pow (.bin .add (.loc 2) (.bin .mul (.int 141650939) (.ix (.loc 0) (.int 2)))) (.int 3)) (.bin .add (.bin .pow (.int 10) (.int 42)) (.int 63))))
 (.seq (.ret (.bin .mod (.bin .fdiv (.loc 2) (.int 393241)) (.loc 1)))
 .nil)))))
def GrainOk (fn : Fn) : Prop := ∀ a b c m : Int, JarN b c → c ≤ 999999990 → 1 ≤ m → m ≤ 1000000000000000000000000000000000000000000000000000000000000 → ∃ t a' c', fn.run [.ol (bagD a b c), .fz (.int m)] = .ok (.fz (.int t), [.ol (bagD a' b c'), .fz (.int m)]) ∧ 0 ≤ t ∧ t < m ∧ c ≤ c' ∧ c' ≤ c + 1
theorem grain_ok (Φ : Nat → Fn) : GrainOk (mkFn [0] 2 2 (dS Φ cGrain)) := by
  intro a b c m hp hcc h1 h2
  have h : 0 < m := by omega
  have m1 : ∀ x : Int, 0 ≤ x % m ∧ x % m < m := fun x => ⟨Int.emod_nonneg x (by omega), Int.emod_lt_of_pos x h⟩
  have i0 : ∀ x y z : Int, ixD (.list [.int x, .int y, .int z]) (.int 0) = some (.int x) := fun _ _ _ => rfl
  have i1 : ∀ x y z : Int, ixD (.list [.int x, .int y, .int z]) (.int 1) = some (.int y) := fun _ _ _ => rfl
  have i2 : ∀ x y z : Int, ixD (.list [.int x, .int y, .int z]) (.int 2) = some (.int z) := fun _ _ _ => rfl
  have n0 : ixN 3 0 = some 0 := rfl
  have n2 : ixN 3 2 = some 2 := rfl
  by_cases g : 0 < a
  · refine ⟨a % m, a / m, c, ?_, (m1 a).1, (m1 a).2, by omega, by omega⟩
    simp [mkFn, runB, cGrain, dS, dE, dA, un1, un2, opnd, loc?, owned?, Res.bind, Res.of, Arg.view, Sl.dat, Sl.item, blD, bo, tyD, istyD, excD, q_lt, q_le, q_gt, q_ge, q_eq, q_ne, q_add, q_sub, q_shift, b_max, b_min, isiD, isiT, b_lent, b_lenl, b_tupl, b_tupt, b_lstl, b_lstt, b_suml, b_sumt, stE, itR, itemsOf, argsOf, callOf, slotsOf, putBack, fitL, line, bagD, g, h, q_mod _ _ h, q_divW _ _ h h2, outs, outS, i0, i1, i2, n0, n2, olD, intS, List.range, List.range.loop]
  · have hb0 := hp.b0
    have hb1 := hp.b1
    have hc0 := hp.c0
    have hc1 := hp.c1
    have ml1 := q_mul 86028157 (c + 1) (by decide)
    have ml2 := q_mul 141650939 (c + 1) (by decide)
    have md1 := fun x => q_mod x 10000000000000000000000000000000000000000057 (by decide)
    have md2 := fun x => q_mod x 1000000000000000000000000000000000000000063 (by decide)
    have dv := fun x => q_divW x 393241 (by decide) (by decide)
    have cu1 := q_cube (b + 86028157 * (c + 1)) (by omega) (by omega)
    have hx0 := Int.emod_nonneg ((b + 86028157 * (c + 1)) ^ 3) (show (10000000000000000000000000000000000000000057 : Int) ≠ 0 by decide)
    have hx1 := Int.emod_lt_of_pos ((b + 86028157 * (c + 1)) ^ 3) (show (0 : Int) < 10000000000000000000000000000000000000000057 by decide)
    have md1' := md1 ((b + 86028157 * (c + 1)) ^ 3)
    generalize (b + 86028157 * (c + 1)) ^ 3 = y1 at *
    generalize y1 % 10000000000000000000000000000000000000000057 = x1 at *
    have cu2 := q_cube (x1 + 141650939 * (c + 1)) (by omega) (by omega)
    generalize (x1 + 141650939 * (c + 1)) ^ 3 = y2 at *
    refine ⟨y2 % 1000000000000000000000000000000000000000063 / 393241 % m, a, c + 1, ?_, (m1 _).1, (m1 _).2, by omega, by omega⟩
    simp [mkFn, runB, cGrain, dS, dE, dA, un1, un2, opnd, loc?, owned?, Res.bind, Res.of, Arg.view, Sl.dat, Sl.item, blD, bo, tyD, istyD, excD, q_lt, q_le, q_gt, q_ge, q_eq, q_ne, q_add, q_sub, q_shift, b_max, b_min, isiD, isiT, b_lent, b_lenl, b_tupl, b_tupt, b_lstl, b_lstt, b_suml, b_sumt, stE, itR, itemsOf, argsOf, callOf, slotsOf, putBack, fitL, line, bagD, g, h, p42, p43, ml1, ml2, md1', md2, dv, cu1, cu2, q_mod _ _ h, outs, outS, i0, i1, i2, n0, n2, olD, intS, List.range, List.range.loop]
def jT : CE := (.cmp .gt (.loc 2) (.int 0))
def jS1 : CS := (.asg (.loc 5) (.ix (.lst (.cons (.int 2) (.cons (.int 3) (.cons (.loc 2) (.cons (.bin .add (.int 1) (.bin .fdiv (.loc 2) (.int 2))) (.cons (.int 6) .nil)))))) (.loc 3)))
def jS2 (p : Nat) : CS := (.asg (.loc 6) (.b2 .min (.loc 2) (.bin .add (.int 1) (.call p (.consO (.loc 0) (.cons (.loc 5) .nil))))))
def jS3 (p : Nat) : CS := (.asg (.loc 7) (.b2 .min (.bin .fdiv (.loc 2) (.loc 6)) (.bin .add (.int 1) (.call p (.consO (.loc 0) (.cons (.ix (.lst (.cons (.int 1) (.cons (.int 4) (.cons (.int 1) (.cons (.int 3) (.cons (.loc 2) .nil)))))) (.loc 3)) .nil))))))
def jS4 : CS := (.asg (.loc 4) (.bin .add (.loc 4) (.bin .mul (.lst (.cons (.loc 6) .nil)) (.loc 7))))
def jS5 : CS := (.asg (.loc 2) (.bin .sub (.loc 2) (.bin .mul (.loc 6) (.loc 7))))
def jB (p : Nat) : CS := .seq jS1 (.seq (jS2 p) (.seq (jS3 p) (.seq jS4 (.seq jS5 .nil))))
def jR1 (p : Nat) : CS := (.par [4, 3] (.cons (.call p (.consO (.loc 0) (.cons (.int 5) .nil))) (.cons (.lst .nil) .nil)))
def jR2 (p : Nat) : CS := (.asg (.loc 2) (.ix (.lst (.cons (.bin .add (.int 1) (.call p (.consO (.loc 0) (.cons (.loc 1) .nil)))) (.cons (.loc 1) (.cons (.bin .add (.int 1) (.call p (.consO (.loc 0) (.cons (.b2 .min (.loc 1) (.int 12)) .nil)))) .nil)))) (.call p (.consO (.loc 0) (.cons (.int 3) .nil)))))
def cRow3 (p : Nat) : CS := .seq (jR1 p) (.seq (jR2 p) (.seq (.whl 1000000 jT (jB p)) (.seq (.ret (.b1 .tuple (.loc 4))) .nil)))
def RowOk3 (fn : Fn) : Prop := ∀ a b c m : Int, JarN b c → c ≤ 900000000 → 1 ≤ m → m ≤ 200 → ∃ (ns : List Int) (a' c' : Int), fn.run [.ol (bagD a b c), .fz (.int m)] = .ok (.fz (rowD ns), [.ol (bagD a' b c'), .fz (.int m)]) ∧ ns ≠ [] ∧ (∀ n ∈ ns, 1 ≤ n) ∧ ns.sum ≤ m ∧ c ≤ c' ∧ c' ≤ c + 2000
theorem j_wide (left way : Int) (h0 : 1 ≤ left) (h1 : left ≤ 200) (hw : 0 ≤ way ∧ way < 5) : ∃ y, 1 ≤ y ∧ y ≤ 200 ∧ ixD (.list [.int 2, .int 3, .int left, .int (1 + left / 2), .int 6]) (.int way) = some (.int y) := by
  have : way = 0 ∨ way = 1 ∨ way = 2 ∨ way = 3 ∨ way = 4 := by omega
  rcases this with rfl | rfl | rfl | rfl | rfl
  · exact ⟨2, by decide, by decide, rfl⟩
  · exact ⟨3, by decide, by decide, rfl⟩
  · exact ⟨_, h0, h1, rfl⟩
  · exact ⟨1 + left / 2, by omega, by omega, rfl⟩
  · exact ⟨6, by decide, by decide, rfl⟩
theorem j_often (left way : Int) (h0 : 1 ≤ left) (h1 : left ≤ 200) (hw : 0 ≤ way ∧ way < 5) : ∃ y, 1 ≤ y ∧ y ≤ 200 ∧ ixD (.list [.int 1, .int 4, .int 1, .int 3, .int left]) (.int way) = some (.int y) := by
  have : way = 0 ∨ way = 1 ∨ way = 2 ∨ way = 3 ∨ way = 4 := by omega
  rcases this with rfl | rfl | rfl | rfl | rfl
  · exact ⟨1, by decide, by decide, rfl⟩
  · exact ⟨4, by decide, by decide, rfl⟩
  · exact ⟨1, by decide, by decide, rfl⟩
  · exact ⟨3, by decide, by decide, rfl⟩
  · exact ⟨_, h0, h1, rfl⟩
section
variable {Φ : Nat → Fn} {p : Nat} (hp : GrainOk (Φ p))
include hp
theorem jB_ok (a b c left way : Int) (ns : List Int) (pn : JarN b c) (hc : c ≤ 980000000) (hw : 0 ≤ way ∧ way < 5) (h0 : 1 ≤ left) (h1 : left ≤ 200) (hl : ns.length ≤ 1000) (m s4 e5 e6 e7 : Sl) (hs : HasL s4 (ns.map .int)) :
    ∃ (one a' c' : Int) (many : Nat) (f5 f6 f7 : Sl), dS Φ (jB p) [.ol (bagD a b c), m, .fz (.int left), .fz (.int way), s4, e5, e6, e7] =
      .ok (.nx [.ol (bagD a' b c'), m, .fz (.int (left - one * many)), .fz (.int way), .ol ((ns ++ List.replicate many one).map .int), f5, f6, f7]) ∧ 1 ≤ one ∧ 1 ≤ many ∧ one * many ≤ left ∧ c ≤ c' ∧ c' ≤ c + 2 := by
  obtain ⟨y, y0, y1, hy⟩ := j_wide left way h0 h1 hw
  obtain ⟨t1, a1, c1, r1, p1, p2, q1, q2⟩ := hp a b c y pn (by omega) y0 (by omega)
  have dv2 := q_div left 2 (by decide) (by decide)
  have g1 : dS Φ jS1 [.ol (bagD a b c), m, .fz (.int left), .fz (.int way), s4, e5, e6, e7] = .ok (.nx [.ol (bagD a b c), m, .fz (.int left), .fz (.int way), s4, .fz (.int y), e6, e7]) := by
    simp [jS1, dS, dE, dA, un1, un2, opnd, loc?, owned?, Res.bind, Res.of, Arg.view, Sl.dat, Sl.item, blD, bo, tyD, istyD, excD, q_lt, q_le, q_gt, q_ge, q_eq, q_ne, q_add, q_sub, q_shift, b_max, b_min, isiD, isiT, b_lent, b_lenl, b_tupl, b_tupt, b_lstl, b_lstt, b_suml, b_sumt, stE, itR, itemsOf, argsOf, callOf, slotsOf, putBack, fitL, line, dv2, hy]
  obtain ⟨x, x0, x1, xe⟩ : ∃ x : Int, 1 ≤ x ∧ x ≤ left ∧ x = (if 1 + t1 < left then 1 + t1 else left) := by
    refine ⟨_, ?_, ?_, rfl⟩ <;> split <;> omega
  have g2 : dS Φ (jS2 p) [.ol (bagD a b c), m, .fz (.int left), .fz (.int way), s4, .fz (.int y), e6, e7] = .ok (.nx [.ol (bagD a1 b c1), m, .fz (.int left), .fz (.int way), s4, .fz (.int y), .fz (.int x), e7]) := by
    rw [xe]
    unfold bagD at *
    simp [jS2, dS, dE, dA, un1, un2, opnd, loc?, owned?, Res.bind, Res.of, Arg.view, Sl.dat, Sl.item, blD, bo, tyD, istyD, excD, q_lt, q_le, q_gt, q_ge, q_eq, q_ne, q_add, q_sub, q_shift, b_max, b_min, isiD, isiT, b_lent, b_lenl, b_tupl, b_tupt, b_lstl, b_lstt, b_suml, b_sumt, stE, itR, itemsOf, argsOf, callOf, slotsOf, putBack, fitL, line, r1]
  obtain ⟨z, z0, z1, hz⟩ := j_often left way h0 h1 hw
  obtain ⟨t2, a2, c2, r2, p3, p4, q3, q4⟩ := hp a1 b c1 z (pn.up q1 (by omega)) (by omega) z0 (by omega)
  have d0 : 1 ≤ left / x := (Int.le_ediv_iff_mul_le (show 0 < x by omega) (a := 1) (b := left)).mpr (by omega)
  have d1 : left / x ≤ left := Int.ediv_le_self _ (by omega)
  have d2 := Int.mul_ediv_self_le (x := left) (k := x) (by omega)
  have dv := q_div left x (by omega) (by omega)
  obtain ⟨w, w0, w1, we⟩ : ∃ w : Int, 1 ≤ w ∧ w ≤ left / x ∧ w = (if 1 + t2 < left / x then 1 + t2 else left / x) := by
    refine ⟨_, ?_, ?_, rfl⟩ <;> split <;> omega
  have hml : x * w ≤ left := Int.le_trans (Int.mul_le_mul_of_nonneg_left w1 (by omega)) d2
  have g3 : dS Φ (jS3 p) [.ol (bagD a1 b c1), m, .fz (.int left), .fz (.int way), s4, .fz (.int y), .fz (.int x), e7] = .ok (.nx [.ol (bagD a2 b c2), m, .fz (.int left), .fz (.int way), s4, .fz (.int y), .fz (.int x), .fz (.int w)]) := by
    rw [we]
    unfold bagD at *
    simp [jS3, dS, dE, dA, un1, un2, opnd, loc?, owned?, Res.bind, Res.of, Arg.view, Sl.dat, Sl.item, blD, bo, tyD, istyD, excD, q_lt, q_le, q_gt, q_ge, q_eq, q_ne, q_add, q_sub, q_shift, b_max, b_min, isiD, isiT, b_lent, b_lenl, b_tupl, b_tupt, b_lstl, b_lstt, b_suml, b_sumt, stE, itR, itemsOf, argsOf, callOf, slotsOf, putBack, fitL, line, dv, hz, r2]
  have hrep := q_rep [PyData.int x] w (by omega) (by simp; omega) (by omega)
  rw [rep_one] at hrep
  have hcat := q_cat (ns.map PyData.int) (List.replicate w.toNat (PyData.int x)) (by simp; omega)
  have g4 : dS Φ jS4 [.ol (bagD a2 b c2), m, .fz (.int left), .fz (.int way), s4, .fz (.int y), .fz (.int x), .fz (.int w)] = .ok (.nx [.ol (bagD a2 b c2), m, .fz (.int left), .fz (.int way), .ol ((ns ++ List.replicate w.toNat x).map .int), .fz (.int y), .fz (.int x), .fz (.int w)]) := by
    rw [List.map_append, List.map_replicate]
    generalize ns.map PyData.int = L at *
    generalize List.replicate w.toNat (PyData.int x) = Z at *
    rcases hs with rfl | rfl <;> simp [jS4, dS, dE, dA, un1, un2, opnd, loc?, owned?, Res.bind, Res.of, Arg.view, Sl.dat, Sl.item, blD, bo, tyD, istyD, excD, q_lt, q_le, q_gt, q_ge, q_eq, q_ne, q_add, q_sub, q_shift, b_max, b_min, isiD, isiT, b_lent, b_lenl, b_tupl, b_tupt, b_lstl, b_lstt, b_suml, b_sumt, stE, itR, itemsOf, argsOf, callOf, slotsOf, putBack, fitL, line, hrep, hcat]
  have wd : wide x = true := decide_eq_true (by omega)
  have ml := q_mul x w wd
  have hw' : ((w.toNat : Nat) : Int) = w := by omega
  have g5 : dS Φ jS5 [.ol (bagD a2 b c2), m, .fz (.int left), .fz (.int way), .ol ((ns ++ List.replicate w.toNat x).map .int), .fz (.int y), .fz (.int x), .fz (.int w)] = .ok (.nx [.ol (bagD a2 b c2), m, .fz (.int (left - x * w)), .fz (.int way), .ol ((ns ++ List.replicate w.toNat x).map .int), .fz (.int y), .fz (.int x), .fz (.int w)]) := by
    generalize (ns ++ List.replicate w.toNat x).map PyData.int = Z
    simp [jS5, dS, dE, dA, un1, un2, opnd, loc?, owned?, Res.bind, Res.of, Arg.view, Sl.dat, Sl.item, blD, bo, tyD, istyD, excD, q_lt, q_le, q_gt, q_ge, q_eq, q_ne, q_add, q_sub, q_shift, b_max, b_min, isiD, isiT, b_lent, b_lenl, b_tupl, b_tupt, b_lstl, b_lstt, b_suml, b_sumt, stE, itR, itemsOf, argsOf, callOf, slotsOf, putBack, fitL, line, ml]
  refine ⟨x, a2, c2, w.toNat, .fz (.int y), .fz (.int x), .fz (.int w), ?_, x0, by omega, by rw [hw']; exact hml, by omega, by omega⟩
  rw [hw']
  exact seq_ok g1 (seq_ok g2 (seq_ok g3 (seq_ok g4 (seq_ok g5 rfl))))
theorem jLoop (b way S : Int) (m : Sl) (hS : S ≤ 200) (hw : 0 ≤ way ∧ way < 5) : ∀ (n : Nat) (a c left : Int) (ns : List Int) (s4 e5 e6 e7 : Sl), HasL s4 (ns.map .int) → JarN b c → c + 2 * left ≤ 970000000 → 0 ≤ left → left < n → (∀ x ∈ ns, 1 ≤ x) → ns.sum + left = S →
    ∃ (a' c' : Int) (ns' : List Int) (f4 f5 f6 f7 : Sl), wLoop (dE Φ jT) (dS Φ (jB p)) n [.ol (bagD a b c), m, .fz (.int left), .fz (.int way), s4, e5, e6, e7] =
      .ok (.nx [.ol (bagD a' b c'), m, .fz (.int 0), .fz (.int way), f4, f5, f6, f7]) ∧ HasL f4 (ns'.map .int) ∧ (∀ x ∈ ns', 1 ≤ x) ∧ ns'.sum = S ∧ c ≤ c' ∧ c' ≤ c + 2 * left
  | 0, a, c, left, ns, s4, e5, e6, e7, hs, pn, hc, h0, h1, h2, h3 => by omega
  | n + 1, a, c, left, ns, s4, e5, e6, e7, hs, pn, hc, h0, h1, h2, h3 => by
    by_cases ht : 0 < left
    · have hsum := len_sum ns h2
      obtain ⟨one, a1, c1, many, f5, f6, f7, hb, p1, p2, p3, q1, q2⟩ := jB_ok hp a b c left way ns pn (by omega) hw (by omega) (by omega) (by omega) m s4 e5 e6 e7 hs
      have pos : 1 ≤ one * many := by
        have := Int.mul_le_mul_of_nonneg_left (show (1 : Int) ≤ many by omega) (show 0 ≤ one by omega)
        omega
      obtain ⟨a2, c2, ns', g4, g5, g6, g7, h, k0, k1, k2, k3, k4⟩ := jLoop b way S m hS hw n a1 c1 (left - one * many) (ns ++ List.replicate many one) _ f5 f6 f7 (.inr rfl) (pn.up q1 (by omega)) (by omega) (by omega) (by omega) (fun x hx => by
        rcases List.mem_append.mp hx with z | z
        · exact h2 x z
        · rw [(List.mem_replicate.mp z).2]; exact p1) (by rw [List.sum_append, Rm.sum_rep]; omega)
      refine ⟨a2, c2, ns', g4, g5, g6, g7, ?_, k0, k1, k2, by omega, by omega⟩
      rw [wh_step (e1 := [.ol (bagD a b c), m, .fz (.int left), .fz (.int way), s4, e5, e6, e7]) (by simp [jT, dS, dE, dA, un1, un2, opnd, loc?, owned?, Res.bind, Res.of, Arg.view, Sl.dat, Sl.item, blD, bo, tyD, istyD, excD, q_lt, q_le, q_gt, q_ge, q_eq, q_ne, q_add, q_sub, q_shift, b_max, b_min, isiD, isiT, b_lent, b_lenl, b_tupl, b_tupt, b_lstl, b_lstt, b_suml, b_sumt, stE, itR, itemsOf, argsOf, callOf, slotsOf, putBack, fitL, line, ht]) hb]
      exact h
    · have e : left = 0 := by omega
      subst e
      exact ⟨a, c, ns, s4, e5, e6, e7, wh_end (by simp [jT, dS, dE, dA, un1, un2, opnd, loc?, owned?, Res.bind, Res.of, Arg.view, Sl.dat, Sl.item, blD, bo, tyD, istyD, excD, q_lt, q_le, q_gt, q_ge, q_eq, q_ne, q_add, q_sub, q_shift, b_max, b_min, isiD, isiT, b_lent, b_lenl, b_tupl, b_tupt, b_lstl, b_lstt, b_suml, b_sumt, stE, itR, itemsOf, argsOf, callOf, slotsOf, putBack, fitL, line]), hs, h2, by omega, by omega, by omega⟩
theorem row_ok3 : RowOk3 (mkFn [0] 2 6 (dS Φ (cRow3 p))) := by
  intro a b c m pn hc h0 h1
  obtain ⟨way, a1, c1, r1, p1, p2, q1, q2⟩ := hp a b c 5 pn (by omega) (by decide) (by decide)
  obtain ⟨t1, a2, c2, r2, p3, p4, q3, q4⟩ := hp a1 b c1 m (pn.up q1 (by omega)) (by omega) h0 (by omega)
  obtain ⟨mm, mm0, mm1, me⟩ : ∃ y : Int, 1 ≤ y ∧ y ≤ m ∧ y = (if 12 < m then 12 else m) := by
    refine ⟨_, ?_, ?_, rfl⟩ <;> split <;> omega
  obtain ⟨t2, a3, c3, r3, p5, p6, q5, q6⟩ := hp a2 b c2 mm (pn.up (by omega) (by omega)) (by omega) mm0 (by omega)
  obtain ⟨t3, a4, c4, r4, p7, p8, q7, q8⟩ := hp a3 b c3 3 (pn.up (by omega) (by omega)) (by omega) (by decide) (by decide)
  have hx : ∃ y, 1 ≤ y ∧ y ≤ m ∧ ixD (.list [.int (1 + t1), .int m, .int (1 + t2)]) (.int t3) = some (.int y) := by
    have : t3 = 0 ∨ t3 = 1 ∨ t3 = 2 := by omega
    rcases this with rfl | rfl | rfl
    · exact ⟨_, (show 1 ≤ 1 + t1 by omega), by omega, rfl⟩
    · exact ⟨_, h0, Int.le_refl _, rfl⟩
    · exact ⟨_, (show 1 ≤ 1 + t2 by omega), by omega, rfl⟩
  obtain ⟨y, hy0, hy1, hx⟩ := hx
  obtain ⟨a5, c5, ns, f4, f5, f6, f7, lp, hf, g1, g2, q9, q10⟩ := jLoop hp b way y (.fz (.int m)) (by omega) ⟨p1, p2⟩ 1000000 a4 c4 y [] (.fz (.list [])) .un .un .un (.inl rfl) (pn.up (by omega) (by omega)) (by omega) (by omega) (by omega) (fun x hx => by cases hx) (by simp)
  generalize hfu : 1000000 = fu at lp
  refine ⟨ns, a5, c5, ?_, ?_, g1, by omega, by omega, by omega⟩
  · unfold bagD rowD at *
    generalize ns.map PyData.int = Z at *
    have k1 : dS Φ (jR1 p) [.ol [.int a, .int b, .int c], .fz (.int m), .un, .un, .un, .un, .un, .un] = .ok (.nx [.ol [.int a1, .int b, .int c1], .fz (.int m), .un, .fz (.int way), .fz (.list []), .un, .un, .un]) := by
      simp [jR1, dS, dE, dA, un1, un2, opnd, loc?, owned?, Res.bind, Res.of, Arg.view, Sl.dat, Sl.item, blD, bo, tyD, istyD, excD, q_lt, q_le, q_gt, q_ge, q_eq, q_ne, q_add, q_sub, q_shift, b_max, b_min, isiD, isiT, b_lent, b_lenl, b_tupl, b_tupt, b_lstl, b_lstt, b_suml, b_sumt, stE, itR, itemsOf, argsOf, callOf, slotsOf, putBack, fitL, line, r1, setAll]
    have k2 : dS Φ (jR2 p) [.ol [.int a1, .int b, .int c1], .fz (.int m), .un, .fz (.int way), .fz (.list []), .un, .un, .un] = .ok (.nx [.ol [.int a4, .int b, .int c4], .fz (.int m), .fz (.int y), .fz (.int way), .fz (.list []), .un, .un, .un]) := by
      have bm : b2D .min (.int m) (.int 12) = some (.fz (.int mm)) := by rw [me]; rfl
      have S' : ∀ x y : Int, b2D .min (.int x) (.int y) = some (.fz (.int (if y < x then y else x))) := fun _ _ => rfl
      clear me
      simp [jR2, dS, dE, dA, un1, un2, opnd, loc?, owned?, Res.bind, Res.of, Arg.view, Sl.dat, Sl.item, q_add, stE, itemsOf, argsOf, callOf, slotsOf, putBack, fitL, line, bm, r2, r3, r4, hx]
    have k3 : dS Φ (cRow3 p) [.ol [.int a, .int b, .int c], .fz (.int m), .un, .un, .un, .un, .un, .un] = .ok (.rt (.fz (.tuple Z)) [.ol [.int a5, .int b, .int c5], .fz (.int m), .fz (.int 0), .fz (.int way), .fz (.list Z), f5, f6, f7]) ∨ dS Φ (cRow3 p) [.ol [.int a, .int b, .int c], .fz (.int m), .un, .un, .un, .un, .un, .un] = .ok (.rt (.fz (.tuple Z)) [.ol [.int a5, .int b, .int c5], .fz (.int m), .fz (.int 0), .fz (.int way), .ol Z, f5, f6, f7]) := by
      rcases hf with rfl | rfl
      · refine .inl (seq_ok k1 (seq_ok k2 ?_))
        simp [dS, dE, dA, un1, un2, opnd, loc?, owned?, Res.bind, Res.of, Arg.view, Sl.dat, Sl.item, blD, bo, tyD, istyD, excD, q_lt, q_le, q_gt, q_ge, q_eq, q_ne, q_add, q_sub, q_shift, b_max, b_min, isiD, isiT, b_lent, b_lenl, b_tupl, b_tupt, b_lstl, b_lstt, b_suml, b_sumt, stE, itR, itemsOf, argsOf, callOf, slotsOf, putBack, fitL, line, hfu, lp]
      · refine .inr (seq_ok k1 (seq_ok k2 ?_))
        simp [dS, dE, dA, un1, un2, opnd, loc?, owned?, Res.bind, Res.of, Arg.view, Sl.dat, Sl.item, blD, bo, tyD, istyD, excD, q_lt, q_le, q_gt, q_ge, q_eq, q_ne, q_add, q_sub, q_shift, b_max, b_min, isiD, isiT, b_lent, b_lenl, b_tupl, b_tupt, b_lstl, b_lstt, b_suml, b_sumt, stE, itR, itemsOf, argsOf, callOf, slotsOf, putBack, fitL, line, hfu, lp]
    rcases k3 with k3 | k3 <;> simp [mkFn, runB, k3, Res.bind, outs, outS, List.range, List.range.loop]
  · rintro rfl
    simp at g2
    omega
end
end Gd
set_option maxHeartbeats 1000000
set_option exponentiation.threshold 4000
namespace Gd
open PySem PySem.Spec PyProof.Rows L2 Vl Rm Bn
/-! rows by their numbers -/
theorem q_shl (i j : Int) (h0 : 0 ≤ j) (h1 : j ≤ 1000) (h2 : i.natAbs < 2 ^ 1000) : opD .shl (.int i) (.int j) = some (.fz (.int (i * 2 ^ j.toNat))) := by
  show (if cShlW i j then some (Sl.fz (.int (i * 2 ^ j.toNat))) else none) = _
  have : cShlW i j = true := by
    refine decide_eq_true ⟨h0, by omega, ?_⟩
    by_cases hz : i.natAbs = 0
    · rw [hz]; decide
    · exact Nat.lt_trans ((Nat.log2_lt hz).mpr h2) (by decide)
  rw [this]; rfl
theorem pow_le200 {n : Nat} (h : n ≤ 200) : (2 : Int) ^ n ≤ 1606938044258990275541962092341162602522202993782792835301376 := by
  have : (2 : Nat) ^ n ≤ 2 ^ 200 := Nat.pow_le_pow_right (by decide) h
  have e : ((2 ^ n : Nat) : Int) = (2 : Int) ^ n := Int.natCast_pow 2 n
  have e2 : (2 : Nat) ^ 200 = 1606938044258990275541962092341162602522202993782792835301376 := by decide +kernel
  omega
theorem pow_pos2 (n : Nat) : (1 : Int) ≤ 2 ^ n := by
  have : (1 : Nat) ≤ 2 ^ n := Nat.one_le_two_pow
  have e : ((2 ^ n : Nat) : Int) = (2 : Int) ^ n := Int.natCast_pow 2 n
  omega
theorem seq_rt2 {Φ : Nat → Fn} {a r : CS} {env e : Env'} {s : Sl} (h : dS Φ a env = .ok (.rt s e)) : dS Φ (.seq a r) env = .ok (.rt s e) := by
  show ((dS Φ a env).bind _) = _
  rw [h]
  rfl
theorem fl_step {tg : Tg} {b : Env' → Res Fl} {d : PyData} {ds : List PyData} {env e1 e2 : Env'} (hb : bindT tg d env = some e1) (h : b e1 = .ok (.nx e2)) : fLoop tg b (d :: ds) env = fLoop tg b ds e2 := by
  show ((Res.of (bindT tg d env)).bind fun e => (b e).bind _) = _
  rw [hb]
  show ((b e1).bind _) = _
  rw [h]
  rfl
/-! is_within, check_total, check_number, where they are kept -/
def WithinOk (fn : Fn) : Prop := ∀ i lo hi : Int, fn.run [.fz (.int i), .fz (.int lo), .fz (.int hi)] = .ok (.fz (.bool (decide (lo ≤ i) && decide (i ≤ hi))), [.fz (.int i), .fz (.int lo), .fz (.int hi)])
def cWithin (j : Nat) : CS :=
 (.seq (.ret (.and (.call j (.cons (.loc 0) .nil)) (.chn .le .le (.loc 1) (.loc 0) (.loc 2))))
 .nil)
theorem within_ok {Φ : Nat → Fn} {j : Nat} (h : IntOk (Φ j)) : WithinOk (mkFn [] 3 0 (dS Φ (cWithin j))) := by
  intro i lo hi
  have r : (Φ j).run [.fz (.int i)] = .ok (.fz (.bool true), [.fz (.int i)]) := h (.int i) rfl
  by_cases h0 : lo ≤ i
  · by_cases h1 : i ≤ hi <;> simp [mkFn, runB, cWithin, dS, dE, dA, un1, un2, opnd, loc?, owned?, Res.bind, Res.of, Arg.view, Sl.dat, Sl.item, blD, bo, tyD, istyD, excD, q_lt, q_le, q_gt, q_ge, q_eq, q_ne, q_add, q_sub, q_shift, b_max, b_min, isiD, isiT, b_lent, b_lenl, b_tupl, b_tupt, b_lstl, b_lstt, b_suml, b_sumt, stE, itR, itemsOf, argsOf, callOf, slotsOf, putBack, fitL, line, r, h0, h1, outs, outS, List.range, List.range.loop]
  · simp [mkFn, runB, cWithin, dS, dE, dA, un1, un2, opnd, loc?, owned?, Res.bind, Res.of, Arg.view, Sl.dat, Sl.item, blD, bo, tyD, istyD, excD, q_lt, q_le, q_gt, q_ge, q_eq, q_ne, q_add, q_sub, q_shift, b_max, b_min, isiD, isiT, b_lent, b_lenl, b_tupl, b_tupt, b_lstl, b_lstt, b_suml, b_sumt, stE, itR, itemsOf, argsOf, callOf, slotsOf, putBack, fitL, line, r, h0, outs, outS, List.range, List.range.loop]
def TotalOk (fn : Fn) : Prop := ∀ t : Int, 1 ≤ t → t ≤ 200 → fn.run [.fz (.int t)] = .ok (.fz .none, [.fz (.int t)])
def cTotal (j : Nat) (x : CS) : CS :=
 (.seq (.ite (.nt (.call j (.cons (.loc 0) (.cons (.int 1) (.cons (.gl "MOST_SUM" (.inl 200)) .nil)))))
 (.seq x
 .nil)
 .nil)
 .nil)
theorem total_ok {Φ : Nat → Fn} {j : Nat} (x : CS) (h : WithinOk (Φ j)) : TotalOk (mkFn [] 1 0 (dS Φ (cTotal j x))) := by
  intro t h0 h1
  have r := h t 1 200
  rw [decide_eq_true h0, decide_eq_true h1] at r
  simp [mkFn, runB, cTotal, dS, dE, dA, un1, un2, opnd, loc?, owned?, Res.bind, Res.of, Arg.view, Sl.dat, Sl.item, blD, bo, tyD, istyD, excD, q_lt, q_le, q_gt, q_ge, q_eq, q_ne, q_add, q_sub, q_shift, b_max, b_min, isiD, isiT, b_lent, b_lenl, b_tupl, b_tupt, b_lstl, b_lstt, b_suml, b_sumt, stE, itR, itemsOf, argsOf, callOf, slotsOf, putBack, fitL, line, r, outs, outS]
def NumberOk (fn : Fn) : Prop := ∀ s m : Int, 0 ≤ s → s < m → fn.run [.fz (.int s), .fz (.int m)] = .ok (.fz .none, [.fz (.int s), .fz (.int m)])
def cNumber (j : Nat) (x : CS) : CS :=
 (.seq (.ite (.nt (.call j (.cons (.loc 0) (.cons (.int 0) (.cons (.bin .sub (.loc 1) (.int 1)) .nil)))))
 (.seq x
 .nil)
 .nil)
 .nil)
theorem number_ok {Φ : Nat → Fn} {j : Nat} (x : CS) (h : WithinOk (Φ j)) : NumberOk (mkFn [] 2 0 (dS Φ (cNumber j x))) := by
  intro s m h0 h1
  have r := h s 0 (m - 1)
  rw [decide_eq_true h0, decide_eq_true (show s ≤ m - 1 by omega)] at r
  simp [mkFn, runB, cNumber, dS, dE, dA, un1, un2, opnd, loc?, owned?, Res.bind, Res.of, Arg.view, Sl.dat, Sl.item, blD, bo, tyD, istyD, excD, q_lt, q_le, q_gt, q_ge, q_eq, q_ne, q_add, q_sub, q_shift, b_max, b_min, isiD, isiT, b_lent, b_lenl, b_tupl, b_tupt, b_lstl, b_lstt, b_suml, b_sumt, stE, itR, itemsOf, argsOf, callOf, slotsOf, putBack, fitL, line, r, outs, outS, List.range, List.range.loop]
/-! count_rows -/
def CountOk (fn : Fn) : Prop := ∀ n : Nat, n ≤ 199 → fn.run [.fz (.int (n + 1))] = .ok (.fz (.int (2 ^ n)), [.fz (.int (n + 1))])
def cCount (j : Nat) : CS :=
 (.seq (.ex (.call j (.cons (.loc 0) .nil)))
 (.seq (.ret (.bin .shl (.int 1) (.bin .sub (.loc 0) (.int 1))))
 .nil))
theorem shl_one (n : Nat) (h : n ≤ 199) : opD .shl (.int 1) (.int n) = some (.fz (.int (2 ^ n))) := by
  have := q_shl 1 n (by omega) (by omega) (by decide +kernel)
  rw [Int.one_mul] at this
  exact this
theorem count_ok {Φ : Nat → Fn} {j : Nat} (h : TotalOk (Φ j)) : CountOk (mkFn [] 1 0 (dS Φ (cCount j))) := by
  intro n hn
  have r := h (n + 1) (by omega) (by omega)
  have e : ((n : Int) + 1) - 1 = n := by omega
  have s := shl_one n hn
  generalize (n : Int) + 1 = t at *
  simp [mkFn, runB, cCount, dS, dE, dA, un1, un2, opnd, loc?, owned?, Res.bind, Res.of, Arg.view, Sl.dat, Sl.item, blD, bo, tyD, istyD, excD, q_lt, q_le, q_gt, q_ge, q_eq, q_ne, q_add, q_sub, q_shift, b_max, b_min, isiD, isiT, b_lent, b_lenl, b_tupl, b_tupt, b_lstl, b_lstt, b_suml, b_sumt, stE, itR, itemsOf, argsOf, callOf, slotsOf, putBack, fitL, line, r, e, s, outs, outS]
/-! row_number -/
def RnumOk (fn : Fn) : Prop := ∀ ns : List Int, ns ≠ [] → (∀ n ∈ ns, 1 ≤ n) → ns.sum ≤ 200 → fn.run [.fz (rowD ns)] = .ok (.fz (.int (numA 0 ns)), [.fz (rowD ns)])
def rnB : CS :=
 (.seq (.asg (.loc 1) (.bin .sub (.bin .add (.bin .shl (.loc 1) (.loc 2)) (.bin .shl (.int 1) (.bin .sub (.loc 2) (.int 1)))) (.int 1)))
 .nil)
def cRnum (j : Nat) : CS :=
 (.seq (.ex (.call j (.cons (.loc 0) .nil)))
 (.seq (.asg (.loc 1) (.int 0))
 (.seq (.fr (.loc 2) (.loc 0) rnB)
 (.seq (.retM 1)
 .nil))))
theorem rn_step (Φ : Nat → Fn) (v : Sl) (a e : Int) (he : 1 ≤ e) (h1 : e ≤ 200) (h2 : a.natAbs < 2 ^ 1000) : dS Φ rnB [v, .fz (.int a), .fz (.int e)] = .ok (.nx [v, .fz (.int (a * 2 ^ e.toNat + 2 ^ (e - 1).toNat - 1)), .fz (.int e)]) := by
  have s1 := q_shl a e (by omega) (by omega) h2
  have s2 := q_shl 1 (e - 1) (by omega) (by omega) (by decide +kernel)
  rw [Int.one_mul] at s2
  generalize (2 : Int) ^ e.toNat = x at *
  generalize (2 : Int) ^ (e - 1).toNat = y at *
  simp [rnB, dS, dE, dA, un1, un2, opnd, loc?, owned?, Res.bind, Res.of, Arg.view, Sl.dat, Sl.item, blD, bo, tyD, istyD, excD, q_lt, q_le, q_gt, q_ge, q_eq, q_ne, q_add, q_sub, q_shift, b_max, b_min, isiD, isiT, b_lent, b_lenl, b_tupl, b_tupt, b_lstl, b_lstt, b_suml, b_sumt, stE, itR, itemsOf, argsOf, callOf, slotsOf, putBack, fitL, line, s1, s2]
theorem pow_nat_int {a : Int} {k : Nat} (h0 : 0 ≤ a) (h1 : a < 2 ^ k) (hk : k ≤ 900) : a.natAbs < 2 ^ 1000 := by
  have e : ((2 ^ k : Nat) : Int) = (2 : Int) ^ k := Int.natCast_pow 2 k
  have : (2 : Nat) ^ k ≤ 2 ^ 1000 := Nat.pow_le_pow_right (by decide) (by omega)
  have : a.natAbs < 2 ^ k := by omega
  omega
theorem num_next {a e : Int} {k : Nat} (h0 : 0 ≤ a) (h1 : a < 2 ^ k) (he : 1 ≤ e) : 0 ≤ a * 2 ^ e.toNat + 2 ^ (e - 1).toNat - 1 ∧ a * 2 ^ e.toNat + 2 ^ (e - 1).toNat - 1 < 2 ^ (k + e.toNat) := by
  have p1 := pow_pos2 e.toNat
  have p2 := pow_pos2 (e - 1).toNat
  have e1 : (2 : Int) ^ e.toNat = 2 ^ (e - 1).toNat * 2 := by rw [show e.toNat = (e - 1).toNat + 1 by omega, Int.pow_succ]
  rw [Int.pow_add]
  generalize (2 : Int) ^ (e - 1).toNat = y at *
  generalize (2 : Int) ^ e.toNat = x at *
  generalize (2 : Int) ^ k = z at *
  have m1 : 0 ≤ a * x := Int.mul_nonneg h0 (by omega)
  have m2 : (a + 1) * x ≤ z * x := Int.mul_le_mul_of_nonneg_right (by omega) (by omega)
  rw [Int.add_mul, Int.one_mul] at m2
  omega
theorem rn_loop (Φ : Nat → Fn) (v : Sl) : ∀ (r : List Int) (a : Int) (k : Nat) (v2 : Sl), 0 ≤ a → a < 2 ^ k → (∀ n ∈ r, 1 ≤ n) → (k : Int) + r.sum ≤ 800 → r.sum ≤ 200 → ∃ w, fLoop (.loc 2) (dS Φ rnB) (r.map .int) [v, .fz (.int a), v2] = .ok (.nx [v, .fz (.int (numA a r)), w])
  | [], a, k, v2, _, _, _, _, _ => ⟨v2, rfl⟩
  | e :: r, a, k, v2, h0, h1, hp, hk, hs => by
    have he := hp e List.mem_cons_self
    have hr : ∀ n ∈ r, 1 ≤ n := fun n hn => hp n (List.mem_cons_of_mem _ hn)
    have hl := len_sum r hr
    rw [List.sum_cons] at hk hs
    have st := rn_step Φ v a e he (by omega) (pow_nat_int h0 h1 (by omega))
    obtain ⟨n0, n1⟩ := num_next h0 h1 he
    obtain ⟨w, g⟩ := rn_loop Φ v r _ (k + e.toNat) (.fz (.int e)) n0 n1 hr (by omega) (by omega)
    refine ⟨w, ?_⟩
    show ((dS Φ rnB [v, .fz (.int a), .fz (.int e)]).bind _) = _
    rw [st]
    exact g
theorem row_isC {ns : List Int} (h0 : ns ≠ []) (h : ∀ n ∈ ns, 1 ≤ n) (hs : ns.sum ≤ 200) : isRowC (rowD ns) = true := isRow_of _ h0 h hs
theorem rnum_ok {Φ : Nat → Fn} {j : Nat} (h : CheckOk (Φ j)) : RnumOk (mkFn [] 1 2 (dS Φ (cRnum j))) := by
  intro ns h0 hp hs
  have r := h (rowD ns) (row_isC h0 hp hs)
  obtain ⟨w, lp⟩ := rn_loop Φ (.fz (rowD ns)) ns 0 0 .un (by decide) (by decide) hp (by omega) hs
  have sq := seq_row ns
  generalize rowD ns = D at *
  generalize numA 0 ns = N at *
  generalize ns.map PyData.int = L at *
  simp [mkFn, runB, cRnum, dS, dE, dA, un1, un2, opnd, loc?, owned?, Res.bind, Res.of, Arg.view, Sl.dat, Sl.item, blD, bo, tyD, istyD, excD, q_lt, q_le, q_gt, q_ge, q_eq, q_ne, q_add, q_sub, q_shift, b_max, b_min, isiD, isiT, b_lent, b_lenl, b_tupl, b_tupt, b_lstl, b_lstt, b_suml, b_sumt, stE, itR, itemsOf, argsOf, callOf, slotsOf, putBack, fitL, line, r, sq, lp, outs, outS]
/-! nth_row -/
def marksC : CE := .bl true
def marksE : CE := (.bin .add (.b1 .len (.loc 4)) (.int 1))
def cNth (j k : Nat) : CS :=
 (.seq (.ex (.call j (.cons (.loc 0) .nil)))
 (.seq (.asg (.loc 2) (.bin .shl (.int 1) (.bin .sub (.loc 0) (.int 1))))
 (.seq (.ex (.call k (.cons (.loc 1) (.cons (.loc 2) .nil))))
 (.seq (.asg (.loc 3) (.fbn (.bin .add (.loc 2) (.loc 1))))
 (.seq (.ret (.b1 .tuple (.lc [4] (.loc 4) (.spl (.sl (.loc 3) (.int 1) .nop) "0") marksC marksE)))
 .nil)))))
def NthOk (fn : Fn) : Prop := ∀ n s : Nat, n ≤ 199 → s < 2 ^ n → fn.run [.fz (.int (n + 1)), .fz (.int s)] = .ok (.fz (rowD (R (bits n s))), [.fz (.int (n + 1)), .fz (.int s)])
theorem spl_le : ∀ (l acc : List Nat), ∀ p ∈ TL.spl [48] 0 acc l, p.length ≤ acc.length + l.length
  | [], acc, p, h => by
    rw [TL.spl_nil] at h
    rw [List.mem_singleton.mp h]
    exact Nat.le_add_right _ _
  | c :: r, acc, p, h => by
    cases e : TL.pre [48] (c :: r) with
    | true =>
      rw [TL.spl_hit e] at h
      rw [List.length_cons]
      rcases List.mem_cons.mp h with rfl | h
      · omega
      · have := spl_le r [] p h
        rw [List.length_nil] at this
        omega
    | false =>
      rw [TL.spl_miss e] at h
      have := spl_le r (acc ++ [c]) p h
      rw [List.length_append, List.length_singleton] at this
      rw [List.length_cons]
      omega
theorem chs_len (b : List Bool) : (chs b).length = b.length := List.length_map _
theorem bin_text (n s : Nat) (h : s < 2 ^ n) : binText ((2 : Int) ^ n + s) = SX.S (49 :: chs (bits n s)) := by
  have e : ((2 : Int) ^ n + s).natAbs = 2 ^ n + s := by
    have e : ((2 ^ n : Nat) : Int) = (2 : Int) ^ n := Int.natCast_pow 2 n
    omega
  unfold binText
  rw [e, digits_bits n s h]
theorem cut_one (l : List Nat) (c : Nat) : L2.cutS (SX.S (c :: l)) (some 1) none = SX.S l := by
  unfold L2.cutS
  rw [HT.sIx_none, show HT.sIx (SX.S (c :: l)).length 0 (some 1) = min 1 (SX.S (c :: l)).length from HT.sIx_nat _ _ 1, SX.S_len]
  rw [show min 1 (c :: l).length = 1 by rw [List.length_cons]; omega]
  show (⟨(((c :: l).drop 1).take ((c :: l).length - 1)).toArray⟩ : Str) = _
  rw [List.drop_succ_cons, List.drop_zero, List.length_cons, Nat.add_sub_cancel, List.take_length]
theorem split_marks (b : List Bool) : Txt.split (SX.S (chs b)) "0" = (TL.spl [48] 0 [] (chs b)).map SX.S := SX.split_S (a := chs b) (b := [48]) (by simp) (by decide)
theorem row_of_split (b : List Bool) : (TL.spl [48] 0 [] (chs b)).map (fun p => (p.length : Int) + 1) = R b := by
  rw [spl_R b []]
  cases R b with
  | nil => rfl
  | cons x r => show (x + ((0 : Nat) : Int)) :: r = _; rw [Int.natCast_zero, Int.add_zero]
theorem R_len (b : List Bool) : (R b).length ≤ b.length + 1 := by
  have h1 := len_sum (R b) (R_pos b)
  have h2 := R_sum b
  omega
theorem lc_marks (Φ : Nat → Fn) (b : List Bool) (hb : b.length ≤ 1000) (v0 v1 v2 v3 : Sl) : lcRes [4] (lcTurn [4] (.loc 4) (dE Φ marksC) (dE Φ marksE)) (((TL.spl [48] 0 [] (chs b)).map SX.S).map .str) [v0, v1, v2, v3, .un] = .ok (.ol ((R b).map .int), [v0, v1, v2, v3, .un]) := by
  have hle := spl_le (chs b) []
  rw [chs_len] at hle
  have hm := row_of_split b
  generalize TL.spl [48] 0 [] (chs b) = P at *
  obtain ⟨env', g, z, rfl⟩ := lc_map (f := lcTurn [4] (.loc 4) (dE Φ marksC) (dE Φ marksE)) (fun env => ∃ z, env = [v0, v1, v2, v3, z]) (fun d => match d with | .str x => some (PyData.int ((x.length : Int) + 1)) | _ => none) ((P.map SX.S).map .str) [v0, v1, v2, v3, .un] [] (fun d hd env hz => by
    obtain ⟨z, rfl⟩ := hz
    obtain ⟨x, hx, rfl⟩ := List.mem_map.mp hd
    obtain ⟨p, hp, rfl⟩ := List.mem_map.mp hx
    refine ⟨[v0, v1, v2, v3, .fz (.str (SX.S p))], ?_, _, rfl⟩
    have hl : b1D .len (.str (SX.S p)) = some (.fz (.int ((SX.S p).length : Nat))) := by
      show (if (SX.S p).length ≤ line then some (Sl.fz (.int ((SX.S p).length : Nat))) else none) = _
      rw [if_pos]
      rw [SX.S_len]
      have := hle p hp
      rw [List.length_nil] at this
      show _ ≤ 16777216
      omega
    generalize SX.S p = x at *
    simp [lcTurn, marksC, marksE, wipeE, bindT, dS, dE, dA, un1, un2, opnd, loc?, owned?, Res.bind, Res.of, Arg.view, Sl.dat, Sl.item, blD, bo, tyD, istyD, excD, q_lt, q_le, q_gt, q_ge, q_eq, q_ne, q_add, q_sub, q_shift, b_max, b_min, isiD, isiT, b_lent, b_lenl, b_tupl, b_tupt, b_lstl, b_lstt, b_suml, b_sumt, stE, itR, itemsOf, argsOf, callOf, slotsOf, putBack, fitL, line, hl]) ⟨_, rfl⟩
  have e0 : [] ++ ((P.map SX.S).map PyData.str).filterMap (fun d => match d with | .str x => some (PyData.int ((x.length : Int) + 1)) | _ => none) = (R b).map .int := by
    rw [List.nil_append, ← hm, List.filterMap_map, List.filterMap_map, List.map_map]
    have : ((fun d : PyData => match d with | .str x => some (PyData.int ((x.length : Int) + 1)) | _ => none) ∘ PyData.str) ∘ SX.S = some ∘ (PyData.int ∘ fun p : List Nat => (p.length : Int) + 1) := by
      funext p
      show some (PyData.int (((SX.S p).length : Int) + 1)) = some (PyData.int ((p.length : Int) + 1))
      rw [SX.S_len]
    rw [this, List.filterMap_eq_map]
  unfold lcRes
  rw [g]
  simp only [e0]
  have := R_len b
  rw [if_pos (by rw [List.length_map]; show _ ≤ 16777216; omega)]
  rfl
theorem nth_ok {Φ : Nat → Fn} {j k : Nat} (ht : TotalOk (Φ j)) (hn : NumberOk (Φ k)) : NthOk (mkFn [] 2 3 (dS Φ (cNth j k))) := by
  intro n s h0 h1
  have r1 := ht (n + 1) (by omega) (by omega)
  have e : ((n : Int) + 1) - 1 = n := by omega
  have sh := shl_one n h0
  have hs : (s : Int) < 2 ^ n := by
    have e : ((2 ^ n : Nat) : Int) = (2 : Int) ^ n := Int.natCast_pow 2 n
    omega
  have r2 := hn s (2 ^ n) (by omega) hs
  have hb := bits_len n s
  have fb : fbnD (.int (2 ^ n + s)) = some (.fz (.str (SX.S (49 :: chs (bits n s))))) := by
    show (if ¬ ((2 : Int) ^ n + s) < 0 ∧ (binText ((2 : Int) ^ n + s)).length ≤ line then some (Sl.fz (.str (binText ((2 : Int) ^ n + s)))) else none) = _
    rw [bin_text n s h1, if_pos]
    have := pow_pos2 n
    refine ⟨by omega, ?_⟩
    rw [SX.S_len, List.length_cons, chs_len, hb]
    show _ ≤ 16777216
    omega
  have sl : slD (.str (SX.S (49 :: chs (bits n s)))) (some 1) none = some (.fz (.str (SX.S (chs (bits n s))))) := by
    show (if (SX.S (49 :: chs (bits n s))).length ≤ line then some (Sl.fz (.str (L2.cutS (SX.S (49 :: chs (bits n s))) (some 1) none))) else none) = _
    rw [cut_one, if_pos]
    rw [SX.S_len, List.length_cons, chs_len, hb]
    show _ ≤ 16777216
    omega
  have sp : splD "0" (.str (SX.S (chs (bits n s)))) = some (.ol (((TL.spl [48] 0 [] (chs (bits n s))).map SX.S).map .str)) := by
    show (if (("0" : Str).length == 0) = false ∧ (SX.S (chs (bits n s))).length + 2 ≤ line then some (Sl.ol ((Txt.split (SX.S (chs (bits n s))) "0").map .str)) else none) = _
    rw [split_marks, if_pos]
    refine ⟨by decide, ?_⟩
    rw [SX.S_len, chs_len, hb]
    show _ ≤ 16777216
    omega
  have lc := lc_marks Φ (bits n s) (by rw [hb]; omega) (.fz (.int (n + 1))) (.fz (.int s)) (.fz (.int (2 ^ n))) (.fz (.str (SX.S (49 :: chs (bits n s)))))
  unfold rowD
  generalize ((TL.spl [48] 0 [] (chs (bits n s))).map SX.S).map PyData.str = P at *
  generalize SX.S (chs (bits n s)) = x at *
  generalize SX.S (49 :: chs (bits n s)) = y at *
  generalize (R (bits n s)).map PyData.int = Z at *
  generalize (2 : Int) ^ n = pw at *
  generalize (n : Int) + 1 = t at *
  have hq : seqD (.list P) = some P := rfl
  simp [mkFn, runB, cNth, dS, dE, dA, un1, un2, opnd, loc?, owned?, Res.bind, Res.of, Arg.view, Sl.dat, Sl.item, blD, bo, tyD, istyD, excD, q_lt, q_le, q_gt, q_ge, q_eq, q_ne, q_add, q_sub, q_shift, b_max, b_min, isiD, isiT, b_lent, b_lenl, b_tupl, b_tupt, b_lstl, b_lstt, b_suml, b_sumt, stE, itR, itemsOf, argsOf, callOf, slotsOf, putBack, fitL, line, partD, r1, e, sh, r2, fb, sl, sp, hq, lc, outs, outS, List.range, List.range.loop]
end Gd
set_option maxHeartbeats 4000000
namespace K30
open PySem PySem.Spec PyProof.Rows L2 Vl
def top (i : Nat) : Stmt := PySem.Challenge.pw_runswap_k30_rows_of_great_sums.main.body.getD i (.Pass ⟨0, 0, 0, 0⟩)
/-! the defs in the order of their calls: _law_jar, is_integer, is_within, check_total, check_number, nth_row, is_row, check_row, row_number, _law_number, _law_grain, count_rows, _law_row_of, _law_right, _law_row, law -/
def nmAll : List (Str × Nat) := [("_law_jar", 2), ("is_integer", 1), ("is_within", 3), ("check_total", 1), ("check_number", 2), ("nth_row", 2), ("is_row", 1), ("check_row", 1), ("row_number", 1), ("_law_number", 1), ("_law_grain", 2), ("count_rows", 1), ("_law_row_of", 2), ("_law_right", 2), ("_law_row", 2), ("law", 1)]
/-! 0: _law_jar -/
def N0 : List Str := ["script", "k", "cell"]
def ps0 : List Str := ["script", "k"]
def P0 : List Nat := []
abbrev st0 : Stmt := top 19
def c0 : CS :=
 (.seq (.asg (.loc 2) (.ite (.cmp .lt (.loc 1) (.b1 .len (.loc 0))) (.ix (.loc 0) (.loc 1)) (.int 0)))
 (.seq (.ret (.lst (.cons (.b2 .max (.int 0) (.bin .sub (.loc 2) (.bin .pow (.int 10) (.int 18)))) (.cons (.bin .add (.bin .mul (.bin .mod (.loc 2) (.bin .add (.bin .pow (.int 10) (.int 41)) (.int 37))) (.int 128)) (.loc 1)) (.cons (.int 0) .nil)))))
 .nil))
/-! 1: is_integer -/
def N1 : List Str := ["value"]
def ps1 : List Str := ["value"]
def P1 : List Nat := []
abbrev st1 : Stmt := top 7
def c1 : CS :=
 (.seq (.ret (.and (.isi (.loc 0) "int") (.nt (.isi (.loc 0) "bool"))))
 .nil)
/-! 2: is_within -/
def N2 : List Str := ["value", "low", "high"]
def ps2 : List Str := ["value", "low", "high"]
def P2 : List Nat := []
abbrev st2 : Stmt := top 8
def c2 : CS :=
 (.seq (.ret (.and (.call 1 (.cons (.loc 0) .nil)) (.chn .le .le (.loc 1) (.loc 0) (.loc 2))))
 .nil)
/-! 3: check_total -/
def N3 : List Str := ["total"]
def ps3 : List Str := ["total"]
def P3 : List Nat := []
abbrev st3 : Stmt := top 9
def c3 : CS :=
 (.seq (.ite (.nt (.call 2 (.cons (.loc 0) (.cons (.int 1) (.cons (.gl "MOST_SUM" (.inl 200)) .nil)))))
 (.seq .nev
 .nil)
 .nil)
 .nil)
/-! 4: check_number -/
def N4 : List Str := ["number", "count"]
def ps4 : List Str := ["number", "count"]
def P4 : List Nat := []
abbrev st4 : Stmt := top 10
def c4 : CS :=
 (.seq (.ite (.nt (.call 2 (.cons (.loc 0) (.cons (.int 0) (.cons (.bin .sub (.loc 1) (.int 1)) .nil)))))
 (.seq .nev
 .nil)
 .nil)
 .nil)
/-! 5: nth_row -/
def N5 : List Str := ["total", "number", "rows", "marks", "joined"]
def ps5 : List Str := ["total", "number"]
def P5 : List Nat := []
abbrev st5 : Stmt := top 16
def c5 : CS :=
 (.seq (.ex (.call 3 (.cons (.loc 0) .nil)))
 (.seq (.asg (.loc 2) (.bin .shl (.int 1) (.bin .sub (.loc 0) (.int 1))))
 (.seq (.ex (.call 4 (.cons (.loc 1) (.cons (.loc 2) .nil))))
 (.seq (.asg (.loc 3) (.fbn (.bin .add (.loc 2) (.loc 1))))
 (.seq (.ret (.b1 .tuple (.lc [4] (.loc 4) (.spl (.sl (.loc 3) (.int 1) .nop) "0") (.bl true) (.bin .add (.b1 .len (.loc 4)) (.int 1)))))
 .nil)))))
/-! 6: is_row -/
def N6 : List Str := ["value", "most", "entry"]
def ps6 : List Str := ["value"]
def P6 : List Nat := []
abbrev st6 : Stmt := top 12
def b6_0 : CS :=
 (.seq (.ite (.and (.isty true (.loc 2) "int") (.nt (.call 1 (.cons (.loc 2) .nil))))
 (.seq (.ret (.bl false))
 .nil)
 .nil)
 (.seq (.ite (.cmp .ne (.loc 2) (.int 1))
 (.seq (.ite (.nt (.chn .lt .le (.int 1) (.loc 2) (.loc 1)))
 (.seq (.ret (.bl false))
 .nil)
 .nil)
 (.seq (.aug 1 true (.bin .sub (.loc 2) (.int 1)))
 .nil))
 .nil)
 .nil))
def c6 : CS :=
 (.seq (.ite (.or (.nt (.isi (.loc 0) "tuple")) (.nt (.chn .le .le (.int 1) (.b1 .len (.loc 0)) (.gl "MOST_SUM" (.inl 200)))))
 (.seq (.ret (.bl false))
 .nil)
 .nil)
 (.seq (.asg (.loc 1) (.bin .sub (.bin .add (.gl "MOST_SUM" (.inl 200)) (.int 1)) (.b1 .len (.loc 0))))
 (.seq (.fr (.loc 2) (.loc 0) b6_0)
 (.seq (.ret (.bl true))
 .nil))))
/-! 7: check_row -/
def N7 : List Str := ["row"]
def ps7 : List Str := ["row"]
def P7 : List Nat := []
abbrev st7 : Stmt := top 13
def c7 : CS :=
 (.seq (.ite (.nt (.call 6 (.cons (.loc 0) .nil)))
 (.seq .nev
 .nil)
 .nil)
 .nil)
/-! 8: row_number -/
def N8 : List Str := ["row", "number", "entry"]
def ps8 : List Str := ["row"]
def P8 : List Nat := []
abbrev st8 : Stmt := top 17
def b8_0 : CS :=
 (.seq (.asg (.loc 1) (.bin .sub (.bin .add (.bin .shl (.loc 1) (.loc 2)) (.bin .shl (.int 1) (.bin .sub (.loc 2) (.int 1)))) (.int 1)))
 .nil)
def c8 : CS :=
 (.seq (.ex (.call 7 (.cons (.loc 0) .nil)))
 (.seq (.asg (.loc 1) (.int 0))
 (.seq (.fr (.loc 2) (.loc 0) b8_0)
 (.seq (.retM 1)
 .nil))))
/-! 9: _law_number -/
def N9 : List Str := ["row_here", "found", "spot", "entry", "turn"]
def ps9 : List Str := ["row_here"]
def P9 : List Nat := []
abbrev st9 : Stmt := top 22
def b9_0 : CS :=
 (.seq (.asg (.loc 1) (.bin .add (.bin .mul (.int 2) (.loc 1)) (.int 1)))
 .nil)
def b9_1 : CS :=
 (.seq (.fr (.loc 4) (.rng1 (.bin .sub (.loc 3) (.int 1))) b9_0)
 (.seq (.ite (.cmp .lt (.bin .add (.loc 2) (.int 1)) (.b1 .len (.loc 0)))
 (.seq (.asg (.loc 1) (.bin .mul (.int 2) (.loc 1)))
 .nil)
 .nil)
 .nil))
def c9 : CS :=
 (.seq (.asg (.loc 1) (.int 0))
 (.seq (.fr (.tup (.cons (.loc 2) (.cons (.loc 3) .nil))) (.enu (.loc 0)) b9_1)
 (.seq (.retM 1)
 .nil)))
/-! 10: _law_grain -/
def N10 : List Str := ["jar", "many", "mixed", "found"]
def ps10 : List Str := ["jar", "many"]
def P10 : List Nat := [0]
abbrev st10 : Stmt := top 20
def c10 : CS :=
 (.seq (.ite (.cmp .gt (.ix (.loc 0) (.int 0)) (.int 0))
 (.seq (.asg (.loc 3) (.bin .mod (.ix (.loc 0) (.int 0)) (.loc 1)))
 (.seq (.setix 0 (.int 0) (.bin .fdiv (.ix (.loc 0) (.int 0)) (.loc 1)))
 (.seq (.retM 3)
 .nil)))
 .nil)
 (.seq (.setix 0 (.int 2) (.bin .add (.ix (.loc 0) (.int 2)) (.int 1)))
 (.seq (.asg (.loc 2) (.bin .mod (.bin .pow (.bin .add (.ix (.loc 0) (.int 1)) (.bin .mul (.int 86028157) (.ix (.loc 0) (.int 2)))) (.int 3)) (.bin .add (.bin .pow (.int 10) (.int 43)) (.int 57))))
 (.seq (.asg (.loc 2) (.bin .mod (.bin .pow (.bin .add (.loc 2) (.bin .mul (.int 141650939) (.ix (.loc 0) (.int 2)))) (.int 3)) (.bin .add (.bin .pow (.int 10) (.int 42)) (.int 63))))
 (.seq (.ret (.bin .mod (.bin .fdiv (.loc 2) (.int 393241)) (.loc 1)))
 .nil)))))
/-! 11: count_rows -/
def N11 : List Str := ["total"]
def ps11 : List Str := ["total"]
def P11 : List Nat := []
abbrev st11 : Stmt := top 15
def c11 : CS :=
 (.seq (.ex (.call 3 (.cons (.loc 0) .nil)))
 (.seq (.ret (.bin .shl (.int 1) (.bin .sub (.loc 0) (.int 1))))
 .nil))
/-! 12: _law_row_of -/
def N12 : List Str := ["total_here", "spot", "found", "turn"]
def ps12 : List Str := ["total_here", "spot"]
def P12 : List Nat := []
abbrev st12 : Stmt := top 23
def b12_0 : CS :=
 (.seq (.ite (.cmp .eq (.bin .mod (.loc 1) (.int 2)) (.int 1))
 (.seq (.setix 2 (.int 0) (.bin .add (.ix (.loc 2) (.int 0)) (.int 1)))
 .nil)
 (.seq (.asg (.loc 2) (.bin .add (.lst (.cons (.int 1) .nil)) (.loc 2)))
 .nil))
 (.seq (.asg (.loc 1) (.bin .fdiv (.loc 1) (.int 2)))
 .nil))
def c12 : CS :=
 (.seq (.asg (.loc 2) (.lst (.cons (.int 1) .nil)))
 (.seq (.fr (.loc 3) (.rng1 (.bin .sub (.loc 0) (.int 1))) b12_0)
 (.seq (.ret (.b1 .tuple (.loc 2)))
 .nil)))
/-! 13: _law_right -/
def N13 : List Str := ["jar", "row_here", "turn", "spot", "last", "drawn", "kept", "total_here", "power", "told"]
def ps13 : List Str := ["jar", "row_here"]
def P13 : List Nat := [0]
abbrev st13 : Stmt := top 24
def b13_0 : CS :=
 (.seq (.asg (.loc 9) (.call 5 (.cons (.loc 7) (.cons (.loc 3) .nil))))
 (.seq (.ite (.or (.cmp .ne (.b1 .rep (.loc 9)) (.b1 .rep (.call 12 (.cons (.loc 7) (.cons (.loc 3) .nil))))) (.cmp .ne (.call 8 (.cons (.loc 9) .nil)) (.loc 3)))
 (.seq (.ret (.bl false))
 .nil)
 .nil)
 (.seq (.ite (.and (.isn true (.loc 4)) (.cmp .ne (.cmp .lt (.ix (.loc 4) (.int 1)) (.loc 9)) (.cmp .lt (.ix (.loc 4) (.int 0)) (.loc 3))))
 (.seq (.ret (.bl false))
 .nil)
 .nil)
 (.seq (.asg (.loc 4) (.tup (.cons (.loc 3) (.cons (.loc 9) .nil))))
 .nil))))
def b13_1 : CS :=
 (.seq (.asg (.loc 8) (.bin .mul (.int 2) (.loc 8)))
 .nil)
def c13 : CS :=
 (.seq (.par [8, 7, 6] (.cons (.b1 .rep (.loc 1)) (.cons (.b1 .sum (.loc 1)) (.cons (.int 1) .nil))))
 (.seq (.fr (.loc 2) (.rng1 (.bin .sub (.loc 7) (.int 1))) b13_1)
 (.seq (.ite (.cmp .ne (.b1 .rep (.lst (.cons (.call 11 (.cons (.loc 7) .nil)) (.cons (.call 8 (.cons (.loc 1) .nil)) .nil)))) (.b1 .rep (.lst (.cons (.loc 8) (.cons (.call 9 (.cons (.loc 1) .nil)) .nil)))))
 (.seq (.ret (.bl false))
 .nil)
 .nil)
 (.seq (.asg (.loc 3) (.call 9 (.cons (.loc 1) .nil)))
 (.seq (.ite (.cmp .ne (.b1 .rep (.lst (.cons (.call 5 (.cons (.loc 7) (.cons (.loc 3) .nil))) (.cons (.call 8 (.cons (.loc 1) .nil)) .nil)))) (.b1 .rep (.lst (.cons (.loc 1) (.cons (.loc 3) .nil)))))
 (.seq (.ret (.bl false))
 .nil)
 .nil)
 (.seq (.asg (.loc 4) .non)
 (.seq (.asg (.loc 5) (.call 10 (.consO (.loc 0) (.cons (.loc 8) .nil))))
 (.seq (.fr (.loc 3) (.b1 .sorted (.lst (.cons (.int 0) (.cons (.bin .sub (.loc 8) (.int 1)) (.cons (.loc 5) (.cons (.b2 .min (.bin .sub (.loc 8) (.int 1)) (.bin .add (.loc 5) (.int 1))) (.cons (.call 10 (.consO (.loc 0) (.cons (.loc 8) .nil))) .nil))))))) b13_0)
 (.seq (.ret (.cmp .eq (.b1 .rep (.loc 1)) (.loc 6)))
 .nil)))))))))
/-! 14: _law_row -/
def N14 : List Str := ["jar", "most", "rest", "way", "found", "wide", "entry", "often"]
def ps14 : List Str := ["jar", "most"]
def P14 : List Nat := [0]
abbrev st14 : Stmt := top 21
def b14_0 : CS :=
 (.seq (.asg (.loc 5) (.ix (.lst (.cons (.int 2) (.cons (.int 3) (.cons (.loc 2) (.cons (.bin .add (.int 1) (.bin .fdiv (.loc 2) (.int 2))) (.cons (.int 6) .nil)))))) (.loc 3)))
 (.seq (.asg (.loc 6) (.b2 .min (.loc 2) (.bin .add (.int 1) (.call 10 (.consO (.loc 0) (.cons (.loc 5) .nil))))))
 (.seq (.asg (.loc 7) (.b2 .min (.bin .fdiv (.loc 2) (.loc 6)) (.bin .add (.int 1) (.call 10 (.consO (.loc 0) (.cons (.ix (.lst (.cons (.int 1) (.cons (.int 4) (.cons (.int 1) (.cons (.int 3) (.cons (.loc 2) .nil)))))) (.loc 3)) .nil))))))
 (.seq (.asg (.loc 4) (.bin .add (.loc 4) (.bin .mul (.lst (.cons (.loc 6) .nil)) (.loc 7))))
 (.seq (.asg (.loc 2) (.bin .sub (.loc 2) (.bin .mul (.loc 6) (.loc 7))))
 .nil)))))
def t14_0 : CE := (.cmp .gt (.loc 2) (.int 0))
def c14 : CS :=
 (.seq (.par [4, 3] (.cons (.call 10 (.consO (.loc 0) (.cons (.int 5) .nil))) (.cons (.lst .nil) .nil)))
 (.seq (.asg (.loc 2) (.ix (.lst (.cons (.bin .add (.int 1) (.call 10 (.consO (.loc 0) (.cons (.loc 1) .nil)))) (.cons (.loc 1) (.cons (.bin .add (.int 1) (.call 10 (.consO (.loc 0) (.cons (.b2 .min (.loc 1) (.int 12)) .nil)))) .nil)))) (.call 10 (.consO (.loc 0) (.cons (.int 3) .nil)))))
 (.seq (.whl 1000000 t14_0 b14_0)
 (.seq (.ret (.b1 .tuple (.loc 4)))
 .nil))))
/-! 15: law -/
def N15 : List Str := ["script", "k", "jar", "most"]
def ps15 : List Str := ["script"]
def P15 : List Nat := []
abbrev st15 : Stmt := top 25
def b15_0 : CS :=
 (.seq (.ite (.nt (.call 13 (.consO (.loc 2) (.cons (.call 14 (.consO (.loc 2) (.cons (.loc 3) .nil))) .nil))))
 (.seq (.ret (.bl false))
 .nil)
 .nil)
 .nil)
def b15_1 : CS :=
 (.seq (.asg (.loc 2) (.call 0 (.cons (.loc 0) (.cons (.loc 1) .nil))))
 (.seq (.fr (.loc 3) (.lst (.cons (.int 9) (.cons (.int 200) .nil))) b15_0)
 .nil))
def c15 : CS :=
 (.seq (.fr (.loc 1) (.rng1 (.b2 .max (.int 1) (.b2 .min (.int 8) (.b1 .len (.loc 0))))) b15_1)
 (.seq (.ret (.cmp .eq (.lst (.cons (.call 5 (.cons (.int 200) (.cons (.int 0) .nil))) (.cons (.call 8 (.cons (.tup (.cons (.int 200) .nil)) .nil)) .nil))) (.lst (.cons (.bin .mul (.tup (.cons (.int 1) .nil)) (.int 200)) (.cons (.bin .sub (.call 11 (.cons (.int 200) .nil)) (.int 1)) .nil)))))
 .nil))
def blAll : List Str := ["max", "len", "isinstance", "bool", "int", "tuple", "type", "enumerate", "range", "repr", "sorted", "min", "sum"]
def gsAll : List (Str × Sum Int Str) := [("MOST_SUM", (.inl 200))]
def xsAll : List Str := []
def clAll : List Str := []
def sqAll : Bool := false
theorem ok0 : ckB c0 (tabOf N0 (defScope st0) blAll gsAll (nmAll.take 0) xsAll clAll sqAll) P0 (defBody st0) = true := by decide +kernel
theorem sc0 : FnScope N0 ps0 (defScope st0) := ⟨rfl, rfl, rfl, by decide +kernel, by decide +kernel, by decide +kernel, by decide +kernel⟩
def tb0 : List Fn := []
def f0 : Fn := mkFn P0 ps0.length (N0.length - ps0.length) (dS (phi tb0) c0)
theorem ok1 : ckB c1 (tabOf N1 (defScope st1) blAll gsAll (nmAll.take 1) xsAll clAll sqAll) P1 (defBody st1) = true := by decide +kernel
theorem sc1 : FnScope N1 ps1 (defScope st1) := ⟨rfl, rfl, rfl, by decide +kernel, by decide +kernel, by decide +kernel, by decide +kernel⟩
def tb1 : List Fn := tb0 ++ [f0]
def f1 : Fn := mkFn P1 ps1.length (N1.length - ps1.length) (dS (phi tb1) c1)
theorem ok2 : ckB c2 (tabOf N2 (defScope st2) blAll gsAll (nmAll.take 2) xsAll clAll sqAll) P2 (defBody st2) = true := by decide +kernel
theorem sc2 : FnScope N2 ps2 (defScope st2) := ⟨rfl, rfl, rfl, by decide +kernel, by decide +kernel, by decide +kernel, by decide +kernel⟩
def tb2 : List Fn := tb1 ++ [f1]
def f2 : Fn := mkFn P2 ps2.length (N2.length - ps2.length) (dS (phi tb2) c2)
theorem ok3 : ckB c3 (tabOf N3 (defScope st3) blAll gsAll (nmAll.take 3) xsAll clAll sqAll) P3 (defBody st3) = true := by decide +kernel
theorem sc3 : FnScope N3 ps3 (defScope st3) := ⟨rfl, rfl, rfl, by decide +kernel, by decide +kernel, by decide +kernel, by decide +kernel⟩
def tb3 : List Fn := tb2 ++ [f2]
def f3 : Fn := mkFn P3 ps3.length (N3.length - ps3.length) (dS (phi tb3) c3)
theorem ok4 : ckB c4 (tabOf N4 (defScope st4) blAll gsAll (nmAll.take 4) xsAll clAll sqAll) P4 (defBody st4) = true := by decide +kernel
theorem sc4 : FnScope N4 ps4 (defScope st4) := ⟨rfl, rfl, rfl, by decide +kernel, by decide +kernel, by decide +kernel, by decide +kernel⟩
def tb4 : List Fn := tb3 ++ [f3]
def f4 : Fn := mkFn P4 ps4.length (N4.length - ps4.length) (dS (phi tb4) c4)
theorem ok5 : ckB c5 (tabOf N5 (defScope st5) blAll gsAll (nmAll.take 5) xsAll clAll sqAll) P5 (defBody st5) = true := by decide +kernel
theorem sc5 : FnScope N5 ps5 (defScope st5) := ⟨rfl, rfl, rfl, by decide +kernel, by decide +kernel, by decide +kernel, by decide +kernel⟩
def tb5 : List Fn := tb4 ++ [f4]
def f5 : Fn := mkFn P5 ps5.length (N5.length - ps5.length) (dS (phi tb5) c5)
theorem ok6 : ckB c6 (tabOf N6 (defScope st6) blAll gsAll (nmAll.take 6) xsAll clAll sqAll) P6 (defBody st6) = true := by decide +kernel
theorem sc6 : FnScope N6 ps6 (defScope st6) := ⟨rfl, rfl, rfl, by decide +kernel, by decide +kernel, by decide +kernel, by decide +kernel⟩
def tb6 : List Fn := tb5 ++ [f5]
def f6 : Fn := mkFn P6 ps6.length (N6.length - ps6.length) (dS (phi tb6) c6)
theorem ok7 : ckB c7 (tabOf N7 (defScope st7) blAll gsAll (nmAll.take 7) xsAll clAll sqAll) P7 (defBody st7) = true := by decide +kernel
theorem sc7 : FnScope N7 ps7 (defScope st7) := ⟨rfl, rfl, rfl, by decide +kernel, by decide +kernel, by decide +kernel, by decide +kernel⟩
def tb7 : List Fn := tb6 ++ [f6]
def f7 : Fn := mkFn P7 ps7.length (N7.length - ps7.length) (dS (phi tb7) c7)
theorem ok8 : ckB c8 (tabOf N8 (defScope st8) blAll gsAll (nmAll.take 8) xsAll clAll sqAll) P8 (defBody st8) = true := by decide +kernel
theorem sc8 : FnScope N8 ps8 (defScope st8) := ⟨rfl, rfl, rfl, by decide +kernel, by decide +kernel, by decide +kernel, by decide +kernel⟩
def tb8 : List Fn := tb7 ++ [f7]
def f8 : Fn := mkFn P8 ps8.length (N8.length - ps8.length) (dS (phi tb8) c8)
theorem ok9 : ckB c9 (tabOf N9 (defScope st9) blAll gsAll (nmAll.take 9) xsAll clAll sqAll) P9 (defBody st9) = true := by decide +kernel
theorem sc9 : FnScope N9 ps9 (defScope st9) := ⟨rfl, rfl, rfl, by decide +kernel, by decide +kernel, by decide +kernel, by decide +kernel⟩
def tb9 : List Fn := tb8 ++ [f8]
def f9 : Fn := mkFn P9 ps9.length (N9.length - ps9.length) (dS (phi tb9) c9)
theorem ok10 : ckB c10 (tabOf N10 (defScope st10) blAll gsAll (nmAll.take 10) xsAll clAll sqAll) P10 (defBody st10) = true := by decide +kernel
theorem sc10 : FnScope N10 ps10 (defScope st10) := ⟨rfl, rfl, rfl, by decide +kernel, by decide +kernel, by decide +kernel, by decide +kernel⟩
def tb10 : List Fn := tb9 ++ [f9]
def f10 : Fn := mkFn P10 ps10.length (N10.length - ps10.length) (dS (phi tb10) c10)
theorem ok11 : ckB c11 (tabOf N11 (defScope st11) blAll gsAll (nmAll.take 11) xsAll clAll sqAll) P11 (defBody st11) = true := by decide +kernel
theorem sc11 : FnScope N11 ps11 (defScope st11) := ⟨rfl, rfl, rfl, by decide +kernel, by decide +kernel, by decide +kernel, by decide +kernel⟩
def tb11 : List Fn := tb10 ++ [f10]
def f11 : Fn := mkFn P11 ps11.length (N11.length - ps11.length) (dS (phi tb11) c11)
theorem ok12 : ckB c12 (tabOf N12 (defScope st12) blAll gsAll (nmAll.take 12) xsAll clAll sqAll) P12 (defBody st12) = true := by decide +kernel
theorem sc12 : FnScope N12 ps12 (defScope st12) := ⟨rfl, rfl, rfl, by decide +kernel, by decide +kernel, by decide +kernel, by decide +kernel⟩
def tb12 : List Fn := tb11 ++ [f11]
def f12 : Fn := mkFn P12 ps12.length (N12.length - ps12.length) (dS (phi tb12) c12)
theorem ok13 : ckB c13 (tabOf N13 (defScope st13) blAll gsAll (nmAll.take 13) xsAll clAll sqAll) P13 (defBody st13) = true := by decide +kernel
theorem sc13 : FnScope N13 ps13 (defScope st13) := ⟨rfl, rfl, rfl, by decide +kernel, by decide +kernel, by decide +kernel, by decide +kernel⟩
def tb13 : List Fn := tb12 ++ [f12]
def f13 : Fn := mkFn P13 ps13.length (N13.length - ps13.length) (dS (phi tb13) c13)
theorem ok14 : ckB c14 (tabOf N14 (defScope st14) blAll gsAll (nmAll.take 14) xsAll clAll sqAll) P14 (defBody st14) = true := by decide +kernel
theorem sc14 : FnScope N14 ps14 (defScope st14) := ⟨rfl, rfl, rfl, by decide +kernel, by decide +kernel, by decide +kernel, by decide +kernel⟩
def tb14 : List Fn := tb13 ++ [f13]
def f14 : Fn := mkFn P14 ps14.length (N14.length - ps14.length) (dS (phi tb14) c14)
theorem ok15 : ckB c15 (tabOf N15 (defScope st15) blAll gsAll (nmAll.take 15) xsAll clAll sqAll) P15 (defBody st15) = true := by decide +kernel
theorem sc15 : FnScope N15 ps15 (defScope st15) := ⟨rfl, rfl, rfl, by decide +kernel, by decide +kernel, by decide +kernel, by decide +kernel⟩
def tb15 : List Fn := tb14 ++ [f14]
def f15 : Fn := mkFn P15 ps15.length (N15.length - ps15.length) (dS (phi tb15) c15)
end K30
set_option maxHeartbeats 1000000
set_option exponentiation.threshold 4000
namespace K30
open PySem PySem.Spec PyProof.Rows L2 Vl Rm Gd Bn
theorem o0 : JarOk f0 := jar_ok (phi tb0)
theorem o1 : IntOk f1 := int_ok (phi tb1)
theorem o2 : WithinOk f2 := within_ok (Φ := phi tb2) (j := 1) o1
theorem o3 : TotalOk f3 := total_ok (Φ := phi tb3) (j := 2) .nev o2
theorem o4 : NumberOk f4 := number_ok (Φ := phi tb4) (j := 2) .nev o2
theorem o5 : NthOk f5 := nth_ok (Φ := phi tb5) (j := 3) (k := 4) o3 o4
theorem o6 : IsRowOk f6 := isrow_ok (Φ := phi tb6) (j := 1) o1
theorem o7 : CheckOk f7 := check_ok (Φ := phi tb7) (j := 6) o6
theorem o8 : RnumOk f8 := rnum_ok (Φ := phi tb8) (j := 7) o7
theorem o10 : GrainOk f10 := grain_ok (phi tb10)
theorem o11 : CountOk f11 := count_ok (Φ := phi tb11) (j := 3) o3
theorem o14 : RowOk3 f14 := row_ok3 (Φ := phi tb14) (p := 10) o10
/-! _law_number -/
theorem ln_in (Φ : Nat → Fn) (v0 v2 v3 : Sl) : ∀ (k : Nat) (lo a : Int) (v4 : Sl), 0 ≤ a → ∃ w, fLoop (.loc 4) (dS Φ b9_0) (rngL lo k) [v0, .fz (.int a), v2, v3, v4] = .ok (.nx [v0, .fz (.int (a * 2 ^ k + 2 ^ k - 1)), v2, v3, w])
  | 0, lo, a, v4, h => ⟨v4, by
    have : a * 2 ^ 0 + 2 ^ 0 - 1 = a := by rw [Int.pow_zero]; omega
    rw [this]; rfl⟩
  | k + 1, lo, a, v4, h => by
    obtain ⟨w, g⟩ := ln_in Φ v0 v2 v3 k (lo + 1) (2 * a + 1) (.fz (.int lo)) (by omega)
    refine ⟨w, ?_⟩
    rw [rng_succ]
    have ml := q_mul 2 a (by decide)
    have st : dS Φ b9_0 [v0, .fz (.int a), v2, v3, .fz (.int lo)] = .ok (.nx [v0, .fz (.int (2 * a + 1)), v2, v3, .fz (.int lo)]) := by
      simp [b9_0, dS, dE, dA, un1, un2, opnd, loc?, owned?, Res.bind, Res.of, Arg.view, Sl.dat, Sl.item, blD, bo, tyD, istyD, excD, q_lt, q_le, q_gt, q_ge, q_eq, q_ne, q_add, q_sub, q_shift, b_max, b_min, isiD, isiT, b_lent, b_lenl, b_tupl, b_tupt, b_lstl, b_lstt, b_suml, b_sumt, stE, itR, itemsOf, argsOf, callOf, slotsOf, putBack, fitL, line, ml]
    refine (fl_step rfl st).trans (g.trans ?_)
    have : (2 * a + 1) * 2 ^ k + 2 ^ k - 1 = a * 2 ^ (k + 1) + 2 ^ (k + 1) - 1 := by
      rw [Int.pow_succ]
      generalize (2 : Int) ^ k = x
      rw [Int.add_mul, Int.one_mul, Int.mul_comm 2 a, Int.mul_assoc, Int.mul_comm 2 x]
      omega
    rw [this]
theorem ln_body (Φ : Nat → Fn) (D : PyData) (L i a e : Int) (he : 1 ≤ e) (h1 : e ≤ 200) (ha : 0 ≤ a) (hl : b1D .len D = some (.fz (.int L))) (v4 : Sl) : ∃ w, dS Φ b9_1 [.fz D, .fz (.int a), .fz (.int i), .fz (.int e), v4] =
    .ok (.nx [.fz D, .fz (.int (if i + 1 < L then 2 * (a * 2 ^ (e - 1).toNat + 2 ^ (e - 1).toNat - 1) else a * 2 ^ (e - 1).toNat + 2 ^ (e - 1).toNat - 1)), .fz (.int i), .fz (.int e), w]) := by
  obtain ⟨w, g⟩ := ln_in Φ (.fz D) (.fz (.int i)) (.fz (.int e)) (e - 1).toNat 0 a v4 ha
  refine ⟨w, ?_⟩
  have ir : inR (e - 1) = true := decide_eq_true (by omega)
  have hq : seqD (.list (rngL 0 (e - 1).toNat)) = some (rngL 0 (e - 1).toNat) := rfl
  have ml := q_mul 2 (a * 2 ^ (e - 1).toNat + 2 ^ (e - 1).toNat - 1) (by decide)
  generalize hk : (e - 1).toNat = k at g hq ml ⊢
  have hk2 : e.toNat - 1 = k := by omega
  generalize a * 2 ^ k + 2 ^ k - 1 = z at *
  by_cases h : i + 1 < L <;> simp [b9_1, dS, dE, dA, un1, un2, opnd, loc?, owned?, Res.bind, Res.of, Arg.view, Sl.dat, Sl.item, blD, bo, tyD, istyD, excD, q_lt, q_le, q_gt, q_ge, q_eq, q_ne, q_add, q_sub, q_shift, b_max, b_min, isiD, isiT, b_lent, b_lenl, b_tupl, b_tupt, b_lstl, b_lstt, b_suml, b_sumt, stE, itR, itemsOf, argsOf, callOf, slotsOf, putBack, fitL, line, ir, hk2, hq, g, hl, h, ml]
theorem enu_cut (ns : List Int) (i : Nat) (e : Int) (r : List Int) (pre : List Int) (h : ns = pre ++ e :: r) (hi : pre.length = i) : (enuL (ns.map .int)).drop i = .tuple [.int i, .int e] :: (enuL (ns.map .int)).drop (i + 1) := by
  have hg : (ns.map PyData.int)[i]? = some (.int e) := by
    rw [h, ← hi, List.map_append, List.getElem?_append_right (by rw [List.length_map]; exact Nat.le_refl _)]
    simp
  have := enu_get hg
  obtain ⟨hlt, he⟩ := List.getElem?_eq_some_iff.mp this
  rw [List.drop_eq_getElem_cons hlt, he]
theorem ln_loop (Φ : Nat → Fn) (ns : List Int) (hs : ns.sum ≤ 200) (hp : ∀ n ∈ ns, 1 ≤ n) : ∀ (r pre : List Int) (P : Int) (v2 v3 v4 : Sl), ns = pre ++ r → r ≠ [] → 0 ≤ P → ∃ w2 w3 w4, fLoop (.tup (.cons (.loc 2) (.cons (.loc 3) .nil))) (dS Φ b9_1) ((enuL (ns.map .int)).drop pre.length) [.fz (rowD ns), .fz (.int (2 * P)), v2, v3, v4] = .ok (.nx [.fz (rowD ns), .fz (.int (numA P r)), w2, w3, w4])
  | [], pre, P, v2, v3, v4, _, h, _ => absurd rfl h
  | e :: r, pre, P, v2, v3, v4, h, _, h0 => by
    have hm : e ∈ ns := by rw [h]; simp
    have he := hp e hm
    have h1 := le_sum ns hp e hm
    have len := len_row ns
    obtain ⟨w, g⟩ := ln_body Φ (rowD ns) (ns.length : Nat) (pre.length : Nat) (2 * P) e he (by omega) (by omega) len v4
    rw [enu_cut ns pre.length e r pre h rfl]
    have nx : 2 * P * 2 ^ (e - 1).toNat + 2 ^ (e - 1).toNat - 1 = P * 2 ^ e.toNat + 2 ^ (e - 1).toNat - 1 := by
      rw [show e.toNat = (e - 1).toNat + 1 by omega, Int.pow_succ]
      generalize (2 : Int) ^ (e - 1).toNat = x
      rw [Int.mul_comm 2 P, Int.mul_assoc, Int.mul_comm 2 x]
    rw [nx] at g
    have hN : numA P (e :: r) = numA (P * 2 ^ e.toNat + 2 ^ (e - 1).toNat - 1) r := rfl
    have n0 : 0 ≤ P * 2 ^ e.toNat + 2 ^ (e - 1).toNat - 1 := by
      have := pow_pos2 (e - 1).toNat
      have := Int.mul_nonneg h0 (show (0 : Int) ≤ 2 ^ e.toNat by have := pow_pos2 e.toNat; omega)
      omega
    rw [hN]
    generalize P * 2 ^ e.toNat + 2 ^ (e - 1).toNat - 1 = Q at *
    have hlen : ns.length = pre.length + (r.length + 1) := by rw [h, List.length_append, List.length_cons]
    have bd : bindT (.tup (.cons (.loc 2) (.cons (.loc 3) .nil))) (.tuple [.int (pre.length : Nat), .int e]) [.fz (rowD ns), .fz (.int (2 * P)), v2, v3, v4] = some [.fz (rowD ns), .fz (.int (2 * P)), .fz (.int (pre.length : Nat)), .fz (.int e), v4] := rfl
    cases r with
    | nil =>
      rw [if_neg (by rw [hlen]; simp)] at g
      have hd : (enuL (ns.map PyData.int)).drop (pre.length + 1) = [] := List.drop_eq_nil_of_le (by rw [enu_len, List.length_map, hlen]; simp)
      rw [hd]
      exact ⟨.fz (.int (pre.length : Nat)), .fz (.int e), w, fl_step bd g⟩
    | cons y ys =>
      rw [if_pos (by rw [hlen, List.length_cons]; omega)] at g
      obtain ⟨w2, w3, w4, q⟩ := ln_loop Φ ns hs hp (y :: ys) (pre ++ [e]) Q (.fz (.int (pre.length : Nat))) (.fz (.int e)) w (by rw [h, List.append_assoc]; rfl) (by simp) n0
      refine ⟨w2, w3, w4, ?_⟩
      rw [List.length_append, List.length_singleton] at q
      exact (fl_step bd g).trans q
theorem o9 : RnumOk f9 := by
  intro ns h0 hp hs
  obtain ⟨w2, w3, w4, lp⟩ := ln_loop (phi tb9) ns hs hp ns [] 0 .un .un .un rfl h0 (by decide)
  have en : enuD (rowD ns) = some (.list (enuL (ns.map .int))) := rfl
  have hq : seqD (.list (enuL (ns.map PyData.int))) = some (enuL (ns.map .int)) := rfl
  rw [List.length_nil, List.drop_zero, Int.mul_zero] at lp
  generalize enuL (ns.map PyData.int) = P at *
  generalize numA 0 ns = N at *
  generalize rowD ns = D at *
  simp [f9, mkFn, runB, c9, ps9, N9, P9, dS, dE, dA, un1, un2, opnd, loc?, owned?, Res.bind, Res.of, Arg.view, Sl.dat, Sl.item, blD, bo, tyD, istyD, excD, q_lt, q_le, q_gt, q_ge, q_eq, q_ne, q_add, q_sub, q_shift, b_max, b_min, isiD, isiT, b_lent, b_lenl, b_tupl, b_tupt, b_lstl, b_lstt, b_suml, b_sumt, stE, itR, itemsOf, argsOf, callOf, slotsOf, putBack, fitL, line, en, hq, lp, outs, outS]
/-! _law_row_of -/
theorem ro_step (Φ : Nat → Fn) (v0 v3 : Sl) (s j : Nat) (hj : j ≤ 1000) : dS Φ b12_0 [v0, .fz (.int ((s / 2 ^ j : Nat) : Int)), .ol ((R (bits j s)).map .int), v3] = .ok (.nx [v0, .fz (.int ((s / 2 ^ (j + 1) : Nat) : Int)), .ol ((R (bits (j + 1) s)).map .int), v3]) := by
  have e : ((s / 2 ^ j : Nat) : Int) / 2 = ((s / 2 ^ (j + 1) : Nat) : Int) := by rw [Nat.pow_succ, ← Nat.div_div_eq_div_mul]; omega
  have m : ((s / 2 ^ j : Nat) : Int) % 2 = ((s / 2 ^ j % 2 : Nat) : Int) := by omega
  have hb : bits (j + 1) s = decide ((s / 2 ^ j) % 2 = 1) :: bits j s := rfl
  have md := q_mod ((s / 2 ^ j : Nat) : Int) 2 (by decide)
  have dv := q_div ((s / 2 ^ j : Nat) : Int) 2 (by decide) (by decide)
  rw [e] at dv
  rw [m] at md
  have hm := Nat.mod_lt (s / 2 ^ j) (show 0 < 2 by decide)
  rw [hb]
  have hne := R_ne (bits j s)
  have hlen := R_len (bits j s)
  rw [bits_len] at hlen
  generalize s / 2 ^ j % 2 = q at *
  generalize ((s / 2 ^ (j + 1) : Nat) : Int) = u at *
  generalize ((s / 2 ^ j : Nat) : Int) = w at *
  generalize bits j s = B at *
  have h2 : q = 0 ∨ q = 1 := by omega
  rcases h2 with rfl | rfl
  · have hR : R (decide (0 = 1) :: B) = 1 :: R B := rfl
    have hc := q_cat [PyData.int 1] ((R B).map .int) (by rw [List.length_map]; simp; omega)
    rw [hR, List.map_cons]
    generalize (R B).map PyData.int = Z at *
    simp [b12_0, dS, dE, dA, un1, un2, opnd, loc?, owned?, Res.bind, Res.of, Arg.view, Sl.dat, Sl.item, blD, bo, tyD, istyD, excD, q_lt, q_le, q_gt, q_ge, q_eq, q_ne, q_add, q_sub, q_shift, b_max, b_min, isiD, isiT, b_lent, b_lenl, b_tupl, b_tupt, b_lstl, b_lstt, b_suml, b_sumt, stE, itR, itemsOf, argsOf, callOf, slotsOf, putBack, fitL, line, md, dv, hc]
  · have hR : R (decide (1 = 1) :: B) = incR (R B) := rfl
    rw [hR]
    cases hB : R B with
    | nil => exact absurd hB hne
    | cons x r =>
      have i0 : ∀ (x : Int) (Z : List PyData), ixD (.list (.int x :: Z)) (.int 0) = some (.int x) := fun x Z => (show atI (PyData.int x :: Z) ((0 : Nat) : Int) = _ from atI_nat (j := 0) rfl)
      have n0 : ∀ n : Nat, ixN (n + 1) 0 = some 0 := fun n => by unfold ixN; simp
      show _ = Res.ok (Fl.nx [v0, .fz (.int u), .ol (((x + 1) :: r : List Int).map .int), v3])
      rw [List.map_cons, List.map_cons]
      generalize r.map PyData.int = Z at *
      simp [b12_0, dS, dE, dA, un1, un2, opnd, loc?, owned?, Res.bind, Res.of, Arg.view, Sl.dat, Sl.item, blD, bo, tyD, istyD, excD, q_lt, q_le, q_gt, q_ge, q_eq, q_ne, q_add, q_sub, q_shift, b_max, b_min, isiD, isiT, b_lent, b_lenl, b_tupl, b_tupt, b_lstl, b_lstt, b_suml, b_sumt, stE, itR, itemsOf, argsOf, callOf, slotsOf, putBack, fitL, line, md, dv, i0, n0, olD, intS]
theorem ro_loop (Φ : Nat → Fn) (v0 : Sl) (s : Nat) : ∀ (k j : Nat) (v3 : Sl), j + k ≤ 1000 → ∃ w, fLoop (.loc 3) (dS Φ b12_0) (rngL (j : Nat) k) [v0, .fz (.int ((s / 2 ^ j : Nat) : Int)), .ol ((R (bits j s)).map .int), v3] = .ok (.nx [v0, .fz (.int ((s / 2 ^ (j + k) : Nat) : Int)), .ol ((R (bits (j + k) s)).map .int), w])
  | 0, j, v3, _ => ⟨v3, rfl⟩
  | k + 1, j, v3, h => by
    obtain ⟨w, g⟩ := ro_loop Φ v0 s k (j + 1) (.fz (.int (j : Nat))) (by omega)
    refine ⟨w, ?_⟩
    rw [rng_succ]
    have st := ro_step Φ v0 (.fz (.int (j : Nat))) s j (by omega)
    rw [show j + (k + 1) = j + 1 + k by omega]
    exact (fl_step rfl st).trans g
theorem o12 : NthOk f12 := by
  intro n s h0 h1
  obtain ⟨w, lp⟩ := ro_loop (phi tb12) (.fz (.int (n + 1))) s n 0 .un (by omega)
  rw [Nat.zero_add] at lp
  have e : ((n : Int) + 1) - 1 = n := by omega
  have ir : inR ((n : Nat) : Int) = true := decide_eq_true (by omega)
  have hq : seqD (.list (rngL 0 n)) = some (rngL 0 n) := rfl
  have z1 : s / 2 ^ 0 = s := by simp
  have z2 : R (bits 0 s) = [1] := rfl
  have z3 : ((0 : Nat) : Int) = 0 := rfl
  rw [z1, z2, z3, List.map_cons, List.map_nil] at lp
  unfold rowD
  generalize (R (bits n s)).map PyData.int = Z at *
  generalize ((s / 2 ^ n : Nat) : Int) = u at *
  have ki : ∀ t : Int, t - 1 = (n : Nat) → (mkFn P12 ps12.length (N12.length - ps12.length) (dS (phi tb12) c12)).run [.fz (.int t), .fz (.int s)] = .ok (.fz (.tuple Z), [.fz (.int t), .fz (.int s)]) ∨ t ≠ n + 1 := by
    intro t ht
    by_cases hz : t = n + 1
    · subst hz
      left
      have tn : ((n : Nat) : Int).toNat = n := rfl
      simp [mkFn, runB, c12, ps12, N12, P12, dS, dE, dA, un1, un2, opnd, loc?, owned?, Res.bind, Res.of, Arg.view, Sl.dat, Sl.item, blD, bo, tyD, istyD, excD, q_lt, q_le, q_gt, q_ge, q_eq, q_ne, q_add, q_sub, q_shift, b_max, b_min, isiD, isiT, b_lent, b_lenl, b_tupl, b_tupt, b_lstl, b_lstt, b_suml, b_sumt, stE, itR, itemsOf, argsOf, callOf, slotsOf, putBack, fitL, line, ir, hq, lp, outs, outS, List.range, List.range.loop]
    · exact .inr hz
  rcases ki ((n : Int) + 1) e with h | h
  · exact h
  · exact absurd rfl h
end K30
set_option maxHeartbeats 1000000
set_option exponentiation.threshold 4000
namespace K30
open PySem PySem.Spec PyProof.Rows L2 Vl Rm Gd Bn
/-! _law_right -/
def t13_0 : CS :=
 (.asg (.loc 9) (.call 5 (.cons (.loc 7) (.cons (.loc 3) .nil))))
def t13_1 : CS :=
 (.ite (.or (.cmp .ne (.b1 .rep (.loc 9)) (.b1 .rep (.call 12 (.cons (.loc 7) (.cons (.loc 3) .nil))))) (.cmp .ne (.call 8 (.cons (.loc 9) .nil)) (.loc 3)))
 (.seq (.ret (.bl false))
 .nil)
 .nil)
def t13_2 : CS :=
 (.ite (.and (.isn true (.loc 4)) (.cmp .ne (.cmp .lt (.ix (.loc 4) (.int 1)) (.loc 9)) (.cmp .lt (.ix (.loc 4) (.int 0)) (.loc 3))))
 (.seq (.ret (.bl false))
 .nil)
 .nil)
def t13_3 : CS :=
 (.asg (.loc 4) (.tup (.cons (.loc 3) (.cons (.loc 9) .nil))))
theorem b13_0_eq : b13_0 = .seq t13_0 (.seq t13_1 (.seq t13_2 (.seq t13_3 (.nil)))) := rfl
def s13_0 : CS :=
 (.par [8, 7, 6] (.cons (.b1 .rep (.loc 1)) (.cons (.b1 .sum (.loc 1)) (.cons (.int 1) .nil))))
def s13_1 : CS :=
 (.fr (.loc 2) (.rng1 (.bin .sub (.loc 7) (.int 1))) b13_1)
def s13_2 : CS :=
 (.ite (.cmp .ne (.b1 .rep (.lst (.cons (.call 11 (.cons (.loc 7) .nil)) (.cons (.call 8 (.cons (.loc 1) .nil)) .nil)))) (.b1 .rep (.lst (.cons (.loc 8) (.cons (.call 9 (.cons (.loc 1) .nil)) .nil)))))
 (.seq (.ret (.bl false))
 .nil)
 .nil)
def s13_3 : CS :=
 (.asg (.loc 3) (.call 9 (.cons (.loc 1) .nil)))
def s13_4 : CS :=
 (.ite (.cmp .ne (.b1 .rep (.lst (.cons (.call 5 (.cons (.loc 7) (.cons (.loc 3) .nil))) (.cons (.call 8 (.cons (.loc 1) .nil)) .nil)))) (.b1 .rep (.lst (.cons (.loc 1) (.cons (.loc 3) .nil)))))
 (.seq (.ret (.bl false))
 .nil)
 .nil)
def s13_5 : CS :=
 (.asg (.loc 4) .non)
def s13_6 : CS :=
 (.asg (.loc 5) (.call 10 (.consO (.loc 0) (.cons (.loc 8) .nil))))
def s13_7 : CS :=
 (.fr (.loc 3) (.b1 .sorted (.lst (.cons (.int 0) (.cons (.bin .sub (.loc 8) (.int 1)) (.cons (.loc 5) (.cons (.b2 .min (.bin .sub (.loc 8) (.int 1)) (.bin .add (.loc 5) (.int 1))) (.cons (.call 10 (.consO (.loc 0) (.cons (.loc 8) .nil))) .nil))))))) b13_0)
def s13_8 : CS :=
 (.ret (.cmp .eq (.b1 .rep (.loc 1)) (.loc 6)))
theorem c13_eq : c13 = .seq s13_0 (.seq s13_1 (.seq s13_2 (.seq s13_3 (.seq s13_4 (.seq s13_5 (.seq s13_6 (.seq s13_7 (.seq s13_8 (.nil))))))))) := rfl
theorem eq_same (x : Str) : cmpD .eq (.str x) (.str x) = some true := by
  have h := ne_same x
  replace h : (eqD (.str x) (.str x)).map (!·) = some false := h
  show eqD (.str x) (.str x) = some true
  cases e : eqD (.str x) (.str x) with
  | none => rw [e] at h; cases h
  | some b => rw [e] at h; cases b <;> first | rfl | cases h
theorem ne_bb (b : Bool) : cmpD .ne (.bool b) (.bool b) = some false := by cases b <;> decide +kernel
def row (n s : Nat) : PyData := rowD (R (bits n s))
theorem row_GL {n s : Nat} (hn : n ≤ 199) : GL (rle (R (bits n s))) := GL.of (R_ne _) (R_pos _) (by rw [R_sum, bits_len]; omega)
theorem row_rep {n s : Nat} (hn : n ≤ 199) : RepGood (row n s) := by
  have := rep_row (row_GL (s := s) hn)
  rw [rw_rle] at this
  exact this
theorem row_num (n s : Nat) (hs : s < 2 ^ n) : numA 0 (R (bits n s)) = s := by rw [num_R, val_bits n s hs]
theorem lt_rows (n s t : Nat) (hs : s < 2 ^ n) (ht : t < 2 ^ n) : cmpD .lt (row n s) (row n t) = some (decide (s < t)) := by
  show (intsD ((R (bits n s)).map .int)).bind (fun x => (intsD ((R (bits n t)).map .int)).map fun y => HT.lexLt x y) = _
  rw [ints_of, ints_of]
  show some (HT.lexLt (R (bits n s)) (R (bits n t))) = _
  rw [lex_R _ _ (by rw [bits_len, bits_len]), val_bits n s hs, val_bits n t ht]
def LastOk (n : Nat) (d : PyData) : Prop := d = .none ∨ ∃ s, s < 2 ^ n ∧ d = .tuple [.int (s : Nat), row n s]
section
variable (Φ : Nat → Fn)
theorem tt0 (v0 v1 v2 v4 v5 v6 v8 v9 : Sl) {t s : Int} {D : PyData} (r : (Φ 5).run [.fz (.int t), .fz (.int s)] = .ok (.fz D, [.fz (.int t), .fz (.int s)])) :
    dS Φ t13_0 [v0, v1, v2, .fz (.int s), v4, v5, v6, .fz (.int t), v8, v9] = .ok (.nx [v0, v1, v2, .fz (.int s), v4, v5, v6, .fz (.int t), v8, .fz D]) := by
  simp [t13_0, dS, dE, dA, un1, un2, opnd, loc?, owned?, Res.bind, Res.of, Arg.view, Sl.dat, Sl.item, blD, bo, tyD, istyD, excD, q_lt, q_le, q_gt, q_ge, q_eq, q_ne, q_add, q_sub, q_shift, b_max, b_min, isiD, isiT, b_lent, b_lenl, b_tupl, b_tupt, b_lstl, b_lstt, b_suml, b_sumt, stE, itR, itemsOf, argsOf, callOf, slotsOf, putBack, fitL, line, r]
theorem tt1 (v0 v1 v2 v4 v5 v6 v8 : Sl) {t s : Int} {D : PyData} (r : (Φ 12).run [.fz (.int t), .fz (.int s)] = .ok (.fz D, [.fz (.int t), .fz (.int s)])) (r2 : (Φ 8).run [.fz D] = .ok (.fz (.int s), [.fz D])) (hr : RepGood D) :
    dS Φ t13_1 [v0, v1, v2, .fz (.int s), v4, v5, v6, .fz (.int t), v8, .fz D] = .ok (.nx [v0, v1, v2, .fz (.int s), v4, v5, v6, .fz (.int t), v8, .fz D]) := by
  have hr : b1D .rep D = _ := hr
  have ns := ne_same D.shown
  simp [t13_1, dS, dE, dA, un1, un2, opnd, loc?, owned?, Res.bind, Res.of, Arg.view, Sl.dat, Sl.item, blD, bo, tyD, istyD, excD, q_lt, q_le, q_gt, q_ge, q_eq, q_ne, q_add, q_sub, q_shift, b_max, b_min, isiD, isiT, b_lent, b_lenl, b_tupl, b_tupt, b_lstl, b_lstt, b_suml, b_sumt, stE, itR, itemsOf, argsOf, callOf, slotsOf, putBack, fitL, line, r, r2, hr, ns]
theorem tt2 (v0 v1 v2 v5 v6 v7 v8 : Sl) {s : Int} {D L : PyData} (h : L = .none ∨ ∃ (s0 : Int) (D0 : PyData) (b : Bool), L = .tuple [.int s0, D0] ∧ cmpD .lt D0 D = some b ∧ decide (s0 < s) = b) :
    dS Φ t13_2 [v0, v1, v2, .fz (.int s), .fz L, v5, v6, v7, v8, .fz D] = .ok (.nx [v0, v1, v2, .fz (.int s), .fz L, v5, v6, v7, v8, .fz D]) := by
  rcases h with rfl | ⟨s0, D0, b, rfl, h1, h2⟩
  · simp [t13_2, dS, dE, dA, un1, un2, opnd, loc?, owned?, Res.bind, Res.of, Arg.view, Sl.dat, Sl.item, blD, bo, tyD, istyD, excD, q_lt, q_le, q_gt, q_ge, q_eq, q_ne, q_add, q_sub, q_shift, b_max, b_min, isiD, isiT, b_lent, b_lenl, b_tupl, b_tupt, b_lstl, b_lstt, b_suml, b_sumt, stE, itR, itemsOf, argsOf, callOf, slotsOf, putBack, fitL, line]
  · have i0 : ixD (.tuple [.int s0, D0]) (.int 0) = some (.int s0) := rfl
    have i1 : ixD (.tuple [.int s0, D0]) (.int 1) = some D0 := rfl
    have l2 : cmpD .lt (.int s0) (.int s) = some b := by rw [← h2]; rfl
    have nb := ne_bb b
    simp [t13_2, dS, dE, dA, un1, un2, opnd, loc?, owned?, Res.bind, Res.of, Arg.view, Sl.dat, Sl.item, blD, bo, i0, i1, h1, l2, nb]
theorem tt3 (v0 v1 v2 v4 v5 v6 v7 v8 : Sl) {s : Int} {D : PyData} : dS Φ t13_3 [v0, v1, v2, .fz (.int s), v4, v5, v6, v7, v8, .fz D] = .ok (.nx [v0, v1, v2, .fz (.int s), .fz (.tuple [.int s, D]), v5, v6, v7, v8, .fz D]) := by
  simp [t13_3, dS, dE, dA, un1, un2, opnd, loc?, owned?, Res.bind, Res.of, Arg.view, Sl.dat, Sl.item, blD, bo, tyD, istyD, excD, q_lt, q_le, q_gt, q_ge, q_eq, q_ne, q_add, q_sub, q_shift, b_max, b_min, isiD, isiT, b_lent, b_lenl, b_tupl, b_tupt, b_lstl, b_lstt, b_suml, b_sumt, stE, itR, itemsOf, argsOf, callOf, slotsOf, putBack, fitL, line]
end
theorem body13 {n s : Nat} (hn : n ≤ 199) (hs : s < 2 ^ n) (v0 v1 v2 v5 v6 v8 v9 : Sl) (L : PyData) (hL : LastOk n L) : ∃ w9, dS (phi tb13) b13_0 [v0, v1, v2, .fz (.int (s : Nat)), .fz L, v5, v6, .fz (.int (n + 1)), v8, v9] =
    .ok (.nx [v0, v1, v2, .fz (.int (s : Nat)), .fz (.tuple [.int (s : Nat), row n s]), v5, v6, .fz (.int (n + 1)), v8, w9]) := by
  have r5 : (phi tb13 5).run [.fz (.int (n + 1)), .fz (.int (s : Nat))] = .ok (.fz (row n s), [.fz (.int (n + 1)), .fz (.int (s : Nat))]) := o5 n s hn hs
  have r12 : (phi tb13 12).run [.fz (.int (n + 1)), .fz (.int (s : Nat))] = .ok (.fz (row n s), [.fz (.int (n + 1)), .fz (.int (s : Nat))]) := o12 n s hn hs
  have r8 : (phi tb13 8).run [.fz (row n s)] = .ok (.fz (.int (s : Nat)), [.fz (row n s)]) := by
    have := o8 (R (bits n s)) (R_ne _) (R_pos _) (by rw [R_sum, bits_len]; omega)
    rw [row_num n s hs] at this
    exact this
  have hr := row_rep (s := s) hn
  refine ⟨.fz (row n s), ?_⟩
  rw [b13_0_eq]
  refine seq_ok (tt0 _ _ _ _ _ _ _ _ _ r5) (seq_ok (tt1 _ _ _ _ _ _ _ _ r12 r8 hr) (seq_ok (tt2 _ _ _ _ _ _ _ _ ?_) (seq_ok (tt3 _ _ _ _ _ _ _ _ _) rfl)))
  rcases hL with h | ⟨s0, h0, h⟩
  · exact .inl h
  · refine .inr ⟨s0, row n s0, _, h, lt_rows n s0 s h0 hs, ?_⟩
    by_cases z : s0 < s
    · rw [decide_eq_true z, decide_eq_true (by omega)]
    · rw [decide_eq_false z, decide_eq_false (by omega)]
theorem loop13 {n : Nat} (hn : n ≤ 199) (v0 v1 v2 v5 v6 v8 : Sl) : ∀ (ss : List Int) (v3 v9 : Sl) (L : PyData), (∀ x ∈ ss, 0 ≤ x ∧ x < 2 ^ n) → LastOk n L → ∃ w3 w4 w9, fLoop (.loc 3) (dS (phi tb13) b13_0) (ss.map .int) [v0, v1, v2, v3, .fz L, v5, v6, .fz (.int (n + 1)), v8, v9] = .ok (.nx [v0, v1, v2, w3, w4, v5, v6, .fz (.int (n + 1)), v8, w9])
  | [], v3, v9, L, _, _ => ⟨v3, _, v9, rfl⟩
  | x :: r, v3, v9, L, hx, hL => by
    obtain ⟨h0, h1⟩ := hx x List.mem_cons_self
    obtain ⟨s, rfl⟩ := Int.eq_ofNat_of_zero_le h0
    have hs : s < 2 ^ n := by
      have e : ((2 ^ n : Nat) : Int) = (2 : Int) ^ n := Int.natCast_pow 2 n
      omega
    obtain ⟨w9, st⟩ := body13 hn hs v0 v1 v2 v5 v6 v8 v9 L hL
    obtain ⟨w3, w4, u9, g⟩ := loop13 hn v0 v1 v2 v5 v6 v8 r (.fz (.int (s : Nat))) w9 _ (fun y hy => hx y (List.mem_cons_of_mem _ hy)) (.inr ⟨s, hs, rfl⟩)
    exact ⟨w3, w4, u9, (fl_step rfl st).trans g⟩
theorem mem_ins (x y : Int) : ∀ l : List Int, y ∈ insI x l ↔ y = x ∨ y ∈ l
  | [] => by simp [insI]
  | z :: r => by
    unfold insI
    split
    · simp
    · simp [mem_ins x y r]
      constructor
      · rintro (h | h | h) <;> simp [h]
      · rintro (h | h | h) <;> simp [h]
theorem mem_srt (y : Int) : ∀ l : List Int, y ∈ srtI l ↔ y ∈ l
  | [] => by simp [srtI]
  | x :: r => by
    show y ∈ insI x (srtI r) ↔ _
    rw [mem_ins, mem_srt y r]
    simp
/-! the power -/
theorem pw_loop (Φ : Nat → Fn) (v0 v1 v3 v4 v5 v6 v7 v9 : Sl) : ∀ (k : Nat) (lo p : Int) (v2 : Sl), ∃ w, fLoop (.loc 2) (dS Φ b13_1) (rngL lo k) [v0, v1, v2, v3, v4, v5, v6, v7, .fz (.int p), v9] = .ok (.nx [v0, v1, w, v3, v4, v5, v6, v7, .fz (.int (p * 2 ^ k)), v9])
  | 0, lo, p, v2 => ⟨v2, by rw [Int.pow_zero, Int.mul_one]; rfl⟩
  | k + 1, lo, p, v2 => by
    obtain ⟨w, g⟩ := pw_loop Φ v0 v1 v3 v4 v5 v6 v7 v9 k (lo + 1) (2 * p) (.fz (.int lo))
    refine ⟨w, ?_⟩
    rw [rng_succ]
    have ml := q_mul 2 p (by decide)
    have st : dS Φ b13_1 [v0, v1, .fz (.int lo), v3, v4, v5, v6, v7, .fz (.int p), v9] = .ok (.nx [v0, v1, .fz (.int lo), v3, v4, v5, v6, v7, .fz (.int (2 * p)), v9]) := by
      simp [b13_1, dS, dE, dA, un1, un2, opnd, loc?, owned?, Res.bind, Res.of, Arg.view, Sl.dat, Sl.item, blD, bo, tyD, istyD, excD, q_lt, q_le, q_gt, q_ge, q_eq, q_ne, q_add, q_sub, q_shift, b_max, b_min, isiD, isiT, b_lent, b_lenl, b_tupl, b_tupt, b_lstl, b_lstt, b_suml, b_sumt, stE, itR, itemsOf, argsOf, callOf, slotsOf, putBack, fitL, line, ml]
    refine (fl_step rfl st).trans (g.trans ?_)
    rw [Int.pow_succ, Int.mul_comm 2 p, Int.mul_assoc, Int.mul_comm 2]
section
variable (Φ : Nat → Fn)
theorem ss0 (v0 v2 v3 v4 v5 v6 v7 v8 v9 : Sl) {D : PyData} {S : Int} (hr : RepGood D) (hs : b1D .sum D = some (.fz (.int S))) : dS Φ s13_0 [v0, .fz D, v2, v3, v4, v5, v6, v7, v8, v9] = .ok (.nx [v0, .fz D, v2, v3, v4, v5, .fz (.str D.shown), .fz (.int S), .fz (.int 1), v9]) := by
  have hr : b1D .rep D = _ := hr
  simp [s13_0, dS, dE, dA, un1, un2, opnd, loc?, owned?, Res.bind, Res.of, Arg.view, Sl.dat, Sl.item, blD, bo, tyD, istyD, excD, q_lt, q_le, q_gt, q_ge, q_eq, q_ne, q_add, q_sub, q_shift, b_max, b_min, isiD, isiT, b_lent, b_lenl, b_tupl, b_tupt, b_lstl, b_lstt, b_suml, b_sumt, stE, itR, itemsOf, argsOf, callOf, slotsOf, putBack, fitL, line, hr, hs, setAll]
theorem ss1 (v0 v1 v2 v3 v4 v5 v6 v9 : Sl) (n : Nat) (hn : n ≤ 199) : ∃ w, dS Φ s13_1 [v0, v1, v2, v3, v4, v5, v6, .fz (.int (n + 1)), .fz (.int 1), v9] = .ok (.nx [v0, v1, w, v3, v4, v5, v6, .fz (.int (n + 1)), .fz (.int (2 ^ n)), v9]) := by
  obtain ⟨w, g⟩ := pw_loop Φ v0 v1 v3 v4 v5 v6 (.fz (.int (n + 1))) v9 n 0 1 v2
  rw [Int.one_mul] at g
  refine ⟨w, ?_⟩
  have e : ((n : Int) + 1) - 1 = n := by omega
  have ir : inR ((n : Nat) : Int) = true := decide_eq_true (by omega)
  have hq : seqD (.list (rngL 0 n)) = some (rngL 0 n) := rfl
  generalize (2 : Int) ^ n = pw at *
  generalize (n : Int) + 1 = t at *
  simp [s13_1, dS, dE, dA, un1, un2, opnd, loc?, owned?, Res.bind, Res.of, Arg.view, Sl.dat, Sl.item, blD, bo, tyD, istyD, excD, q_lt, q_le, q_gt, q_ge, q_eq, q_ne, q_add, q_sub, q_shift, b_max, b_min, isiD, isiT, b_lent, b_lenl, b_tupl, b_tupt, b_lstl, b_lstt, b_suml, b_sumt, stE, itR, itemsOf, argsOf, callOf, slotsOf, putBack, fitL, line, e, ir, hq, g]
theorem ss2 (v0 v2 v3 v4 v5 v6 v9 : Sl) {D : PyData} {t P N : Int} (r11 : (Φ 11).run [.fz (.int t)] = .ok (.fz (.int P), [.fz (.int t)])) (r8 : (Φ 8).run [.fz D] = .ok (.fz (.int N), [.fz D])) (r9 : (Φ 9).run [.fz D] = .ok (.fz (.int N), [.fz D])) (hr : RepGood (.list [.int P, .int N])) :
    dS Φ s13_2 [v0, .fz D, v2, v3, v4, v5, v6, .fz (.int t), .fz (.int P), v9] = .ok (.nx [v0, .fz D, v2, v3, v4, v5, v6, .fz (.int t), .fz (.int P), v9]) := by
  have hr : b1D .rep (.list [.int P, .int N]) = _ := hr
  have ns := ne_same (PyData.shown (.list [.int P, .int N]))
  simp [s13_2, dS, dE, dA, un1, un2, opnd, loc?, owned?, Res.bind, Res.of, Arg.view, Sl.dat, Sl.item, blD, bo, tyD, istyD, excD, q_lt, q_le, q_gt, q_ge, q_eq, q_ne, q_add, q_sub, q_shift, b_max, b_min, isiD, isiT, b_lent, b_lenl, b_tupl, b_tupt, b_lstl, b_lstt, b_suml, b_sumt, stE, itR, itemsOf, argsOf, callOf, slotsOf, putBack, fitL, line, r11, r8, r9, hr, ns]
theorem ss3 (v0 v2 v3 v4 v5 v6 v7 v8 v9 : Sl) {D : PyData} {N : Int} (r9 : (Φ 9).run [.fz D] = .ok (.fz (.int N), [.fz D])) :
    dS Φ s13_3 [v0, .fz D, v2, v3, v4, v5, v6, v7, v8, v9] = .ok (.nx [v0, .fz D, v2, .fz (.int N), v4, v5, v6, v7, v8, v9]) := by
  simp [s13_3, dS, dE, dA, un1, un2, opnd, loc?, owned?, Res.bind, Res.of, Arg.view, Sl.dat, Sl.item, blD, bo, tyD, istyD, excD, q_lt, q_le, q_gt, q_ge, q_eq, q_ne, q_add, q_sub, q_shift, b_max, b_min, isiD, isiT, b_lent, b_lenl, b_tupl, b_tupt, b_lstl, b_lstt, b_suml, b_sumt, stE, itR, itemsOf, argsOf, callOf, slotsOf, putBack, fitL, line, r9]
theorem ss4 (v0 v2 v4 v5 v6 v8 v9 : Sl) {D : PyData} {t N : Int} (r5 : (Φ 5).run [.fz (.int t), .fz (.int N)] = .ok (.fz D, [.fz (.int t), .fz (.int N)])) (r8 : (Φ 8).run [.fz D] = .ok (.fz (.int N), [.fz D])) (hr : RepGood (.list [D, .int N])) :
    dS Φ s13_4 [v0, .fz D, v2, .fz (.int N), v4, v5, v6, .fz (.int t), v8, v9] = .ok (.nx [v0, .fz D, v2, .fz (.int N), v4, v5, v6, .fz (.int t), v8, v9]) := by
  have hr : b1D .rep (.list [D, .int N]) = _ := hr
  have ns := ne_same (PyData.shown (.list [D, .int N]))
  simp [s13_4, dS, dE, dA, un1, un2, opnd, loc?, owned?, Res.bind, Res.of, Arg.view, Sl.dat, Sl.item, blD, bo, tyD, istyD, excD, q_lt, q_le, q_gt, q_ge, q_eq, q_ne, q_add, q_sub, q_shift, b_max, b_min, isiD, isiT, b_lent, b_lenl, b_tupl, b_tupt, b_lstl, b_lstt, b_suml, b_sumt, stE, itR, itemsOf, argsOf, callOf, slotsOf, putBack, fitL, line, r5, r8, hr, ns]
theorem ss6 (v1 v2 v3 v4 v5 v6 v7 v9 : Sl) {a b c a1 c1 P g : Int} (r : (Φ 10).run [.ol (bagD a b c), .fz (.int P)] = .ok (.fz (.int g), [.ol (bagD a1 b c1), .fz (.int P)])) :
    dS Φ s13_6 [.ol (bagD a b c), v1, v2, v3, v4, v5, v6, v7, .fz (.int P), v9] = .ok (.nx [.ol (bagD a1 b c1), v1, v2, v3, v4, .fz (.int g), v6, v7, .fz (.int P), v9]) := by
  unfold bagD at *
  simp [s13_6, dS, dE, dA, un1, un2, opnd, loc?, owned?, Res.bind, Res.of, Arg.view, Sl.dat, Sl.item, blD, bo, tyD, istyD, excD, q_lt, q_le, q_gt, q_ge, q_eq, q_ne, q_add, q_sub, q_shift, b_max, b_min, isiD, isiT, b_lent, b_lenl, b_tupl, b_tupt, b_lstl, b_lstt, b_suml, b_sumt, stE, itR, itemsOf, argsOf, callOf, slotsOf, putBack, fitL, line, r]
theorem ss8 (v0 v2 v3 v4 v5 v7 v8 v9 : Sl) {D : PyData} (hr : RepGood D) : ∃ e, dS Φ s13_8 [v0, .fz D, v2, v3, v4, v5, .fz (.str D.shown), v7, v8, v9] = .ok (.rt (.fz (.bool true)) e) ∧ e[0]? = some v0 := by
  have hr : b1D .rep D = _ := hr
  have es := eq_same D.shown
  refine ⟨[v0, .fz D, v2, v3, v4, v5, .fz (.str D.shown), v7, v8, v9], ?_, rfl⟩
  simp [s13_8, dS, dE, dA, un1, un2, opnd, loc?, owned?, Res.bind, Res.of, Arg.view, Sl.dat, Sl.item, blD, bo, tyD, istyD, excD, q_lt, q_le, q_gt, q_ge, q_eq, q_ne, q_add, q_sub, q_shift, b_max, b_min, isiD, isiT, b_lent, b_lenl, b_tupl, b_tupt, b_lstl, b_lstt, b_suml, b_sumt, stE, itR, itemsOf, argsOf, callOf, slotsOf, putBack, fitL, line, hr, es]
theorem ss7 (v1 v2 v3 v4 v6 v7 v9 w3 w4 w9 : Sl) {a b c a1 c1 P g h : Int} (r : (Φ 10).run [.ol (bagD a b c), .fz (.int P)] = .ok (.fz (.int h), [.ol (bagD a1 b c1), .fz (.int P)]))
    (lp : fLoop (.loc 3) (dS Φ b13_0) ((srtI [0, P - 1, g, if g + 1 < P - 1 then g + 1 else P - 1, h]).map .int) [.ol (bagD a1 b c1), v1, v2, v3, v4, .fz (.int g), v6, v7, .fz (.int P), v9] = .ok (.nx [.ol (bagD a1 b c1), v1, v2, w3, w4, .fz (.int g), v6, v7, .fz (.int P), w9])) :
    dS Φ s13_7 [.ol (bagD a b c), v1, v2, v3, v4, .fz (.int g), v6, v7, .fz (.int P), v9] = .ok (.nx [.ol (bagD a1 b c1), v1, v2, w3, w4, .fz (.int g), v6, v7, .fz (.int P), w9]) := by
  have so : b1D .sorted (.list [.int 0, .int (P - 1), .int g, .int (if g + 1 < P - 1 then g + 1 else P - 1), .int h]) = some (.ol ((srtI [0, P - 1, g, if g + 1 < P - 1 then g + 1 else P - 1, h]).map .int)) := rfl
  unfold bagD at *
  generalize srtI [0, P - 1, g, if g + 1 < P - 1 then g + 1 else P - 1, h] = Z at *
  have hq : seqD (.list (Z.map PyData.int)) = some (Z.map .int) := rfl
  generalize Z.map PyData.int = ZZ at *
  generalize hm : (if g + 1 < P - 1 then g + 1 else P - 1) = mm at so
  have bm : b2D .min (.int (P - 1)) (.int (g + 1)) = some (.fz (.int mm)) := by rw [← hm]; rfl
  simp [s13_7, dS, dE, dA, un1, un2, opnd, loc?, owned?, Res.bind, Res.of, Arg.view, Sl.dat, Sl.item, q_add, q_sub, stE, itR, itemsOf, argsOf, callOf, slotsOf, putBack, fitL, line, bm, r, so, hq, lp]
end
theorem right_ok (a b c : Int) (ns : List Int) (pn : JarN b c) (hc : c ≤ 980000000) (h0 : ns ≠ []) (hp : ∀ n ∈ ns, 1 ≤ n) (hs : ns.sum ≤ 200) : ∃ a' c', f13.run [.ol (bagD a b c), .fz (rowD ns)] = .ok (.fz (.bool true), [.ol (bagD a' b c'), .fz (rowD ns)]) ∧ c ≤ c' ∧ c' ≤ c + 2 := by
  obtain ⟨B, rfl⟩ := R_onto ns.sum.toNat ns h0 hp (by have := len_sum ns hp; omega)
  have hsum := R_sum B
  have hn : B.length ≤ 199 := by omega
  have hv := val_lt B
  have hB : R B = R (bits B.length (val B)) := by rw [bits_val]
  have hrow : rowD (R B) = row B.length (val B) := by unfold row; rw [← hB]
  have hnum := num_R B
  generalize hnn : B.length = n at *
  have p1 := pow_pos2 n
  have p2 : (2 : Int) ^ n ≤ 803469022129495137770981046170581301261101496891396417650688 := by
    have : (2 : Nat) ^ n ≤ 2 ^ 199 := Nat.pow_le_pow_right (by decide) hn
    have e : ((2 ^ n : Nat) : Int) = (2 : Int) ^ n := Int.natCast_pow 2 n
    have e2 : (2 : Nat) ^ 199 = 803469022129495137770981046170581301261101496891396417650688 := by decide +kernel
    omega
  have eP : ((2 ^ n : Nat) : Int) = (2 : Int) ^ n := Int.natCast_pow 2 n
  have hr : RepGood (rowD (R B)) := by rw [hrow]; exact row_rep hn
  have r8 : (phi tb13 8).run [.fz (rowD (R B))] = .ok (.fz (.int (val B : Nat)), [.fz (rowD (R B))]) := by
    have := o8 (R B) h0 hp hs
    rw [hnum] at this
    exact this
  have r9 : (phi tb13 9).run [.fz (rowD (R B))] = .ok (.fz (.int (val B : Nat)), [.fz (rowD (R B))]) := by
    have := o9 (R B) h0 hp hs
    rw [hnum] at this
    exact this
  have r5 : (phi tb13 5).run [.fz (.int (n + 1)), .fz (.int (val B : Nat))] = .ok (.fz (rowD (R B)), [.fz (.int (n + 1)), .fz (.int (val B : Nat))]) := by
    rw [hrow]; exact o5 n (val B) hn hv
  have r11 : (phi tb13 11).run [.fz (.int (n + 1))] = .ok (.fz (.int (2 ^ n)), [.fz (.int (n + 1))]) := o11 n hn
  obtain ⟨g, a1, c1, q1, g0, g1, gc0, gc1⟩ := o10 a b c (2 ^ n) pn (by omega) p1 (by omega)
  obtain ⟨h, a2, c2, q2, h00, h1, hc0, hc1⟩ := o10 a1 b c1 (2 ^ n) (pn.up gc0 (by omega)) (by omega) p1 (by omega)
  replace q1 : (phi tb13 10).run _ = _ := q1
  replace q2 : (phi tb13 10).run _ = _ := q2
  have sm : b1D .sum (rowD (R B)) = some (.fz (.int (n + 1))) := by
    have := b_sumt (R B)
    rw [hsum] at this
    exact this
  have sI : Small (.int (2 ^ n)) := .int (by
    have : (1606938044258990275541962092341162602522202993782792835301376 : Nat) < 10 ^ 70 := by decide +kernel
    omega)
  have sV : Small (.int (val B : Nat)) := .int (by
    have : (1606938044258990275541962092341162602522202993782792835301376 : Nat) < 10 ^ 70 := by decide +kernel
    omega)
  have rp1 : RepGood (.list [.int (2 ^ n), .int (val B : Nat)]) := lst_good (fun d hd => by
    rcases List.mem_cons.mp hd with rfl | hd
    · exact sI
    · rw [List.mem_singleton.mp hd]; exact sV) (show 2 ≤ 200000 by omega)
  have rp2 : RepGood (.list [rowD (R B), .int (val B : Nat)]) := by
    refine lst_med (b := 20000) (fun d hd => ?_) (show 2 * (20000 + 2) ≤ 1000000 by omega)
    rcases List.mem_cons.mp hd with rfl | hd
    · have := med_row (GL.of h0 hp hs)
      rw [rw_rle] at this
      exact this
    · rw [List.mem_singleton.mp hd]; exact Gd.Small.med sV (by decide)
  obtain ⟨w2, k1⟩ := ss1 (phi tb13) (.ol (bagD a b c)) (.fz (rowD (R B))) .un .un .un .un (.fz (.str (rowD (R B)).shown)) .un n hn
  obtain ⟨w3, w4, w9, lp⟩ := loop13 hn (.ol (bagD a2 b c2)) (.fz (rowD (R B))) w2 (.fz (.int g)) (.fz (.str (rowD (R B)).shown)) (.fz (.int (2 ^ n))) (srtI [0, 2 ^ n - 1, g, if g + 1 < 2 ^ n - 1 then g + 1 else 2 ^ n - 1, h]) (.fz (.int (val B : Nat))) .un .none (fun x hx => by
    rw [mem_srt] at hx
    simp only [List.mem_cons, List.not_mem_nil, or_false] at hx
    rcases hx with rfl | rfl | rfl | rfl | rfl
    · omega
    · omega
    · omega
    · split <;> omega
    · omega) (.inl rfl)
  obtain ⟨e, k8, e8⟩ := ss8 (phi tb13) (.ol (bagD a2 b c2)) w2 w3 w4 (.fz (.int g)) (.fz (.int (n + 1))) (.fz (.int (2 ^ n))) w9 hr
  have k0 := ss0 (phi tb13) (.ol (bagD a b c)) .un .un .un .un .un .un .un .un hr sm
  have kk : dS (phi tb13) c13 [.ol (bagD a b c), .fz (rowD (R B)), .un, .un, .un, .un, .un, .un, .un, .un] = .ok (.rt (.fz (.bool true)) e) := by
    rw [c13_eq]
    exact seq_ok k0 (seq_ok k1 (seq_ok (ss2 (phi tb13) _ _ _ _ _ _ _ r11 r8 r9 rp1) (seq_ok (ss3 (phi tb13) _ _ _ _ _ _ _ _ _ r9) (seq_ok (ss4 (phi tb13) _ _ _ _ _ _ _ r5 r8 rp2) (seq_ok rfl (seq_ok (ss6 (phi tb13) _ _ _ _ _ _ _ _ q1) (seq_ok (ss7 (phi tb13) _ _ _ _ _ _ _ _ _ _ q2 lp) (seq_rt2 k8))))))))
  refine ⟨a2, c2, ?_, by omega, by omega⟩
  generalize rowD (R B) = D at *
  simp [f13, mkFn, runB, ps13, N13, P13, Res.bind, kk, outs, outS, List.range, List.range.loop, e8]
/-! the law -/
theorem row200 : R (bits 199 0) = List.replicate 200 1 := by decide +kernel
theorem b15_eq : b15_0 =
 (.seq (.ite (.nt (.call 13 (.consO (.loc 2) (.cons (.call 14 (.consO (.loc 2) (.cons (.loc 3) .nil))) .nil))))
 (.seq (.ret (.bl false))
 .nil)
 .nil)
 .nil) := rfl
theorem turn15 (a b c m : Int) (pn : JarN b c) (hc : c ≤ 800000000) (h0 : 1 ≤ m) (h1 : m ≤ 200) (v0 v1 : Sl) : ∃ a' c', dS (phi tb15) b15_0 [v0, v1, .ol (bagD a b c), .fz (.int m)] = .ok (.nx [v0, v1, .ol (bagD a' b c'), .fz (.int m)]) ∧ c ≤ c' ∧ c' ≤ c + 2002 := by
  obtain ⟨ns, a1, c1, r1, n0, n1, n2, q0, q1⟩ := o14 a b c m pn (by omega) h0 h1
  obtain ⟨a2, c2, r2, q2, q3⟩ := right_ok a1 b c1 ns (pn.up q0 (by omega)) (by omega) n0 n1 (by omega)
  replace r1 : (phi tb15 14).run _ = _ := r1
  replace r2 : (phi tb15 13).run _ = _ := r2
  refine ⟨a2, c2, ?_, by omega, by omega⟩
  unfold bagD at *
  generalize rowD ns = D at *
  simp [b15_0, dS, dE, dA, un1, un2, opnd, loc?, owned?, Res.bind, Res.of, Arg.view, Sl.dat, Sl.item, blD, bo, tyD, istyD, excD, q_lt, q_le, q_gt, q_ge, q_eq, q_ne, q_add, q_sub, q_shift, b_max, b_min, isiD, isiT, b_lent, b_lenl, b_tupl, b_tupt, b_lstl, b_lstt, b_suml, b_sumt, stE, itR, itemsOf, argsOf, callOf, slotsOf, putBack, fitL, line, r1, r2]
theorem turns15 (ns : List Int) (k : Nat) (hk : k ≤ 1000) (v2 v3 : Sl) : ∃ w2 w3, dS (phi tb15) b15_1 [.fz (.list (ns.map .int)), .fz (.int k), v2, v3] = .ok (.nx [.fz (.list (ns.map .int)), .fz (.int k), w2, w3]) := by
  obtain ⟨a, b, r, jn⟩ := o0 ns k hk
  replace r : (phi tb15 0).run _ = _ := r
  obtain ⟨a1, c1, t1, p0, p1⟩ := turn15 a b 0 9 jn (by decide) (by decide) (by decide) (.fz (.list (ns.map .int))) (.fz (.int k))
  obtain ⟨a2, c2, t2, p2, p3⟩ := turn15 a1 b c1 200 (jn.up p0 (by omega)) (by omega) (by decide) (by decide) (.fz (.list (ns.map .int))) (.fz (.int k))
  refine ⟨.ol (bagD a2 b c2), .fz (.int 200), ?_⟩
  have hq : seqD (.list [.int 9, .int 200]) = some [.int 9, .int 200] := rfl
  have lp : fLoop (.loc 3) (dS (phi tb15) b15_0) [.int 9, .int 200] [.fz (.list (ns.map .int)), .fz (.int k), .ol (bagD a b 0), v3] = .ok (.nx [.fz (.list (ns.map .int)), .fz (.int k), .ol (bagD a2 b c2), .fz (.int 200)]) :=
    (fl_step rfl t1).trans ((fl_step rfl t2).trans rfl)
  generalize bagD a2 b c2 = Z at *
  unfold bagD at *
  generalize ns.map PyData.int = L at *
  simp [b15_1, dS, dE, dA, un1, un2, opnd, loc?, owned?, Res.bind, Res.of, Arg.view, Sl.dat, Sl.item, blD, bo, tyD, istyD, excD, q_lt, q_le, q_gt, q_ge, q_eq, q_ne, q_add, q_sub, q_shift, b_max, b_min, isiD, isiT, b_lent, b_lenl, b_tupl, b_tupt, b_lstl, b_lstt, b_suml, b_sumt, stE, itR, itemsOf, argsOf, callOf, slotsOf, putBack, fitL, line, r, hq, lp]
theorem loop15 (ns : List Int) : ∀ (k lo : Nat) (v1 v2 v3 : Sl), lo + k ≤ 1000 → ∃ w1 w2 w3, fLoop (.loc 1) (dS (phi tb15) b15_1) (rngL (lo : Nat) k) [.fz (.list (ns.map .int)), v1, v2, v3] = .ok (.nx [.fz (.list (ns.map .int)), w1, w2, w3])
  | 0, lo, v1, v2, v3, _ => ⟨v1, v2, v3, rfl⟩
  | k + 1, lo, v1, v2, v3, h => by
    obtain ⟨w2, w3, st⟩ := turns15 ns lo (by omega) v2 v3
    obtain ⟨u1, u2, u3, g⟩ := loop15 ns k (lo + 1) (.fz (.int (lo : Nat))) w2 w3 (by omega)
    refine ⟨u1, u2, u3, ?_⟩
    rw [rng_succ]
    exact (fl_step rfl st).trans g
theorem nth200 : (phi tb15 5).run [.fz (.int 200), .fz (.int 0)] = .ok (.fz (.tuple (List.replicate 200 (.int 1))), [.fz (.int 200), .fz (.int 0)]) := by
  have := o5 199 0 (by decide) (Nat.pos_of_neZero _)
  rw [row200, show rowD (List.replicate 200 1) = .tuple (List.replicate 200 (.int 1)) by unfold rowD; rw [List.map_replicate]] at this
  exact this
theorem num200 : (phi tb15 8).run [.fz (.tuple [.int 200])] = .ok (.fz (.int 803469022129495137770981046170581301261101496891396417650687), [.fz (.tuple [.int 200])]) := by
  have := o8 [200] (by simp) (by simp) (by decide)
  rw [show numA 0 [200] = 803469022129495137770981046170581301261101496891396417650687 by decide +kernel] at this
  exact this
theorem cnt200 : (phi tb15 11).run [.fz (.int 200)] = .ok (.fz (.int 803469022129495137770981046170581301261101496891396417650688), [.fz (.int 200)]) := by
  have := o11 199 (by decide)
  rw [show (2 : Int) ^ 199 = 803469022129495137770981046170581301261101496891396417650688 by decide +kernel] at this
  exact this
theorem mul200 : opD .mul (.tuple [.int 1]) (.int 200) = some (.fz (.tuple (List.replicate 200 (.int 1)))) := by rfl
theorem eq200 (n : Int) (h : n = 803469022129495137770981046170581301261101496891396417650687) : cmpD .eq (.list [.tuple (List.replicate 200 (.int 1)), .int n]) (.list [.tuple (List.replicate 200 (.int 1)), .int n]) = some true := by
  subst h
  decide +kernel
theorem holds : ∀ ns : List Int, ns.length ≤ 63 → ∃ o, f15.run [.fz (.list (ns.map .int))] = .ok (.fz (.bool true), o) := by
  intro ns hl
  obtain ⟨q, hq, hq1⟩ : ∃ q : Int, q = (if (if (ns.length : Int) < 8 then (ns.length : Int) else 8) > 1 then (if (ns.length : Int) < 8 then (ns.length : Int) else 8) else 1) ∧ 1 ≤ q ∧ q ≤ 8 := by
    refine ⟨_, rfl, ?_⟩
    split <;> split <;> omega
  obtain ⟨w1, w2, w3, lp⟩ := loop15 ns q.toNat 0 .un .un .un (by omega)
  have ln : b1D .len (.list (ns.map PyData.int)) = some (.fz (.int (ns.length : Nat))) := by
    show some (Sl.fz (.int ((ns.map PyData.int).length : Nat))) = _
    rw [List.length_map]
  have ir : inR q = true := decide_eq_true (by omega)
  have h1 := nth200
  have h2 := num200
  have h3 := cnt200
  have h4 := mul200
  have h5 := fun n h => eq200 n h
  generalize hN : (803469022129495137770981046170581301261101496891396417650687 : Int) = N at *
  have hN1 : (803469022129495137770981046170581301261101496891396417650688 : Int) = N + 1 := by omega
  rw [hN1] at h3
  have h5 := h5 N rfl
  have e1 : N + 1 - 1 = N := by omega
  generalize List.replicate 200 (PyData.int 1) = O at *
  have bm1 : b2D .min (.int 8) (.int (ns.length : Nat)) = some (.fz (.int (if (ns.length : Int) < 8 then (ns.length : Int) else 8))) := rfl
  have bm2 : b2D .max (.int 1) (.int (if (ns.length : Int) < 8 then (ns.length : Int) else 8)) = some (.fz (.int q)) := by rw [hq]; rfl
  generalize (if (ns.length : Int) < 8 then (ns.length : Int) else 8) = mm at *
  clear hq
  have hs : seqD (.list (rngL 0 q.toNat)) = some (rngL 0 q.toNat) := rfl
  have lp : fLoop (.loc 1) (dS (phi tb15) b15_1) (rngL 0 q.toNat) [.fz (.list (ns.map .int)), .un, .un, .un] = .ok (.nx [.fz (.list (ns.map .int)), w1, w2, w3]) := lp
  generalize ns.map PyData.int = L at *
  have k0 : dS (phi tb15) (.fr (.loc 1) (.rng1 (.b2 .max (.int 1) (.b2 .min (.int 8) (.b1 .len (.loc 0))))) b15_1) [.fz (.list L), .un, .un, .un] = .ok (.nx [.fz (.list L), w1, w2, w3]) := by
    simp [dS, dE, dA, un1, un2, opnd, loc?, owned?, Res.bind, Res.of, Arg.view, Sl.dat, Sl.item, stE, itR, ln, bm1, bm2, ir, hs, lp]
  have k1 : dS (phi tb15) (.seq (.ret (.cmp .eq (.lst (.cons (.call 5 (.cons (.int 200) (.cons (.int 0) .nil))) (.cons (.call 8 (.cons (.tup (.cons (.int 200) .nil)) .nil)) .nil))) (.lst (.cons (.bin .mul (.tup (.cons (.int 1) .nil)) (.int 200)) (.cons (.bin .sub (.call 11 (.cons (.int 200) .nil)) (.int 1)) .nil))))) .nil) [.fz (.list L), w1, w2, w3] = .ok (.rt (.fz (.bool true)) [.fz (.list L), w1, w2, w3]) := by
    simp [dS, dE, dA, un1, un2, opnd, loc?, owned?, Res.bind, Res.of, Arg.view, Sl.dat, Sl.item, bo, itemsOf, argsOf, callOf, slotsOf, putBack, fitL, line, h1, h2, h3, h4, h5, q_sub, e1]
  have kk : dS (phi tb15) c15 [.fz (.list L), .un, .un, .un] = .ok (.rt (.fz (.bool true)) [.fz (.list L), w1, w2, w3]) := seq_ok k0 k1
  refine ⟨[.fz (.list L)], ?_⟩
  simp [f15, mkFn, runB, ps15, N15, P15, Res.bind, kk, outs, outS, List.range, List.range.loop]
end K30
set_option maxHeartbeats 4000000
namespace K30
open PySem PySem.Spec PyProof.Rows L2 Vl
theorem all_mk {l : PySem.W.OpenLaw} {w : World} {K : PySem.W.Frag} {h : Heap} {mg : Str → Option Value} {fa : Addr} (X : K.In h) (G : h.Ns mainGlobals mg) (hfa : mg "law" = some (.ref fa))
    {a0 : Addr} {od0 an0 : Option Addr} {sl0 : Array (Option Value)} {oc0 kV0 dc0 pm0 cd0 ct0 : Value} (m0 : PySem.W.nsIn K mainGlobals "_law_jar" = some (some (.ref a0)))
    (l0 : K.lookup a0 = some ⟨oc0, od0, .func (PySem.W.fnOf "_law_jar" "_law_jar" (defArgs st0) (defBody st0) (defScope st0) .none kV0 dc0 pm0 an0 cd0 ct0), sl0⟩) (c0 : PySem.W.codeIn K cd0 "_law_jar" = true) (k0 : PySem.W.keepIn K (.ref a0) = true)
    {a1 : Addr} {od1 an1 : Option Addr} {sl1 : Array (Option Value)} {oc1 kV1 dc1 pm1 cd1 ct1 : Value} (m1 : PySem.W.nsIn K mainGlobals "is_integer" = some (some (.ref a1)))
    (l1 : K.lookup a1 = some ⟨oc1, od1, .func (PySem.W.fnOf "is_integer" "is_integer" (defArgs st1) (defBody st1) (defScope st1) .none kV1 dc1 pm1 an1 cd1 ct1), sl1⟩) (c1 : PySem.W.codeIn K cd1 "is_integer" = true) (k1 : PySem.W.keepIn K (.ref a1) = true)
    {a2 : Addr} {od2 an2 : Option Addr} {sl2 : Array (Option Value)} {oc2 kV2 dc2 pm2 cd2 ct2 : Value} (m2 : PySem.W.nsIn K mainGlobals "is_within" = some (some (.ref a2)))
    (l2 : K.lookup a2 = some ⟨oc2, od2, .func (PySem.W.fnOf "is_within" "is_within" (defArgs st2) (defBody st2) (defScope st2) .none kV2 dc2 pm2 an2 cd2 ct2), sl2⟩) (c2 : PySem.W.codeIn K cd2 "is_within" = true) (k2 : PySem.W.keepIn K (.ref a2) = true)
    {a3 : Addr} {od3 an3 : Option Addr} {sl3 : Array (Option Value)} {oc3 kV3 dc3 pm3 cd3 ct3 : Value} (m3 : PySem.W.nsIn K mainGlobals "check_total" = some (some (.ref a3)))
    (l3 : K.lookup a3 = some ⟨oc3, od3, .func (PySem.W.fnOf "check_total" "check_total" (defArgs st3) (defBody st3) (defScope st3) .none kV3 dc3 pm3 an3 cd3 ct3), sl3⟩) (c3 : PySem.W.codeIn K cd3 "check_total" = true) (k3 : PySem.W.keepIn K (.ref a3) = true)
    {a4 : Addr} {od4 an4 : Option Addr} {sl4 : Array (Option Value)} {oc4 kV4 dc4 pm4 cd4 ct4 : Value} (m4 : PySem.W.nsIn K mainGlobals "check_number" = some (some (.ref a4)))
    (l4 : K.lookup a4 = some ⟨oc4, od4, .func (PySem.W.fnOf "check_number" "check_number" (defArgs st4) (defBody st4) (defScope st4) .none kV4 dc4 pm4 an4 cd4 ct4), sl4⟩) (c4 : PySem.W.codeIn K cd4 "check_number" = true) (k4 : PySem.W.keepIn K (.ref a4) = true)
    {a5 : Addr} {od5 an5 : Option Addr} {sl5 : Array (Option Value)} {oc5 kV5 dc5 pm5 cd5 ct5 : Value} (m5 : PySem.W.nsIn K mainGlobals "nth_row" = some (some (.ref a5)))
    (l5 : K.lookup a5 = some ⟨oc5, od5, .func (PySem.W.fnOf "nth_row" "nth_row" (defArgs st5) (defBody st5) (defScope st5) .none kV5 dc5 pm5 an5 cd5 ct5), sl5⟩) (c5 : PySem.W.codeIn K cd5 "nth_row" = true) (k5 : PySem.W.keepIn K (.ref a5) = true)
    {a6 : Addr} {od6 an6 : Option Addr} {sl6 : Array (Option Value)} {oc6 kV6 dc6 pm6 cd6 ct6 : Value} (m6 : PySem.W.nsIn K mainGlobals "is_row" = some (some (.ref a6)))
    (l6 : K.lookup a6 = some ⟨oc6, od6, .func (PySem.W.fnOf "is_row" "is_row" (defArgs st6) (defBody st6) (defScope st6) .none kV6 dc6 pm6 an6 cd6 ct6), sl6⟩) (c6 : PySem.W.codeIn K cd6 "is_row" = true) (k6 : PySem.W.keepIn K (.ref a6) = true)
    {a7 : Addr} {od7 an7 : Option Addr} {sl7 : Array (Option Value)} {oc7 kV7 dc7 pm7 cd7 ct7 : Value} (m7 : PySem.W.nsIn K mainGlobals "check_row" = some (some (.ref a7)))
    (l7 : K.lookup a7 = some ⟨oc7, od7, .func (PySem.W.fnOf "check_row" "check_row" (defArgs st7) (defBody st7) (defScope st7) .none kV7 dc7 pm7 an7 cd7 ct7), sl7⟩) (c7 : PySem.W.codeIn K cd7 "check_row" = true) (k7 : PySem.W.keepIn K (.ref a7) = true)
    {a8 : Addr} {od8 an8 : Option Addr} {sl8 : Array (Option Value)} {oc8 kV8 dc8 pm8 cd8 ct8 : Value} (m8 : PySem.W.nsIn K mainGlobals "row_number" = some (some (.ref a8)))
    (l8 : K.lookup a8 = some ⟨oc8, od8, .func (PySem.W.fnOf "row_number" "row_number" (defArgs st8) (defBody st8) (defScope st8) .none kV8 dc8 pm8 an8 cd8 ct8), sl8⟩) (c8 : PySem.W.codeIn K cd8 "row_number" = true) (k8 : PySem.W.keepIn K (.ref a8) = true)
    {a9 : Addr} {od9 an9 : Option Addr} {sl9 : Array (Option Value)} {oc9 kV9 dc9 pm9 cd9 ct9 : Value} (m9 : PySem.W.nsIn K mainGlobals "_law_number" = some (some (.ref a9)))
    (l9 : K.lookup a9 = some ⟨oc9, od9, .func (PySem.W.fnOf "_law_number" "_law_number" (defArgs st9) (defBody st9) (defScope st9) .none kV9 dc9 pm9 an9 cd9 ct9), sl9⟩) (c9 : PySem.W.codeIn K cd9 "_law_number" = true) (k9 : PySem.W.keepIn K (.ref a9) = true)
    {a10 : Addr} {od10 an10 : Option Addr} {sl10 : Array (Option Value)} {oc10 kV10 dc10 pm10 cd10 ct10 : Value} (m10 : PySem.W.nsIn K mainGlobals "_law_grain" = some (some (.ref a10)))
    (l10 : K.lookup a10 = some ⟨oc10, od10, .func (PySem.W.fnOf "_law_grain" "_law_grain" (defArgs st10) (defBody st10) (defScope st10) .none kV10 dc10 pm10 an10 cd10 ct10), sl10⟩) (c10 : PySem.W.codeIn K cd10 "_law_grain" = true) (k10 : PySem.W.keepIn K (.ref a10) = true)
    {a11 : Addr} {od11 an11 : Option Addr} {sl11 : Array (Option Value)} {oc11 kV11 dc11 pm11 cd11 ct11 : Value} (m11 : PySem.W.nsIn K mainGlobals "count_rows" = some (some (.ref a11)))
    (l11 : K.lookup a11 = some ⟨oc11, od11, .func (PySem.W.fnOf "count_rows" "count_rows" (defArgs st11) (defBody st11) (defScope st11) .none kV11 dc11 pm11 an11 cd11 ct11), sl11⟩) (c11 : PySem.W.codeIn K cd11 "count_rows" = true) (k11 : PySem.W.keepIn K (.ref a11) = true)
    {a12 : Addr} {od12 an12 : Option Addr} {sl12 : Array (Option Value)} {oc12 kV12 dc12 pm12 cd12 ct12 : Value} (m12 : PySem.W.nsIn K mainGlobals "_law_row_of" = some (some (.ref a12)))
    (l12 : K.lookup a12 = some ⟨oc12, od12, .func (PySem.W.fnOf "_law_row_of" "_law_row_of" (defArgs st12) (defBody st12) (defScope st12) .none kV12 dc12 pm12 an12 cd12 ct12), sl12⟩) (c12 : PySem.W.codeIn K cd12 "_law_row_of" = true) (k12 : PySem.W.keepIn K (.ref a12) = true)
    {a13 : Addr} {od13 an13 : Option Addr} {sl13 : Array (Option Value)} {oc13 kV13 dc13 pm13 cd13 ct13 : Value} (m13 : PySem.W.nsIn K mainGlobals "_law_right" = some (some (.ref a13)))
    (l13 : K.lookup a13 = some ⟨oc13, od13, .func (PySem.W.fnOf "_law_right" "_law_right" (defArgs st13) (defBody st13) (defScope st13) .none kV13 dc13 pm13 an13 cd13 ct13), sl13⟩) (c13 : PySem.W.codeIn K cd13 "_law_right" = true) (k13 : PySem.W.keepIn K (.ref a13) = true)
    {a14 : Addr} {od14 an14 : Option Addr} {sl14 : Array (Option Value)} {oc14 kV14 dc14 pm14 cd14 ct14 : Value} (m14 : PySem.W.nsIn K mainGlobals "_law_row" = some (some (.ref a14)))
    (l14 : K.lookup a14 = some ⟨oc14, od14, .func (PySem.W.fnOf "_law_row" "_law_row" (defArgs st14) (defBody st14) (defScope st14) .none kV14 dc14 pm14 an14 cd14 ct14), sl14⟩) (c14 : PySem.W.codeIn K cd14 "_law_row" = true) (k14 : PySem.W.keepIn K (.ref a14) = true)
    {a15 : Addr} {od15 an15 : Option Addr} {sl15 : Array (Option Value)} {oc15 kV15 dc15 pm15 cd15 ct15 : Value} (m15 : PySem.W.nsIn K mainGlobals "law" = some (some (.ref a15)))
    (l15 : K.lookup a15 = some ⟨oc15, od15, .func (PySem.W.fnOf "law" "law" (defArgs st15) (defBody st15) (defScope st15) .none kV15 dc15 pm15 an15 cd15 ct15), sl15⟩) (c15 : PySem.W.codeIn K cd15 "law" = true) (k15 : PySem.W.keepIn K (.ref a15) = true)
    (z0 : PySem.W.nsIn K mainGlobals "max" = some none)
    (z1 : PySem.W.nsIn K mainGlobals "len" = some none)
    (z2 : PySem.W.nsIn K mainGlobals "isinstance" = some none)
    (z3 : PySem.W.nsIn K mainGlobals "bool" = some none)
    (z4 : PySem.W.nsIn K mainGlobals "int" = some none)
    (z5 : PySem.W.nsIn K mainGlobals "tuple" = some none)
    (z6 : PySem.W.nsIn K mainGlobals "type" = some none)
    (z7 : PySem.W.nsIn K mainGlobals "enumerate" = some none)
    (z8 : PySem.W.nsIn K mainGlobals "range" = some none)
    (z9 : PySem.W.nsIn K mainGlobals "repr" = some none)
    (z10 : PySem.W.nsIn K mainGlobals "sorted" = some none)
    (z11 : PySem.W.nsIn K mainGlobals "min" = some none)
    (z12 : PySem.W.nsIn K mainGlobals "sum" = some none)
    {t0 : Tok} (y0 : PySem.W.nsIn K mainGlobals "MOST_SUM" = some (some (.int 200 t0)))
    : ∃ (exA : Str → Option Addr) (fd : FuncData), (∀ (s : Shared) (u : Value), BindsTo s fd ⟨[u], []⟩ [("script", u)]) ∧ ∀ base : Heap, K.In base → base.Ns mainGlobals mg → FnG l.prog w K mg base exA 16 fa fd ["script"] f15 := by
  have e := hfa.symm.trans (PySem.W.mg_of X G m15)
  cases e
  have F0 := fun_mk (st := st0) l0 c0 k0
  have b0 := BindP.of (F0.binds (ps := ps0) fun _ _ _ _ _ _ us hl => match us, hl with | [_, _], _ => rfl) (by decide)
  have F1 := fun_mk (st := st1) l1 c1 k1
  have b1 := BindP.of (F1.binds (ps := ps1) fun _ _ _ _ _ _ us hl => match us, hl with | [_], _ => rfl) (by decide)
  have F2 := fun_mk (st := st2) l2 c2 k2
  have b2 := BindP.of (F2.binds (ps := ps2) fun _ _ _ _ _ _ us hl => match us, hl with | [_, _, _], _ => rfl) (by decide)
  have F3 := fun_mk (st := st3) l3 c3 k3
  have b3 := BindP.of (F3.binds (ps := ps3) fun _ _ _ _ _ _ us hl => match us, hl with | [_], _ => rfl) (by decide)
  have F4 := fun_mk (st := st4) l4 c4 k4
  have b4 := BindP.of (F4.binds (ps := ps4) fun _ _ _ _ _ _ us hl => match us, hl with | [_, _], _ => rfl) (by decide)
  have F5 := fun_mk (st := st5) l5 c5 k5
  have b5 := BindP.of (F5.binds (ps := ps5) fun _ _ _ _ _ _ us hl => match us, hl with | [_, _], _ => rfl) (by decide)
  have F6 := fun_mk (st := st6) l6 c6 k6
  have b6 := BindP.of (F6.binds (ps := ps6) fun _ _ _ _ _ _ us hl => match us, hl with | [_], _ => rfl) (by decide)
  have F7 := fun_mk (st := st7) l7 c7 k7
  have b7 := BindP.of (F7.binds (ps := ps7) fun _ _ _ _ _ _ us hl => match us, hl with | [_], _ => rfl) (by decide)
  have F8 := fun_mk (st := st8) l8 c8 k8
  have b8 := BindP.of (F8.binds (ps := ps8) fun _ _ _ _ _ _ us hl => match us, hl with | [_], _ => rfl) (by decide)
  have F9 := fun_mk (st := st9) l9 c9 k9
  have b9 := BindP.of (F9.binds (ps := ps9) fun _ _ _ _ _ _ us hl => match us, hl with | [_], _ => rfl) (by decide)
  have F10 := fun_mk (st := st10) l10 c10 k10
  have b10 := BindP.of (F10.binds (ps := ps10) fun _ _ _ _ _ _ us hl => match us, hl with | [_, _], _ => rfl) (by decide)
  have F11 := fun_mk (st := st11) l11 c11 k11
  have b11 := BindP.of (F11.binds (ps := ps11) fun _ _ _ _ _ _ us hl => match us, hl with | [_], _ => rfl) (by decide)
  have F12 := fun_mk (st := st12) l12 c12 k12
  have b12 := BindP.of (F12.binds (ps := ps12) fun _ _ _ _ _ _ us hl => match us, hl with | [_, _], _ => rfl) (by decide)
  have F13 := fun_mk (st := st13) l13 c13 k13
  have b13 := BindP.of (F13.binds (ps := ps13) fun _ _ _ _ _ _ us hl => match us, hl with | [_, _], _ => rfl) (by decide)
  have F14 := fun_mk (st := st14) l14 c14 k14
  have b14 := BindP.of (F14.binds (ps := ps14) fun _ _ _ _ _ _ us hl => match us, hl with | [_, _], _ => rfl) (by decide)
  have F15 := fun_mk (st := st15) l15 c15 k15
  have b15 := BindP.of (F15.binds (ps := ps15) fun _ _ _ _ _ _ us hl => match us, hl with | [_], _ => rfl) (by decide)
  obtain ⟨exA, hex⟩ : ∃ exA : Str → Option Addr, exA = fun x => none := ⟨_, rfl⟩
  have B : Bas K mg exA blAll gsAll xsAll clAll sqAll := by
    refine ⟨?_, ?_, ?_, ?_, ?_, ?_⟩
    · exact List.forall_mem_cons.mpr ⟨PySem.W.mg_none_of X G z0, List.forall_mem_cons.mpr ⟨PySem.W.mg_none_of X G z1, List.forall_mem_cons.mpr ⟨PySem.W.mg_none_of X G z2, List.forall_mem_cons.mpr ⟨PySem.W.mg_none_of X G z3, List.forall_mem_cons.mpr ⟨PySem.W.mg_none_of X G z4, List.forall_mem_cons.mpr ⟨PySem.W.mg_none_of X G z5, List.forall_mem_cons.mpr ⟨PySem.W.mg_none_of X G z6, List.forall_mem_cons.mpr ⟨PySem.W.mg_none_of X G z7, List.forall_mem_cons.mpr ⟨PySem.W.mg_none_of X G z8, List.forall_mem_cons.mpr ⟨PySem.W.mg_none_of X G z9, List.forall_mem_cons.mpr ⟨PySem.W.mg_none_of X G z10, List.forall_mem_cons.mpr ⟨PySem.W.mg_none_of X G z11, List.forall_mem_cons.mpr ⟨PySem.W.mg_none_of X G z12, fun _ hx => absurd hx List.not_mem_nil⟩⟩⟩⟩⟩⟩⟩⟩⟩⟩⟩⟩⟩
    · exact List.forall_mem_cons.mpr ⟨⟨_, PySem.W.mg_of X G y0, ⟨_, rfl⟩⟩, fun _ hx => absurd hx List.not_mem_nil⟩
    · rintro Y rfl rfl
      exact fun _ hx => absurd hx List.not_mem_nil
    · intro c C h
      rw [hex] at h
      simp only at h
      cases h
    · exact fun _ hx => absurd hx List.not_mem_nil
    · exact fun h => by cases h
  refine ⟨exA, PySem.W.fnOf "law" "law" (defArgs st15) (defBody st15) (defScope st15) .none kV15 dc15 pm15 an15 cd15 ct15, fun s v => .of_eq rfl, fun base _ _ => ?_⟩
  have s0 : Upto l.prog w K mg base exA 0 (nmAll.take 0) tb0 := Upto.nil
  have s1 : Upto l.prog w K mg base exA 1 (nmAll.take 1) tb1 := (Upto.step s0 B F0 (PySem.W.mg_of X G m0) b0 sc0 ok0 (fn := f0) rfl).2
  have s2 : Upto l.prog w K mg base exA 2 (nmAll.take 2) tb2 := (Upto.step s1 B F1 (PySem.W.mg_of X G m1) b1 sc1 ok1 (fn := f1) rfl).2
  have s3 : Upto l.prog w K mg base exA 3 (nmAll.take 3) tb3 := (Upto.step s2 B F2 (PySem.W.mg_of X G m2) b2 sc2 ok2 (fn := f2) rfl).2
  have s4 : Upto l.prog w K mg base exA 4 (nmAll.take 4) tb4 := (Upto.step s3 B F3 (PySem.W.mg_of X G m3) b3 sc3 ok3 (fn := f3) rfl).2
  have s5 : Upto l.prog w K mg base exA 5 (nmAll.take 5) tb5 := (Upto.step s4 B F4 (PySem.W.mg_of X G m4) b4 sc4 ok4 (fn := f4) rfl).2
  have s6 : Upto l.prog w K mg base exA 6 (nmAll.take 6) tb6 := (Upto.step s5 B F5 (PySem.W.mg_of X G m5) b5 sc5 ok5 (fn := f5) rfl).2
  have s7 : Upto l.prog w K mg base exA 7 (nmAll.take 7) tb7 := (Upto.step s6 B F6 (PySem.W.mg_of X G m6) b6 sc6 ok6 (fn := f6) rfl).2
  have s8 : Upto l.prog w K mg base exA 8 (nmAll.take 8) tb8 := (Upto.step s7 B F7 (PySem.W.mg_of X G m7) b7 sc7 ok7 (fn := f7) rfl).2
  have s9 : Upto l.prog w K mg base exA 9 (nmAll.take 9) tb9 := (Upto.step s8 B F8 (PySem.W.mg_of X G m8) b8 sc8 ok8 (fn := f8) rfl).2
  have s10 : Upto l.prog w K mg base exA 10 (nmAll.take 10) tb10 := (Upto.step s9 B F9 (PySem.W.mg_of X G m9) b9 sc9 ok9 (fn := f9) rfl).2
  have s11 : Upto l.prog w K mg base exA 11 (nmAll.take 11) tb11 := (Upto.step s10 B F10 (PySem.W.mg_of X G m10) b10 sc10 ok10 (fn := f10) rfl).2
  have s12 : Upto l.prog w K mg base exA 12 (nmAll.take 12) tb12 := (Upto.step s11 B F11 (PySem.W.mg_of X G m11) b11 sc11 ok11 (fn := f11) rfl).2
  have s13 : Upto l.prog w K mg base exA 13 (nmAll.take 13) tb13 := (Upto.step s12 B F12 (PySem.W.mg_of X G m12) b12 sc12 ok12 (fn := f12) rfl).2
  have s14 : Upto l.prog w K mg base exA 14 (nmAll.take 14) tb14 := (Upto.step s13 B F13 (PySem.W.mg_of X G m13) b13 sc13 ok13 (fn := f13) rfl).2
  have s15 : Upto l.prog w K mg base exA 15 (nmAll.take 15) tb15 := (Upto.step s14 B F14 (PySem.W.mg_of X G m14) b14 sc14 ok14 (fn := f14) rfl).2
  exact (Upto.step s15 B F15 (PySem.W.mg_of X G m15) b15 sc15 ok15 (fn := f15) rfl).1
end K30
open PySem PySem.W PyProof.Rows
set_option maxRecDepth 100000 in
set_option maxHeartbeats 0 in
theorem PySem.Challenge.cw_runswap_k30_rows_of_great_sums_holds : PySem.Challenge.rw_runswap_k30_rows_of_great_sums.Holds := by
  w_on; o_law; k_head; (case hw => w_witness2)
  k_fill
  refine Vl.walkG (l := PySem.Challenge.rw_runswap_k30_rows_of_great_sums) (n := 63) (k := 16) (x := "script") (fn := K30.f15) rfl (by decide) rfl ⟨rfl, by decide, by decide⟩ (fun w h Y => PySem.W.kIn_of Y) ?F K30.holds
  case F =>
    intro w mg fa h KX G hmg
    refine' K30.all_mk KX G hmg ?m0 ?l0 ?c0 ?k0 ?m1 ?l1 ?c1 ?k1 ?m2 ?l2 ?c2 ?k2 ?m3 ?l3 ?c3 ?k3 ?m4 ?l4 ?c4 ?k4 ?m5 ?l5 ?c5 ?k5 ?m6 ?l6 ?c6 ?k6 ?m7 ?l7 ?c7 ?k7 ?m8 ?l8 ?c8 ?k8 ?m9 ?l9 ?c9 ?k9 ?m10 ?l10 ?c10 ?k10 ?m11 ?l11 ?c11 ?k11 ?m12 ?l12 ?c12 ?k12 ?m13 ?l13 ?c13 ?k13 ?m14 ?l14 ?c14 ?k14 ?m15 ?l15 ?c15 ?k15 ?z0 ?z1 ?z2 ?z3 ?z4 ?z5 ?z6 ?z7 ?z8 ?z9 ?z10 ?z11 ?z12 ?y0
    (case m0 => k_is)
    (case l0 => k_is)
    (case c0 => k_is)
    (case k0 => k_is)
    (case m1 => k_is)
    (case l1 => k_is)
    (case c1 => k_is)
    (case k1 => k_is)
    (case m2 => k_is)
    (case l2 => k_is)
    (case c2 => k_is)
    (case k2 => k_is)
    (case m3 => k_is)
    (case l3 => k_is)
    (case c3 => k_is)
    (case k3 => k_is)
    (case m4 => k_is)
    (case l4 => k_is)
    (case c4 => k_is)
    (case k4 => k_is)
    (case m5 => k_is)
    (case l5 => k_is)
    (case c5 => k_is)
    (case k5 => k_is)
    (case m6 => k_is)
    (case l6 => k_is)
    (case c6 => k_is)
    (case k6 => k_is)
    (case m7 => k_is)
    (case l7 => k_is)
    (case c7 => k_is)
    (case k7 => k_is)
    (case m8 => k_is)
    (case l8 => k_is)
    (case c8 => k_is)
    (case k8 => k_is)
    (case m9 => k_is)
    (case l9 => k_is)
    (case c9 => k_is)
    (case k9 => k_is)
    (case m10 => k_is)
    (case l10 => k_is)
    (case c10 => k_is)
    (case k10 => k_is)
    (case m11 => k_is)
    (case l11 => k_is)
    (case c11 => k_is)
    (case k11 => k_is)
    (case m12 => k_is)
    (case l12 => k_is)
    (case c12 => k_is)
    (case k12 => k_is)
    (case m13 => k_is)
    (case l13 => k_is)
    (case c13 => k_is)
    (case k13 => k_is)
    (case m14 => k_is)
    (case l14 => k_is)
    (case c14 => k_is)
    (case k14 => k_is)
    (case m15 => k_is)
    (case l15 => k_is)
    (case c15 => k_is)
    (case k15 => k_is)
    (case z0 => k_is)
    (case z1 => k_is)
    (case z2 => k_is)
    (case z3 => k_is)
    (case z4 => k_is)
    (case z5 => k_is)
    (case z6 => k_is)
    (case z7 => k_is)
    (case z8 => k_is)
    (case z9 => k_is)
    (case z10 => k_is)
    (case z11 => k_is)
    (case z12 => k_is)
    (case y0 => k_is)
