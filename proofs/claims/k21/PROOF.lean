import PyProof.Rows.All
import Wide.All
import OpenK.AllK
import Wide.FinOn
import HandS.ForMost
import HandS.ForExc
import HandS.TupAny
import HandS.Star
import HandS.Wide
import HandS.IsInst
import HandS.CallSlots
import HandS.ExcInit
import HandS.ExcField
import HandS.ExcIs
import HandS.TupMul
import HandS.Comp
import HandS.Zip
import HandS.Rev
import HandS.Property
import HandS.ClsMeth
import HandS.MakeKw
import HandS.Defaults
import HandS.SortKw
import HandS.Flow
import HandS.DictComp
import HandS.Dict
import HandS.RaiseMore
import HandS.SetFor
import KE.SortKeyHeap
import PySem.Challenge.RW_unbrokenruns_k21_steps_that_conflict
set_option Elab.async false
set_option linter.all false
set_option maxRecDepth 100000
set_option maxHeartbeats 2000000
/-! Data over the hand layer: tuples as values, lists and instances as places of a store. -/
namespace DL
open PySem L2

inductive Dv where
  | non | bl (b : Bool) | int (i : Int) | str (x : Str) | tup (xs : List Dv) | loc (n : Nat) | ty (n : String) | glo (a : Addr)
  | exc (C a dd : Addr) (ns : List Str) (ds : List Dv)
  | frl (xs : List Dv)

/-- a list that is only read: frozen, or an object of the module -/
def SqF (K : PySem.W.Frag) (H : Hp) (a : Addr) (xs : List V) : Prop := (∃ ob, H a = some (.frz ob (.lst xs))) ∨
    ∃ (o : Obj) (its : Array Value) (n : Nat), K.lookup a = some o ∧ o.cls = .type "list" ∧ o.dict = none ∧ o.data = .seq its n ∧ its.size ≤ sizeLine ∧ Vals xs its.toList
theorem SqF.sq {K : PySem.W.Frag} {H : Hp} {a : Addr} {xs : List V} (h : SqF K H a xs) : SqL K H a xs := h.imp .inr id
mutual
inductive RV (K : PySem.W.Frag) (io : List Addr) (H : Hp) : V → Dv → Prop where
  | non : RV K io H .non .non
  | bl {b : Bool} : RV K io H (.bl b) (.bl b)
  | int {i : Int} : RV K io H (.int i) (.int i)
  | str {x : Str} : RV K io H (.str x) (.str x)
  | ty {n : String} : RV K io H (.ty n) (.ty n)
  | glo {a : Addr} : RV K io H (.ref a) (.glo a)
  | loc {n : Nat} {a : Addr} : io[n]? = some a → RV K io H (.ref a) (.loc n)
  | tup {a : Addr} {vs : List V} {ds : List Dv} : SqT K H a vs → RVs K io H vs ds → RV K io H (.ref a) (.tup ds)
  | exc {C a dd : Addr} {ns : List Str} {vs : List (Str × V)} {ds : List Dv} : H dd = some (.xd vs) → vs.map (·.1) = ns → RVs K io H (vs.map (·.2)) ds → RV K io H (.ref a) (.exc C a dd ns ds)
  | frl {a : Addr} {vs : List V} {ds : List Dv} : SqF K H a vs → RVs K io H vs ds → RV K io H (.ref a) (.frl ds)
inductive RVs (K : PySem.W.Frag) (io : List Addr) (H : Hp) : List V → List Dv → Prop where
  | nil : RVs K io H [] []
  | cons {v : V} {d : Dv} {vs : List V} {ds : List Dv} : RV K io H v d → RVs K io H vs ds → RVs K io H (v :: vs) (d :: ds)
end

structure Ge (K : PySem.W.Frag) (io : List Addr) (H : Hp) (io' : List Addr) (H' : Hp) : Prop where
  pre : ∀ (n : Nat) (a : Addr), io[n]? = some a → io'[n]? = some a
  tup : ∀ a vs, SqT K H a vs → SqT K H' a vs
  xds : ∀ a vs, H a = some (.xd vs) → H' a = some (.xd vs)
  frl : ∀ a ob vs, H a = some (.frz ob (.lst vs)) → H' a = some (.frz ob (.lst vs))
theorem Ge.refl {K : PySem.W.Frag} {io : List Addr} {H : Hp} : Ge K io H io H := ⟨fun _ _ h => h, fun _ _ h => h, fun _ _ h => h, fun _ _ _ h => h⟩
theorem Ge.trans {K : PySem.W.Frag} {io io1 io2 : List Addr} {H H1 H2 : Hp} (a : Ge K io H io1 H1) (b : Ge K io1 H1 io2 H2) : Ge K io H io2 H2 :=
  ⟨fun n x h => b.pre n x (a.pre n x h), fun x vs h => b.tup x vs (a.tup x vs h), fun x vs h => b.xds x vs (a.xds x vs h), fun x ob vs h => b.frl x ob vs (a.frl x ob vs h)⟩
theorem Ge.sqf {K : PySem.W.Frag} {io io' : List Addr} {H H' : Hp} (g : Ge K io H io' H') {a : Addr} {xs : List V} (h : SqF K H a xs) : SqF K H' a xs := h.imp (fun ⟨ob, q⟩ => ⟨ob, g.frl _ _ _ q⟩) id
section
variable {K : PySem.W.Frag} {io io' : List Addr} {H H' : Hp}
mutual
theorem RV.mono (g : Ge K io H io' H') : ∀ {v : V} {d : Dv}, RV K io H v d → RV K io' H' v d
  | _, _, .non => .non
  | _, _, .bl => .bl
  | _, _, .int => .int
  | _, _, .str => .str
  | _, _, .ty => .ty
  | _, _, .glo => .glo
  | _, _, .loc h => .loc (g.pre _ _ h)
  | _, _, .tup h r => .tup (g.tup _ _ h) (RVs.mono g r)
  | _, _, .exc h e r => .exc (g.xds _ _ h) e (RVs.mono g r)
  | _, _, .frl h r => .frl (g.sqf h) (RVs.mono g r)
theorem RVs.mono (g : Ge K io H io' H') : ∀ {v : List V} {d : List Dv}, RVs K io H v d → RVs K io' H' v d
  | _, _, .nil => .nil
  | _, _, .cons h r => .cons (RV.mono g h) (RVs.mono g r)
end
theorem RVs.length : ∀ {vs : List V} {ds : List Dv}, RVs K io H vs ds → vs.length = ds.length
  | _, _, .nil => rfl
  | _, _, .cons _ r => by rw [List.length_cons, List.length_cons, r.length]
theorem RVs.append : ∀ {vs ws : List V} {ds es : List Dv}, RVs K io H vs ds → RVs K io H ws es → RVs K io H (vs ++ ws) (ds ++ es)
  | _, _, _, _, .nil, s => s
  | _, _, _, _, .cons h r, s => .cons h (r.append s)
theorem RVs.get : ∀ {vs : List V} {ds : List Dv} {i : Nat} {d : Dv}, RVs K io H vs ds → ds[i]? = some d → ∃ v, vs[i]? = some v ∧ RV K io H v d
  | _, _, _, _, .nil, e => by simp at e
  | _, _, 0, _, .cons h _, e => by simp at e; subst e; exact ⟨_, rfl, h⟩
  | _, _, i + 1, d, .cons _ r, e => by
    obtain ⟨v, h1, h2⟩ := RVs.get (i := i) (d := d) r (by simpa using e)
    exact ⟨v, by simpa using h1, h2⟩
theorem RVs.getV : ∀ {vs : List V} {ds : List Dv} {i : Nat} {v : V}, RVs K io H vs ds → vs[i]? = some v → ∃ d, ds[i]? = some d ∧ RV K io H v d
  | _, _, _, _, .nil, e => by simp at e
  | _, _, 0, _, .cons h _, e => by simp at e; subst e; exact ⟨_, rfl, h⟩
  | _, _, i + 1, v, .cons _ r, e => by
    obtain ⟨d, h1, h2⟩ := RVs.getV (i := i) (v := v) r (by simpa using e)
    exact ⟨d, by simpa using h1, h2⟩
theorem RVs.set {v : V} {d : Dv} (h : RV K io H v d) : ∀ {vs : List V} {ds : List Dv} (i : Nat), RVs K io H vs ds → RVs K io H (vs.set i v) (ds.set i d)
  | _, _, _, .nil => .nil
  | _, _, 0, .cons _ r => .cons h r
  | _, _, i + 1, .cons q r => .cons q (RVs.set h i r)
theorem RVs.take : ∀ {vs : List V} {ds : List Dv} (n : Nat), RVs K io H vs ds → RVs K io H (vs.take n) (ds.take n)
  | _, _, 0, _ => .nil
  | _, _, _ + 1, .nil => .nil
  | _, _, n + 1, .cons h r => .cons h (RVs.take n r)
theorem RVs.drop : ∀ {vs : List V} {ds : List Dv} (n : Nat), RVs K io H vs ds → RVs K io H (vs.drop n) (ds.drop n)
  | _, _, 0, r => r
  | _, _, _ + 1, .nil => .nil
  | _, _, n + 1, .cons _ r => RVs.drop n r
theorem RVs.one {v : V} {d : Dv} (h : RV K io H v d) : RVs K io H [v] [d] := .cons h .nil
theorem RVs.split : ∀ {ds es : List Dv} {vs : List V}, RVs K io H vs (ds ++ es) → ∃ us ws, vs = us ++ ws ∧ RVs K io H us ds ∧ RVs K io H ws es
  | [], _, vs, r => ⟨[], vs, rfl, .nil, r⟩
  | d :: ds, es, _, .cons h r => by
    obtain ⟨us, ws, e, r1, r2⟩ := RVs.split (ds := ds) r
    exact ⟨_ :: us, ws, by rw [e]; rfl, .cons h r1, r2⟩
end

/-! ### the store -/
inductive Cell where
  | lst (xs : List Dv) | dic (kvs : List (Key × Dv)) | dit (kvs : List (List Key × Dv)) | ins (C : Addr) (fs : List (Str × Dv)) | opq
abbrev Store := List Cell
section
variable (K : PySem.W.Frag) (io : List Addr) (H : Hp)
def PrR {κ : Type} : List (κ × V) → List (κ × Dv) → Prop := Paired fun (p : κ × V) (q : κ × Dv) => p.1 = q.1 ∧ RV K io H p.2 q.2
def CellOk (a : Addr) : Cell → Prop
  | .lst ds => ∃ vs, H a = some (.lst vs) ∧ RVs K io H vs ds
  | .dic ks => ∃ vs, H a = some (.dK vs) ∧ PrR K io H vs ks
  | .dit ks => ∃ vs, H a = some (.dT vs) ∧ PrR K io H vs ks
  | .ins C fs => ∃ dx vs, H a = some (.ins C dx vs) ∧ PrR K io H vs fs
  | .opq => ∃ o, H a = some o ∧ ∀ xs, o ≠ .tup xs
structure Rl (S : Store) : Prop where
  len : io.length = S.length
  nd : io.Nodup
  ok : ∀ (n : Nat) (a : Addr) (c : Cell), io[n]? = some a → S[n]? = some c → CellOk K io H a c
end
section
variable {K : PySem.W.Frag} {io io' : List Addr} {H H' : Hp} {S : Store}
theorem PrR.mono {κ : Type} (g : Ge K io H io' H') {vs : List (κ × V)} {ds : List (κ × Dv)} (h : PrR K io H vs ds) : PrR K io' H' vs ds :=
  Paired.mapP h fun _ _ q => ⟨q.1, q.2.mono g⟩
theorem CellOk.mono {a : Addr} {c : Cell} (g : Ge K io H io' H') (e : H' a = H a) (h : CellOk K io H a c) : CellOk K io' H' a c := by
  cases c with
  | lst ds => obtain ⟨vs, q, r⟩ := h; exact ⟨vs, e.trans q, r.mono g⟩
  | dic ds => obtain ⟨vs, q, r⟩ := h; exact ⟨vs, e.trans q, r.mono g⟩
  | dit ds => obtain ⟨vs, q, r⟩ := h; exact ⟨vs, e.trans q, r.mono g⟩
  | ins C fs => obtain ⟨dx, vs, q, r⟩ := h; exact ⟨dx, vs, e.trans q, r.mono g⟩
  | opq => obtain ⟨o, q, r⟩ := h; exact ⟨o, e.trans q, r⟩
theorem CellOk.some {a : Addr} {c : Cell} (h : CellOk K io H a c) : ∃ o, H a = Option.some o ∧ ∀ xs, o ≠ .tup xs := by
  cases c with
  | lst ds => obtain ⟨vs, q, r⟩ := h; exact ⟨_, q, fun _ z => by cases z⟩
  | dic ds => obtain ⟨vs, q, r⟩ := h; exact ⟨_, q, fun _ z => by cases z⟩
  | dit ds => obtain ⟨vs, q, r⟩ := h; exact ⟨_, q, fun _ z => by cases z⟩
  | ins C fs => obtain ⟨dx, vs, q, r⟩ := h; exact ⟨_, q, fun _ z => by cases z⟩
  | opq => obtain ⟨o, q, r⟩ := h; exact ⟨o, q, r⟩
theorem Rl.at (r : Rl K io H S) {n : Nat} {c : Cell} (h : S[n]? = Option.some c) : ∃ a, io[n]? = Option.some a ∧ CellOk K io H a c := by
  have hl : n < io.length := by rw [r.len]; exact (List.getElem?_eq_some_iff.mp h).1
  exact ⟨io[n], List.getElem?_eq_getElem hl, r.ok n _ c (List.getElem?_eq_getElem hl) h⟩
theorem Rl.addr (r : Rl K io H S) {n : Nat} {a : Addr} (h : io[n]? = Option.some a) : ∃ o, H a = Option.some o ∧ ∀ xs, o ≠ .tup xs := by
  have hl : n < S.length := by rw [← r.len]; exact (List.getElem?_eq_some_iff.mp h).1
  exact (r.ok n a S[n] h (List.getElem?_eq_getElem hl)).some
/-- tuples stay where something that is no tuple is laid or changed -/
theorem sqt_upd {a : Addr} {o : HO} {b : Addr} {vs : List V} (h : H a = none ∨ ∃ u, H a = Option.some u ∧ (∀ xs, u ≠ .tup xs) ∧ ∀ ob xs, u ≠ .frz ob (.tup xs)) (q : SqT K H b vs) : SqT K (upd H a o) b vs := by
  have ne : ∀ u, H b = Option.some u → (u = .tup vs ∨ ∃ ob, u = .frz ob (.tup vs)) → b ≠ a := fun u e hu z => by
    subst z
    rcases h with h | ⟨w, h, h1, h2⟩
    · rw [h] at e; cases e
    · rw [h] at e; cases e
      rcases hu with rfl | ⟨ob, rfl⟩
      · exact h1 _ rfl
      · exact h2 _ _ rfl
  rcases q with (q | ⟨ob, q⟩) | q
  · exact .inl (.inl (by rw [upd_ne (ne _ q (.inl rfl))]; exact q))
  · exact .inl (.inr ⟨ob, by rw [upd_ne (ne _ q (.inr ⟨ob, rfl⟩))]; exact q⟩)
  · exact .inr q
theorem ge_new {a : Addr} {o : HO} (h : H a = none) : Ge K io H io (upd H a o) := ⟨fun _ _ e => e, fun _ _ => sqt_upd (.inl h), fun _ _ e => (upd_ne (ne_of_none e h)).trans e, fun _ _ _ e => (upd_ne (ne_of_none e h)).trans e⟩
theorem ge_lst {a : Addr} {o : HO} {xs : List V} (h : H a = Option.some (.lst xs)) : Ge K io H io (upd H a o) := ⟨fun _ _ e => e, fun _ _ => sqt_upd (.inr ⟨_, h, (fun _ z => by cases z), (fun _ _ z => by cases z)⟩), fun _ _ e => (upd_ne (ne_of e h (by intro z; cases z))).trans e, fun _ _ _ e => (upd_ne (ne_of e h (by intro z; cases z))).trans e⟩
theorem ge_ext {a : Addr} : Ge K io H (io ++ [a]) H := ⟨fun n x e => by
  rw [List.getElem?_append_left (List.getElem?_eq_some_iff.mp e).1]; exact e, fun _ _ h => h, fun _ _ h => h, fun _ _ _ h => h⟩
/-- something that is no cell is laid -/
theorem Rl.laid (r : Rl K io H S) {a : Addr} {o : HO} (h : H a = none) : Rl K io (upd H a o) S :=
  ⟨r.len, r.nd, fun n b c e1 e2 => (r.ok n b c e1 e2).mono (ge_new h) (by
    obtain ⟨u, q, _⟩ := r.addr e1
    exact upd_ne (ne_of_none q h))⟩
/-- a new cell -/
theorem Rl.push (r : Rl K io H S) {a : Addr} {c : Cell} {o : HO} (h : H a = none) (k : CellOk K (io ++ [a]) (upd H a o) a c) : Rl K (io ++ [a]) (upd H a o) (S ++ [c]) := by
  have r1 := r.laid (o := o) h
  have ne : ∀ (n : Nat) (b : Addr), io[n]? = Option.some b → b ≠ a := fun n b e => by
    obtain ⟨u, q, _⟩ := r.addr e
    exact ne_of_none q h
  refine ⟨by rw [List.length_append, List.length_append, r.len]; rfl, ?_, fun n b d e1 e2 => ?_⟩
  · rw [List.nodup_append]
    refine ⟨r.nd, by simp, fun x hx y hy => ?_⟩
    obtain ⟨n, e⟩ := List.mem_iff_getElem?.mp hx
    rw [List.mem_singleton.mp hy]
    exact ne n x e
  · by_cases hn : n < io.length
    · rw [List.getElem?_append_left hn] at e1
      rw [List.getElem?_append_left (by rw [← r.len]; exact hn)] at e2
      exact (r1.ok n b d e1 e2).mono ge_ext rfl
    · have hl := (List.getElem?_eq_some_iff.mp e1).1
      rw [List.length_append, List.length_singleton] at hl
      have en : n = io.length := by omega
      subst en
      rw [List.getElem?_append_right (Nat.le_refl _), Nat.sub_self] at e1
      rw [r.len, List.getElem?_append_right (Nat.le_refl _), Nat.sub_self] at e2
      cases e1; cases e2
      exact k
/-- a cell is changed -/
theorem Rl.put (r : Rl K io H S) {n : Nat} {a : Addr} {c : Cell} {o : HO} (ha : io[n]? = Option.some a) (g : Ge K io H io (upd H a o)) (k : CellOk K io (upd H a o) a c) : Rl K io (upd H a o) (S.set n c) := by
  refine ⟨by rw [List.length_set]; exact r.len, r.nd, fun m b d e1 e2 => ?_⟩
  by_cases hm : m = n
  · subst hm
    rw [ha] at e1; cases e1
    have hl : m < S.length := by rw [← r.len]; exact (List.getElem?_eq_some_iff.mp ha).1
    rw [List.getElem?_set_self hl] at e2; cases e2
    exact k
  · rw [List.getElem?_set_ne (Ne.symm hm)] at e2
    refine (r.ok m b d e1 e2).mono g (upd_ne fun z => hm ?_)
    obtain ⟨h1, q1⟩ := List.getElem?_eq_some_iff.mp e1
    obtain ⟨h2, q2⟩ := List.getElem?_eq_some_iff.mp ha
    exact (List.getElem_inj r.nd).mp (q1.trans (z.trans q2.symm))
theorem loc_new {a : Addr} : RV K (io ++ [a]) H (.ref a) (.loc io.length) := .loc (by rw [List.getElem?_append_right (Nat.le_refl _), Nat.sub_self]; rfl)
end
end DL

namespace DL
open PySem L2

/-- the names' values, and what is wanted of an exception -/
structure DEnv where
  l : List (Option Dv)
  ex : Addr → List (Str × Dv) → Store → Prop
abbrev WQ := Dv → Store → Prop
abbrev WE := DEnv → Store → WQ → Prop
abbrev WT := DEnv → Store → (Bool → Store → Prop) → Prop
abbrev WA := DEnv → Store → (List Dv → Store → Prop) → Prop
structure EnvR (K : PySem.W.Frag) (io : List Addr) (H : Hp) (σ : L2.St) (l : List (Option Dv)) : Prop where
  len : σ.length = l.length
  ok : ∀ (i : Nat) (d : Dv), l[i]? = some (some d) → ∃ v, σ[i]? = some (some v) ∧ RV K io H v d
theorem EnvR.mono {K : PySem.W.Frag} {io io' : List Addr} {H H' : Hp} {σ : L2.St} {l : List (Option Dv)} (g : Ge K io H io' H') (h : EnvR K io H σ l) : EnvR K io' H' σ l := ⟨h.len, fun i d e => by
  obtain ⟨v, h1, h2⟩ := h.ok i d e
  exact ⟨v, h1, h2.mono g⟩⟩
theorem EnvR.set {K : PySem.W.Frag} {io : List Addr} {H : Hp} {σ : L2.St} {l : List (Option Dv)} {v : V} {d : Dv} (h : EnvR K io H σ l) (i : Nat) (r : RV K io H v d) : EnvR K io H (σ.set i (some v)) (l.set i (some d)) :=
  ⟨by rw [List.length_set, List.length_set]; exact h.len, fun j e q => by
    by_cases hj : j = i
    · subst hj
      have hl : j < l.length := by
        have z := (List.getElem?_eq_some_iff.mp q).1
        rw [List.length_set] at z
        exact z
      rw [List.getElem?_set_self hl] at q; cases q
      exact ⟨v, List.getElem?_set_self (by rw [h.len]; exact hl), r⟩
    · rw [List.getElem?_set_ne (Ne.symm hj)] at q ⊢
      exact h.ok j e q⟩
/-- an exception of the class at C with these fields, at dd, is as it is wished -/
def ExOk (K : PySem.W.Frag) (W : L2.WX) (io : List Addr) (H : Hp) (σ : L2.St) (ex : Addr → List (Str × Dv) → Store → Prop) : Prop :=
  ∀ C fs S' dd io' H' vs, ex C fs S' → Ge K io H io' H' → Rl K io' H' S' → H' dd = some (.xd vs) → PrR K io' H' vs fs → W (.ref C) (some dd) σ H'
structure EnvOk (K : PySem.W.Frag) (W : L2.WX) (io : List Addr) (H : Hp) (σ : L2.St) (de : DEnv) : Prop where
  en : EnvR K io H σ de.l
  ex : ExOk K W io H σ de.ex
theorem ExOk.mono {K : PySem.W.Frag} {W : L2.WX} {io io' : List Addr} {H H' : Hp} {σ : L2.St} {ex : Addr → List (Str × Dv) → Store → Prop} (g : Ge K io H io' H') (h : ExOk K W io H σ ex) : ExOk K W io' H' σ ex :=
  fun C fs S' dd io2 H2 vs q g2 => h C fs S' dd io2 H2 vs q (g.trans g2)
theorem EnvOk.mono {K : PySem.W.Frag} {W : L2.WX} {io io' : List Addr} {H H' : Hp} {σ : L2.St} {de : DEnv} (g : Ge K io H io' H') (h : EnvOk K W io H σ de) : EnvOk K W io' H' σ de := ⟨h.en.mono g, h.ex.mono g⟩
section
variable (K : PySem.W.Frag) (W : L2.WX)
/-- what a value may be behind a step -/
def upQ (io : List Addr) (H : Hp) (Q : VK) : WQ := fun d S' => ∀ v io' H', Ge K io H io' H' → Rl K io' H' S' → RV K io' H' v d → Q v H'
def upE (t : WE) : TE := fun σ H Q => ∃ io de S, Rl K io H S ∧ EnvOk K W io H σ de ∧ t de S (upQ K io H Q)
def upT (t : WT) : TT := fun σ H Q => ∃ io de S, Rl K io H S ∧ EnvOk K W io H σ de ∧ t de S fun b S' => ∀ io' H', Ge K io H io' H' → Rl K io' H' S' → Q b H'
def upA (t : WA) : TA := fun σ H Q => ∃ io de S, Rl K io H S ∧ EnvOk K W io H σ de ∧ t de S fun ds S' => ∀ vs io' H', Ge K io H io' H' → Rl K io' H' S' → RVs K io' H' vs ds → Q vs H'
end
def MonoE (t : WE) : Prop := ∀ de S (Q Q' : WQ), (∀ d S', Q d S' → Q' d S') → t de S Q → t de S Q'
def MonoT (t : WT) : Prop := ∀ de S (Q Q' : Bool → Store → Prop), (∀ d S', Q d S' → Q' d S') → t de S Q → t de S Q'
def MonoA (t : WA) : Prop := ∀ de S (Q Q' : List Dv → Store → Prop), (∀ d S', Q d S' → Q' d S') → t de S Q → t de S Q'
structure FE (X : Cx) (W : L2.WX) (e : Expr) (t : WE) : Prop where
  pe : PE X e (upE X.K W t)
  mo : MonoE t
structure FT (X : Cx) (W : L2.WX) (e : Expr) (t : WT) : Prop where
  pt : PT X e (upT X.K W t)
  mo : MonoT t
structure FA (X : Cx) (W : L2.WX) (es : List Expr) (t : WA) : Prop where
  pa : PA X es (upA X.K W t)
  mo : MonoA t
section
variable {X : Cx} {W : L2.WX} {e a b : Expr} {es : List Expr} {ta tb : WE} {pos : Pos}
theorem imE {t t' : TE} (h : PE X e t) (k : ∀ σ H Q, t' σ H Q → t σ H Q) : PE X e t' := ⟨fun pins s σ H Q I q => h.run pins s σ H Q I (k σ H Q q)⟩
theorem imT {t t' : TT} (h : PT X e t) (k : ∀ σ H Q, t' σ H Q → t σ H Q) : PT X e t' := ⟨fun pins s σ H Q I q => h.run pins s σ H Q I (k σ H Q q)⟩
theorem imA {t t' : TA} (h : PA X es t) (k : ∀ σ H Q, t' σ H Q → t σ H Q) : PA X es t' := ⟨fun pos pins s σ H Q I q => h.run pos pins s σ H Q I (k σ H Q q)⟩
/-- an expression inside: from the pieces of the whole -/
theorem useE {K : PySem.W.Frag} {io : List Addr} {de : DEnv} {S : Store} {σ : L2.St} {H : Hp} {Q : VK} {Qd : WQ} (mo : MonoE ta) (r : Rl K io H S) (en : EnvOk K W io H σ de) (h : ta de S Qd)
    (k : ∀ d S' v io' H', Qd d S' → Ge K io H io' H' → Rl K io' H' S' → RV K io' H' v d → Q v H') : upE K W ta σ H Q :=
  ⟨io, de, S, r, en, mo _ _ _ _ (fun d S' q v io' H' g r' rv => k d S' v io' H' q g r' rv) h⟩
theorem useT {K : PySem.W.Frag} {t : WT} {io : List Addr} {de : DEnv} {S : Store} {σ : L2.St} {H : Hp} {Q : Bool → Hp → Prop} {Qd : Bool → Store → Prop} (mo : MonoT t) (r : Rl K io H S) (en : EnvOk K W io H σ de) (h : t de S Qd)
    (k : ∀ d S' io' H', Qd d S' → Ge K io H io' H' → Rl K io' H' S' → Q d H') : upT K W t σ H Q :=
  ⟨io, de, S, r, en, mo _ _ _ _ (fun d S' q io' H' g r' => k d S' io' H' q g r') h⟩
theorem useA {K : PySem.W.Frag} {t : WA} {io : List Addr} {de : DEnv} {S : Store} {σ : L2.St} {H : Hp} {Q : List V → Hp → Prop} {Qd : List Dv → Store → Prop} (mo : MonoA t) (r : Rl K io H S) (en : EnvOk K W io H σ de) (h : t de S Qd)
    (k : ∀ d S' v io' H', Qd d S' → Ge K io H io' H' → Rl K io' H' S' → RVs K io' H' v d → Q v H') : upA K W t σ H Q :=
  ⟨io, de, S, r, en, mo _ _ _ _ (fun d S' q v io' H' g r' rv => k d S' v io' H' q g r' rv) h⟩

/-! ### names, constants -/
def dV (i : Nat) : WE := fun de S Q => ∃ d, de.l[i]? = some (some d) ∧ Q d S
def dC (d : Dv) : WE := fun _ S Q => Q d S
theorem dV_mo {i : Nat} : MonoE (dV i) := fun _ _ _ _ k ⟨d, h, q⟩ => ⟨d, h, k _ _ q⟩
theorem dC_mo {d : Dv} : MonoE (dC d) := fun _ _ _ _ k q => k _ _ q
theorem fv (i : Nat) {x : Str} {pos : Pos} (hN : X.N[i]? = some x := by rfl) (hv : Vis X.env.scope x := by first | exact Or.inl rfl | exact Or.inr (Or.inl rfl) | exact Or.inr (Or.inr rfl)) (hd : (x == ("__debug__" : Str)) = false := by decide)
    (hcd : (x == ("__classdict__" : Str)) = false := by decide) : FE X W (.Name x pos) (dV i) :=
  ⟨imE (pe_var hN hv hd hcd) fun σ H Q ⟨io, de, S, r, en, d, h, q⟩ => by
    obtain ⟨v, h1, h2⟩ := en.en.ok i d h
    exact ⟨v, h1, q v io H .refl r h2⟩, dV_mo⟩
theorem fcon {v : V} {d : Dv} (h : PE X e (tC v)) (hr : ∀ io H, RV X.K io H v d) : FE X W e (dC d) :=
  ⟨imE h fun σ H Q ⟨io, de, S, r, en, q⟩ => q v io H .refl r (hr io H), dC_mo⟩
theorem fi {i j pos} : FE X W (.Constant (.int i) j pos) (dC (.int i)) := fcon pe_int fun _ _ => .int
theorem fb {b j pos} : FE X W (.Constant (.bool b) j pos) (dC (.bl b)) := fcon pe_bl fun _ _ => .bl
theorem fn {j pos} : FE X W (.Constant .none j pos) (dC .non) := fcon pe_non fun _ _ => .non
theorem fs {x j pos} : FE X W (.Constant (.str x) j pos) (dC (.str x)) := fcon pe_str fun _ _ => .str
/-- a module's constant: an int, a text, a def or class as a value -/
theorem fg {x : Str} {v : V} {d : Dv} {u : Value} {pos : Pos} (hg : Gl X x) (hm : X.mg x = some u) (r : RelV v u) (hr : ∀ io H, RV X.K io H v d) (hd : (x == ("__debug__" : Str)) = false := by decide) : FE X W (.Name x pos) (dC d) := fcon (pe_glob hg hm r hd) hr
theorem fbi {x : Str} {n : String} {pos : Pos} (hg : Gl X x) (hm : X.mg x = none) (hv : bootBuiltins x = some (.type n)) (hn : x ≠ "__name__" := by decide) (hd : (x == ("__debug__" : Str)) = false := by decide) : FE X W (.Name x pos) (dC (.ty n)) :=
  fcon (pe_bltn (v := .ty n) hg hm hv rfl hn hd) fun _ _ => .ty

/-! ### arguments, displays -/
def aN : WA := fun _ S Q => Q [] S
def aC (ta : WE) (t : WA) : WA := fun de S Q => ta de S fun d S1 => t de S1 fun ds S2 => Q (d :: ds) S2
theorem fa_n : FA X W [] aN := ⟨imA pa_nil fun σ H Q ⟨io, de, S, r, en, q⟩ => q [] io H .refl r .nil, fun _ _ _ _ k q => k _ _ q⟩
theorem aC_up {K : PySem.W.Frag} {t : WA} (ma : MonoE ta) (mt : MonoA t) {σ : L2.St} {H : Hp} {Q : List V → Hp → Prop} (h : upA K W (aC ta t) σ H Q) : tCons (upE K W ta) (upA K W t) σ H Q := by
  obtain ⟨io, de, S, r, en, h⟩ := h
  refine useE ma r en h fun d S1 v io1 H1 h1 g1 r1 rv => ?_
  exact useA mt r1 (en.mono g1) h1 fun ds S2 vs io2 H2 h2 g2 r2 rvs => h2 (v :: vs) io2 H2 (g1.trans g2) r2 (.cons (rv.mono g2) rvs)
theorem fa_c {t : WA} (h : FE X W e ta) (k : FA X W es t) (hs : starEach (e :: es) X.env = (false, eval e X.env) :: starEach es X.env := by rfl) : FA X W (e :: es) (aC ta t) :=
  ⟨imA (pa_cons h.pe k.pa hs) fun σ H Q q => aC_up h.mo k.mo q, fun de S Q Q' i q => h.mo _ _ _ _ (fun d S1 q1 => k.mo _ _ _ _ (fun ds S2 q2 => i _ _ q2) q1) q⟩
/-- the items of a tuple or list at place -/
def seqOf (S : Store) : Dv → List Dv → Prop
  | .tup xs, ys => xs = ys
  | .loc n, ys => S[n]? = some (.lst ys)
  | .frl xs, ys => xs = ys
  | _, _ => False
theorem seq_at {K : PySem.W.Frag} {io : List Addr} {H : Hp} {S : Store} {v : V} {d : Dv} {ys : List Dv} (r : Rl K io H S) (rv : RV K io H v d) (h : seqOf S d ys) : ∃ a vs, v = .ref a ∧ (SqL K H a vs ∨ SqT K H a vs) ∧ RVs K io H vs ys := by
  cases rv with
  | tup h1 h2 => cases h; exact ⟨_, _, rfl, .inr h1, h2⟩
  | loc h1 =>
    obtain ⟨a, e, vs, q1, q2⟩ := r.at h
    rw [h1] at e; cases e
    exact ⟨_, vs, rfl, .inl (SqL.of q1), q2⟩
  | frl h1 h2 => cases h; exact ⟨_, _, rfl, .inl h1.sq, h2⟩
  | _ => exact (show False from h).elim
def aS (ta : WE) (t : WA) : WA := fun de S Q => ta de S fun d S1 => ∃ ys, seqOf S1 d ys ∧ t de S1 fun ds S2 => Q (ys ++ ds) S2
theorem fa_s {t : WA} {p : Pos} (h : FE X W e ta) (k : FA X W es t) (hs : starEach (.Starred e p :: es) X.env = (true, eval e X.env) :: starEach es X.env := by rfl) : FA X W (.Starred e p :: es) (aS ta t) :=
  ⟨imA (StX.pa_star h.pe k.pa hs) fun σ H Q ⟨io, de, S, r, en, q⟩ => by
    refine useE h.mo r en q fun d S1 v io1 H1 ⟨ys, hs, h1⟩ g1 r1 rv => ?_
    obtain ⟨a, vs, rfl, sq, rvs⟩ := seq_at r1 rv hs
    refine ⟨a, vs, rfl, sq.symm, ?_⟩
    exact useA k.mo r1 (en.mono g1) h1 fun ds S2 ws io2 H2 h2 g2 r2 rws => h2 (vs ++ ws) io2 H2 (g1.trans g2) r2 ((rvs.mono g2).append rws),
   fun de S Q Q' i q => h.mo _ _ _ _ (fun d S1 ⟨ys, hs, q1⟩ => ⟨ys, hs, k.mo _ _ _ _ (fun ds S2 q2 => i _ _ q2) q1⟩) q⟩
def dTup (t : WA) : WE := fun de S Q => t de S fun ds S1 => ds.length ≤ sizeLine ∧ Q (.tup ds) S1
def dLst (t : WA) : WE := fun de S Q => t de S fun ds S1 => ds.length ≤ sizeLine ∧ Q (.loc S1.length) (S1 ++ [.lst ds])
theorem new_tup {K : PySem.W.Frag} {io io1 : List Addr} {H H1 : Hp} {S1 : Store} {p : Addr} {vs : List V} {ds : List Dv} {Q : VK} (g : Ge K io H io1 H1) (r : Rl K io1 H1 S1) (rvs : RVs K io1 H1 vs ds) (hp : H1 p = none) (q : upQ K io H Q (.tup ds) S1) : Q (.ref p) (upd H1 p (.tup vs)) := by
  have g2 : Ge K io1 H1 io1 (upd H1 p (.tup vs)) := ge_new hp
  exact q _ io1 _ (g.trans g2) (r.laid hp) (.tup (SqT.of upd_same) (rvs.mono g2))
theorem new_lst {K : PySem.W.Frag} {io io1 : List Addr} {H H1 : Hp} {S1 : Store} {p : Addr} {vs : List V} {ds : List Dv} {Q : VK} (g : Ge K io H io1 H1) (r : Rl K io1 H1 S1) (rvs : RVs K io1 H1 vs ds) (hp : H1 p = none) (q : upQ K io H Q (.loc S1.length) (S1 ++ [.lst ds])) : Q (.ref p) (upd H1 p (.lst vs)) := by
  have g2 : Ge K io1 H1 io1 (upd H1 p (.lst vs)) := ge_new hp
  have g3 : Ge K io1 (upd H1 p (.lst vs)) (io1 ++ [p]) (upd H1 p (.lst vs)) := ge_ext
  refine q _ (io1 ++ [p]) _ ((g.trans g2).trans g3) (r.push hp ⟨vs, upd_same, rvs.mono (g2.trans g3)⟩) ?_
  rw [← r.len]
  exact loc_new
theorem ftup {t : WA} {x1} (h : FA X W es t) : FE X W (.Tuple es x1 pos) (dTup t) :=
  ⟨imE (pe_tup h.pa) fun σ H Q ⟨io, de, S, r, en, q⟩ => useA h.mo r en q fun ds S1 vs io1 H1 ⟨hz, q1⟩ g1 r1 rvs =>
    ⟨by rw [rvs.length]; exact hz, fun p hp => new_tup g1 r1 rvs hp q1⟩, fun de S Q Q' i q => h.mo _ _ _ _ (fun d S1 q1 => ⟨q1.1, i _ _ q1.2⟩) q⟩
theorem flst {t : WA} (h : FA X W es t) : FE X W (.List es pos) (dLst t) :=
  ⟨imE (pe_lst h.pa) fun σ H Q ⟨io, de, S, r, en, q⟩ => useA h.mo r en q fun ds S1 vs io1 H1 ⟨hz, q1⟩ g1 r1 rvs =>
    ⟨by rw [rvs.length]; exact hz, fun p hp => new_lst g1 r1 rvs hp q1⟩, fun de S Q Q' i q => h.mo _ _ _ _ (fun d S1 q1 => ⟨q1.1, i _ _ q1.2⟩) q⟩

/-! ### operators -/
abbrev WO := Dv → Dv → Store → WQ → Prop
def dOp (o : WO) (ta tb : WE) : WE := fun de S Q => ta de S fun x S1 => tb de S1 fun y S2 => o x y S2 Q
structure OpOk (K : PySem.W.Frag) (r : R2) (o : WO) : Prop where
  ok : ∀ x y dx dy io H S (Q : VK) (io0 : List Addr) (H0 : Hp), Ge K io0 H0 io H → Rl K io H S → RV K io H x dx → RV K io H y dy → o dx dy S (upQ K io0 H0 Q) → r x y H Q
  mo : ∀ x y S (Q Q' : WQ), (∀ d S', Q d S' → Q' d S') → o x y S Q → o x y S Q'
theorem upQ_pre {K : PySem.W.Frag} {io io1 : List Addr} {H H1 : Hp} {Q : VK} (g : Ge K io H io1 H1) {d : Dv} {S : Store} (h : upQ K io H Q d S) : upQ K io1 H1 Q d S := fun v io' H' g' r rv => h v io' H' (g.trans g') r rv
theorem op_up {K : PySem.W.Frag} {r : R2} {o : WO} (k : OpOk K r o) (ma : MonoE ta) (mb : MonoE tb) {σ : L2.St} {H : Hp} {Q : VK} (h : upE K W (dOp o ta tb) σ H Q) : tOp r (upE K W ta) (upE K W tb) σ H Q := by
  obtain ⟨io, de, S, rl, en, h⟩ := h
  refine useE ma rl en h fun x S1 vx io1 H1 h1 g1 r1 rx => ?_
  exact useE mb r1 (en.mono g1) h1 fun y S2 vy io2 H2 h2 g2 r2 ry => k.ok _ _ _ _ _ _ _ _ _ _ (g1.trans g2) r2 (rx.mono g2) ry h2
theorem dOp_mo {K : PySem.W.Frag} {r : R2} {o : WO} (k : OpOk K r o) (ma : MonoE ta) (mb : MonoE tb) : MonoE (dOp o ta tb) := fun de S Q Q' i q => ma _ _ _ _ (fun x S1 q1 => mb _ _ _ _ (fun y S2 q2 => k.mo _ _ _ _ _ i q2) q1) q
theorem fop {op : Operator} {r : R2} {o : WO} (ho : OpR X (binaryOp op) r) (k : OpOk X.K r o) (ha : FE X W a ta) (hb : FE X W b tb) : FE X W (.BinOp a op b pos) (dOp o ta tb) :=
  ⟨imE (pe_op ho ha.pe hb.pe) fun σ H Q q => op_up k ha.mo hb.mo q, dOp_mo k ha.mo hb.mo⟩
theorem fcmp {op : CmpOp} {r : R2} {o : WO} (ho : OpR X (compareOp op) r) (k : OpOk X.K r o) (ha : FE X W a ta) (hb : FE X W b tb) (hm : behindInMarks op b = false) : FE X W (.Compare a [op] [b] pos) (dOp o ta tb) :=
  ⟨imE (pe_cmpR ho ha.pe hb.pe hm) fun σ H Q q => op_up k ha.mo hb.mo q, dOp_mo k ha.mo hb.mo⟩
def orR (r1 r2 : R2) : R2 := fun x y H Q => r1 x y H Q ∨ r2 x y H Q
theorem op_or {f : Value → Value → Sem Value} {r1 r2 : R2} (h1 : OpR X f r1) (h2 : OpR X f r2) : OpR X f (orR r1 r2) := fun pins s σ H x y v u Q I rx ry h => by
  rcases h with h | h
  · exact h1 pins s σ H x y v u Q I rx ry h
  · exact h2 pins s σ H x y v u Q I rx ry h
/-- a value that stands as it is -/
theorem here {K : PySem.W.Frag} {io0 io : List Addr} {H0 H : Hp} {S : Store} {Q : VK} {v : V} {d : Dv} (g : Ge K io0 H0 io H) (r : Rl K io H S) (rv : RV K io H v d) (q : upQ K io0 H0 Q d S) : Q v H := q v io H g r rv

end
end DL

namespace DL
open PySem L2

/-! ### operators by values -/
def oI (C : Int → Int → Prop) (g : Int → Int → Dv) : WO := fun x y S Q => match x, y with
  | .int i, .int j => C i j ∧ Q (g i j) S
  | _, _ => False
theorem okI {K : PySem.W.Frag} {C : Int → Int → Prop} {g : Int → Int → V} {g' : Int → Int → Dv} (hg : ∀ i j io H, RV K io H (g i j) (g' i j)) : OpOk K (rI C g) (oI C g') where
  ok := fun x y dx dy io H S Q io0 H0 g r rx ry h => by
    cases rx <;> cases ry <;> first | exact (show False from h).elim | skip
    obtain ⟨hc, q⟩ := h
    exact ⟨_, _, rfl, rfl, hc, here g r (hg _ _ _ _) q⟩
  mo := fun x y S Q Q' i h => by
    cases x <;> cases y <;> first | exact (show False from h).elim | skip
    exact ⟨h.1, i _ _ h.2⟩
def cT : Int → Int → Prop := fun _ _ => True
theorem rI_of0 {X : Cx} {f : Value → Value → Sem Value} {g : Int → Int → V} (h : OpR X f (rI0 g)) : OpR X f (rI cT g) := fun pins s σ H x y v u Q I rx ry ⟨i, j, e1, e2, _, q⟩ => h pins s σ H x y v u Q I rx ry ⟨i, j, e1, e2, q⟩
theorem orOk {K : PySem.W.Frag} {r1 r2 : R2} {o1 o2 o : WO} (h1 : OpOk K r1 o1) (h2 : OpOk K r2 o2) (h : ∀ x y S Q, o x y S Q → o1 x y S Q ∨ o2 x y S Q) (mo : ∀ x y S (Q Q' : WQ), (∀ d S', Q d S' → Q' d S') → o x y S Q → o x y S Q') : OpOk K (orR r1 r2) o where
  ok := fun x y dx dy io H S Q io0 H0 g r rx ry q => (h _ _ _ _ q).imp (h1.ok x y dx dy io H S Q io0 H0 g r rx ry) (h2.ok x y dx dy io H S Q io0 H0 g r rx ry)
  mo := mo
/-- + -/
def oAdd : WO := fun x y S Q => match x, y with
  | .int i, .int j => Q (.int (i + j)) S
  | .str i, .str j => i.length + j.length ≤ sizeLine ∧ Q (.str (i ++ j)) S
  | .tup xs, .tup ys => xs.length + ys.length ≤ sizeLine ∧ Q (.tup (xs ++ ys)) S
  | .loc m, .loc n => ∃ xs ys, S[m]? = some (.lst xs) ∧ S[n]? = some (.lst ys) ∧ xs.length + ys.length ≤ sizeLine ∧ Q (.loc S.length) (S ++ [.lst (xs ++ ys)])
  | _, _ => False
def rAddAll (K : PySem.W.Frag) : R2 := orR (rI0 fun i j => .int (i + j)) (orR (fun x y H Q => ∃ i j, x = .str i ∧ y = .str j ∧ i.length + j.length ≤ sizeLine ∧ Q (.str (i ++ j)) H) (orR (rCatA K) rCat))
theorem op_addAll {X : Cx} : OpR X (binaryOp .Add) (rAddAll X.K) := op_or op_add (op_or op_add_str (op_or op_catA op_cat))
theorem okAdd {K : PySem.W.Frag} : OpOk K (rAddAll K) oAdd where
  ok := fun x y dx dy io H S Q io0 H0 g r rx ry h => by
    cases rx <;> cases ry <;> first | exact (show False from h).elim | skip
    · exact .inl ⟨_, _, rfl, rfl, here g r .int h⟩
    · exact .inr (.inl ⟨_, _, rfl, rfl, h.1, here g r .str h.2⟩)
    · rename_i m a e1 n b e2
      obtain ⟨xs, ys, h1, h2, hz, q⟩ := h
      obtain ⟨a', q1, vs, ha, rv⟩ := r.at h1
      obtain ⟨b', q2, ws, hb, rw⟩ := r.at h2
      rw [e1] at q1; cases q1
      rw [e2] at q2; cases q2
      exact .inr (.inr (.inr ⟨_, _, vs, ws, rfl, rfl, ha, hb, by rw [rv.length, rw.length]; exact hz, fun p hp => new_lst g r (rv.append rw) hp q⟩))
    · rename_i a vs xs h1 r1 b ws ys h2 r2
      obtain ⟨hz, q⟩ := h
      refine .inr (.inr (.inl ⟨_, _, vs, ws, rfl, rfl, h1, h2, by rw [r1.length, r2.length]; exact hz, fun e => ?_, fun e e2 => ?_, fun e e2 p hp => new_tup g r (r1.append r2) hp q⟩))
      · subst e; cases r1
        exact here g r (.tup h2 r2) q
      · subst e2; cases r2
        rw [List.append_nil] at q
        exact here g r (.tup h1 r1) q
  mo := fun x y S Q Q' i h => by
    cases x <;> cases y <;> first | exact (show False from h).elim | skip
    · exact i _ _ h
    · exact ⟨h.1, i _ _ h.2⟩
    · exact ⟨h.1, i _ _ h.2⟩
    · obtain ⟨xs, ys, h1, h2, hz, q⟩ := h
      exact ⟨xs, ys, h1, h2, hz, i _ _ q⟩
section
variable {X : Cx} {W : L2.WX} {e a b c : Expr} {ta tb tc : WE} {pos : Pos}
theorem fadd (ha : FE X W a ta) (hb : FE X W b tb) : FE X W (.BinOp a .Add b pos) (dOp oAdd ta tb) := fop op_addAll okAdd ha hb
def oSub : WO := oI cT fun i j => .int (i - j)
theorem fsub (ha : FE X W a ta) (hb : FE X W b tb) : FE X W (.BinOp a .Sub b pos) (dOp oSub ta tb) := fop (rI_of0 op_sub) (okI fun _ _ _ _ => .int) ha hb
def oMul : WO := oI CMul fun i j => .int (i * j)
theorem fmul (ha : FE X W a ta) (hb : FE X W b tb) : FE X W (.BinOp a .Mult b pos) (dOp oMul ta tb) := fop op_mul (okI fun _ _ _ _ => .int) ha hb
def oMod : WO := oI (fun _ j => 0 < j) fun i j => .int (i % j)
theorem fmod (ha : FE X W a ta) (hb : FE X W b tb) : FE X W (.BinOp a .Mod b pos) (dOp oMod ta tb) := fop op_mod (okI fun _ _ _ _ => .int) ha hb
def oDiv : WO := oI CDivW fun i j => .int (i / j)
theorem fdiv (ha : FE X W a ta) (hb : FE X W b tb) : FE X W (.BinOp a .FloorDiv b pos) (dOp oDiv ta tb) := fop op_fdivW (okI fun _ _ _ _ => .int) ha hb
def oPow : WO := oI CPow fun i j => .int (i ^ j.toNat)
theorem fpow (ha : FE X W a ta) (hb : FE X W b tb) : FE X W (.BinOp a .Pow b pos) (dOp oPow ta tb) := fop op_pow (okI fun _ _ _ _ => .int) ha hb
/-- -a -/
def dNeg (ta : WE) : WE := fun de S Q => ta de S fun d S1 => match d with | .int i => Q (.int (-i)) S1 | _ => False
theorem fneg (ha : FE X W a ta) : FE X W (.UnaryOp .USub a pos) (dNeg ta) :=
  ⟨imE (pe_un un_neg ha.pe) fun σ H Q ⟨io, de, S, r, en, q⟩ => useE ha.mo r en q fun d S1 v io1 H1 h g1 r1 rv => by
    cases rv <;> first | exact (show False from h).elim | skip
    exact ⟨_, rfl, here g1 r1 .int h⟩,
   fun de S Q Q' i q => ha.mo _ _ _ _ (fun d S1 q1 => by
    cases d <;> first | exact (show False from q1).elim | skip
    exact i _ _ q1) q⟩

/-! ### comparisons of ints -/
def oC (p : Int → Int → Bool) : WO := oI cT fun i j => .bl (p i j)
abbrev oLt : WO := oC fun i j => decide (i < j)
abbrev oLe : WO := oC fun i j => decide (i ≤ j)
abbrev oGt : WO := oC fun i j => decide (j < i)
abbrev oGe : WO := oC fun i j => decide (j ≤ i)
theorem okC {K : PySem.W.Frag} {p : Int → Int → Bool} : OpOk K (rI cT fun i j => V.bl (p i j)) (oC p) := okI fun _ _ _ _ => .bl
theorem flt (ha : FE X W a ta) (hb : FE X W b tb) : FE X W (.Compare a [.Lt] [b] pos) (dOp oLt ta tb) := fcmp (rI_of0 op_lt) okC ha hb (nomark _)
theorem fle (ha : FE X W a ta) (hb : FE X W b tb) : FE X W (.Compare a [.LtE] [b] pos) (dOp oLe ta tb) := fcmp (rI_of0 op_le) okC ha hb (nomark _)
theorem fgt (ha : FE X W a ta) (hb : FE X W b tb) : FE X W (.Compare a [.Gt] [b] pos) (dOp oGt ta tb) := fcmp (rI_of0 op_gt) okC ha hb (nomark _)
theorem fge (ha : FE X W a ta) (hb : FE X W b tb) : FE X W (.Compare a [.GtE] [b] pos) (dOp oGe ta tb) := fcmp (rI_of0 op_ge) okC ha hb (nomark _)
/-! ### == of data -/
mutual
inductive Py (S : Store) : Dv → PyData → Prop
  | non : Py S .non .none
  | bl {b : Bool} : Py S (.bl b) (.bool b)
  | int {i : Int} : Py S (.int i) (.int i)
  | str {x : Str} : Py S (.str x) (.str x)
  | tup {xs : List Dv} {ps : List PyData} : Pys S xs ps → Py S (.tup xs) (.tuple ps)
  | lst {n : Nat} {xs : List Dv} {ps : List PyData} : S[n]? = some (.lst xs) → Pys S xs ps → Py S (.loc n) (.list ps)
inductive Pys (S : Store) : List Dv → List PyData → Prop
  | nil : Pys S [] []
  | cons {d : Dv} {p : PyData} {ds : List Dv} {ps : List PyData} : Py S d p → Pys S ds ps → Pys S (d :: ds) (p :: ps)
end
section
variable {K : PySem.W.Frag} {io : List Addr} {H : Hp} {S : Store}
mutual
theorem Py.dp (r : Rl K io H S) : ∀ {d : Dv} {p : PyData} {v : V}, Py S d p → RV K io H v d → Dp K H v p
  | _, _, _, .non, .non => .non
  | _, _, _, .bl, .bl => .bl _
  | _, _, _, .int, .int => .int _
  | _, _, _, .str, .str => .str _
  | _, _, _, .tup h, .tup h1 h2 => .tup h1 (Pys.dp r h h2)
  | _, _, _, .lst h k, .loc e => by
    obtain ⟨a, q, vs, ha, rv⟩ := r.at h
    rw [e] at q; cases q
    exact .lst (SqL.of ha) (Pys.dp r k rv)
theorem Pys.dp (r : Rl K io H S) : ∀ {d : List Dv} {p : List PyData} {v : List V}, Pys S d p → RVs K io H v d → DpAll K H v p
  | _, _, _, .nil, .nil => .nil
  | _, _, _, .cons h k, .cons h1 h2 => .cons (Py.dp r h h1) (Pys.dp r k h2)
end
end
/-- == of two scalars -/
def eqF : Dv → Dv → Option Bool
  | .non, .non => some true | .non, .int _ => some false | .int _, .non => some false | .non, .bl _ => some false | .bl _, .non => some false | .non, .str _ => some false | .str _, .non => some false
  | .int i, .int j => some (i == j) | .bl i, .bl j => some (i == j) | .str i, .str j => some (i == j)
  | .int _, .str _ => some false | .str _, .int _ => some false | .bl _, .str _ => some false | .str _, .bl _ => some false
  | _, _ => none
def lstD (S : Store) : Dv → List Dv → Prop
  | .loc n, ys => S[n]? = some (.lst ys)
  | _, _ => False
theorem lstD_at {K : PySem.W.Frag} {io : List Addr} {H : Hp} {S : Store} {v : V} {d : Dv} {ys : List Dv} (r : Rl K io H S) (rv : RV K io H v d) (h : lstD S d ys) : ∃ a vs, v = .ref a ∧ SqL K H a vs ∧ RVs K io H vs ys := by
  cases rv with
  | loc h1 =>
    obtain ⟨a, e, vs, q1, q2⟩ := r.at h
    rw [h1] at e; cases e
    exact ⟨_, vs, rfl, SqL.of q1, q2⟩
  | _ => exact (show False from h).elim
/-- == beside data: two lists of which one is empty; a list and a tuple -/
def eqX (S : Store) (x y : Dv) (Q : Bool → Prop) : Prop :=
  (∃ p q, Py S x p ∧ Py S y q ∧ SeqAt.shaped p = true ∧ SeqAt.shaped q = true ∧ Q (PyData.eqv p q)) ∨
  (∃ xs ys, lstD S x xs ∧ lstD S y ys ∧ (xs = [] ∨ ys = []) ∧ Q (xs.isEmpty && ys.isEmpty)) ∨
  (∃ xs ys, lstD S x xs ∧ y = .tup ys ∧ Q false)
def oEq : WO := fun x y S Q => match eqF x y with
  | some b => Q (.bl b) S
  | none => eqX S x y fun b => Q (.bl b) S
def oNe : WO := fun x y S Q => match eqF x y with
  | some b => Q (.bl (!b)) S
  | none => eqX S x y fun b => Q (.bl (!b)) S
theorem eqF_of {K : PySem.W.Frag} {io : List Addr} {H : Hp} {v w : V} {d e : Dv} {b : Bool} (r : RV K io H v d) (q : RV K io H w e) (h : eqF d e = some b) : scal v w = true ∧ decide (v = w) = b := by
  cases r <;> cases q <;> first
    | (cases h; exact ⟨rfl, by first | exact dec_int | exact dec_bl | exact dec_str | simp⟩)
    | (exfalso; revert h; simp [eqF])
def rEmp (K : PySem.W.Frag) (n : Bool) : R2 := fun x y H Q => ∃ a b xs ys, x = .ref a ∧ y = .ref b ∧ SqL K H a xs ∧ SqL K H b ys ∧ (xs = [] ∨ ys = []) ∧ Q (.bl (if n then !(xs.isEmpty && ys.isEmpty) else (xs.isEmpty && ys.isEmpty))) H
def rLsT (K : PySem.W.Frag) (n : Bool) : R2 := fun x y H Q => ∃ a b xs ys, x = .ref a ∧ y = .ref b ∧ SqL K H a xs ∧ SqT K H b ys ∧ Q (.bl n) H
theorem emp_sz {xs ys : List V} {us ws : List Value} (r1 : Vals xs us) (r2 : Vals ys ws) (h : xs = [] ∨ ys = []) : (us = [] ∧ ws = [] ∧ (xs.isEmpty && ys.isEmpty) = true) ∨ ((us.toArray.size != ws.toArray.size) = true ∧ (xs.isEmpty && ys.isEmpty) = false) := by
  cases r1 <;> cases r2 <;> simp_all
theorem op_eqE {X : Cx} (hu : X.A.units + 64 < cLine) : OpR X (compareOp .Eq) (rEmp X.K false) := by
  intro pins s σ H x y v u Q I rx ry h
  obtain ⟨a, b, xs, ys, rfl, rfl, h1, h2, he, q⟩ := h
  cases rx; cases ry
  obtain ⟨us, r1, p1, _⟩ := I.list h1
  obtain ⟨ws, r2, p2, _⟩ := I.list h2
  rcases emp_sz r1 r2 he with ⟨e1, e2, e3⟩ | ⟨e1, e3⟩
  · subst e1 e2
    rw [e3] at q
    exact SeqAt.eq_listAt (e := fun _ => true) p1.isList p2.isList rfl (by omega) (fun j h1 _ => by simp at h1) ⟨.bl true, H, I, rfl, q⟩
  · rw [e3] at q
    exact SeqAt.eq_list_lengthsAt p1.isList p2.isList e1 (by omega) ⟨.bl false, H, I, rfl, q⟩
theorem op_neE {X : Cx} (hu : X.A.units + 64 < cLine) : OpR X (compareOp .NotEq) (rEmp X.K true) := by
  intro pins s σ H x y v u Q I rx ry h
  obtain ⟨a, b, xs, ys, rfl, rfl, h1, h2, he, q⟩ := h
  cases rx; cases ry
  obtain ⟨us, r1, p1, _⟩ := I.list h1
  obtain ⟨ws, r2, p2, _⟩ := I.list h2
  rcases emp_sz r1 r2 he with ⟨e1, e2, e3⟩ | ⟨e1, e3⟩
  · subst e1 e2
    rw [e3] at q
    exact SeqAt.RcNeAt.lists (e := fun _ => true) p1.isList p2.isList rfl (by omega) (fun j h1 _ => by simp at h1) X.prog X.w _ _ ⟨.bl false, H, I, rfl, q⟩
  · rw [e3] at q
    exact SeqAt.RcNeAt.lists_lengths p1.isList p2.isList e1 (by omega) X.prog X.w _ _ ⟨.bl true, H, I, rfl, q⟩
theorem op_eqLT {X : Cx} (hu : X.A.units + 64 < cLine) : OpR X (compareOp .Eq) (rLsT X.K false) := by
  intro pins s σ H x y v u Q I rx ry h
  obtain ⟨a, b, xs, ys, rfl, rfl, h1, h2, q⟩ := h
  cases rx; cases ry
  obtain ⟨us, r1, p1, _⟩ := I.list h1
  obtain ⟨ws, r2, p2, _⟩ := I.tuple h2
  exact SeqAt.RcAt.list_tuple p1.isList (show s.heap.IsTuple b ws.toArray from p2) (by omega) X.prog X.w _ _ ⟨.bl false, H, I, rfl, q⟩
theorem op_neLT {X : Cx} (hu : X.A.units + 64 < cLine) : OpR X (compareOp .NotEq) (rLsT X.K true) := by
  intro pins s σ H x y v u Q I rx ry h
  obtain ⟨a, b, xs, ys, rfl, rfl, h1, h2, q⟩ := h
  cases rx; cases ry
  obtain ⟨us, r1, p1, _⟩ := I.list h1
  obtain ⟨ws, r2, p2, _⟩ := I.tuple h2
  exact SeqAt.RcNeAt.list_tuple p1.isList (show s.heap.IsTuple b ws.toArray from p2) (by omega) X.prog X.w _ _ ⟨.bl true, H, I, rfl, q⟩
def rEqA (K : PySem.W.Frag) : R2 := orR rEq (orR (rEqD K) (orR (rEmp K false) (rLsT K false)))
def rNeA (K : PySem.W.Frag) : R2 := orR rNe (orR (rNeD K) (orR (rEmp K true) (rLsT K true)))
theorem op_eqA {X : Cx} (hu : X.A.units + 64 < cLine) : OpR X (compareOp .Eq) (rEqA X.K) := op_or op_eq (op_or (op_eqD hu) (op_or (op_eqE hu) (op_eqLT hu)))
theorem op_neA {X : Cx} (hu : X.A.units + 64 < cLine) : OpR X (compareOp .NotEq) (rNeA X.K) := op_or op_ne (op_or (op_neD hu) (op_or (op_neE hu) (op_neLT hu)))
theorem eqX_mo {S : Store} {x y : Dv} {Q Q' : Bool → Prop} (i : ∀ b, Q b → Q' b) (h : eqX S x y Q) : eqX S x y Q' := by
  rcases h with ⟨p, q, h1, h2, s1, s2, k⟩ | ⟨xs, ys, h1, h2, h3, k⟩ | ⟨xs, ys, h1, h2, k⟩
  · exact .inl ⟨p, q, h1, h2, s1, s2, i _ k⟩
  · exact .inr (.inl ⟨xs, ys, h1, h2, h3, i _ k⟩)
  · exact .inr (.inr ⟨xs, ys, h1, h2, i _ k⟩)
theorem emp_of {K : PySem.W.Frag} {io : List Addr} {H : Hp} {vs : List V} {ds : List Dv} (r : RVs K io H vs ds) : vs.isEmpty = ds.isEmpty ∧ (ds = [] → vs = []) := by
  cases r
  · exact ⟨rfl, fun _ => rfl⟩
  · exact ⟨rfl, fun z => by cases z⟩
theorem okEq {K : PySem.W.Frag} : OpOk K (rEqA K) oEq := ⟨fun x y dx dy io H S Q io0 H0 g r rx ry h => by
    unfold oEq at h
    cases e : eqF dx dy with
    | some b =>
      rw [e] at h
      obtain ⟨h1, h2⟩ := eqF_of rx ry e
      exact .inl ⟨h1, by rw [h2]; exact here g r .bl h⟩
    | none =>
      rw [e] at h
      rcases h with ⟨p, q, h1, h2, s1, s2, k⟩ | ⟨xs, ys, h1, h2, h3, k⟩ | ⟨xs, ys, h1, rfl, k⟩
      · exact .inr (.inl ⟨p, q, h1.dp r rx, h2.dp r ry, s1, s2, here g r .bl k⟩)
      · obtain ⟨a, vs, rfl, l1, v1⟩ := lstD_at r rx h1
        obtain ⟨b, ws, rfl, l2, v2⟩ := lstD_at r ry h2
        refine .inr (.inr (.inl ⟨a, b, vs, ws, rfl, rfl, l1, l2, h3.imp (emp_of v1).2 (emp_of v2).2, ?_⟩))
        rw [(emp_of v1).1, (emp_of v2).1]
        exact here g r .bl k
      · obtain ⟨a, vs, rfl, l1, v1⟩ := lstD_at r rx h1
        cases ry with
        | tup t1 t2 => exact .inr (.inr (.inr ⟨a, _, vs, _, rfl, rfl, l1, t1, here g r .bl k⟩)),
  fun x y S Q Q' i h => by
    unfold oEq at h ⊢
    cases e : eqF x y with
    | some b => rw [e] at h; exact i _ _ h
    | none => rw [e] at h; exact eqX_mo (fun b => i _ _) h⟩
theorem okNe {K : PySem.W.Frag} : OpOk K (rNeA K) oNe := ⟨fun x y dx dy io H S Q io0 H0 g r rx ry h => by
    unfold oNe at h
    cases e : eqF dx dy with
    | some b =>
      rw [e] at h
      obtain ⟨h1, h2⟩ := eqF_of rx ry e
      exact .inl ⟨h1, by rw [h2]; exact here g r .bl h⟩
    | none =>
      rw [e] at h
      rcases h with ⟨p, q, h1, h2, s1, s2, k⟩ | ⟨xs, ys, h1, h2, h3, k⟩ | ⟨xs, ys, h1, rfl, k⟩
      · exact .inr (.inl ⟨p, q, h1.dp r rx, h2.dp r ry, s1, s2, here g r .bl k⟩)
      · obtain ⟨a, vs, rfl, l1, v1⟩ := lstD_at r rx h1
        obtain ⟨b, ws, rfl, l2, v2⟩ := lstD_at r ry h2
        refine .inr (.inr (.inl ⟨a, b, vs, ws, rfl, rfl, l1, l2, h3.imp (emp_of v1).2 (emp_of v2).2, ?_⟩))
        rw [(emp_of v1).1, (emp_of v2).1]
        exact here g r .bl k
      · obtain ⟨a, vs, rfl, l1, v1⟩ := lstD_at r rx h1
        cases ry with
        | tup t1 t2 => exact .inr (.inr (.inr ⟨a, _, vs, _, rfl, rfl, l1, t1, here g r .bl k⟩)),
  fun x y S Q Q' i h => by
    unfold oNe at h ⊢
    cases e : eqF x y with
    | some b => rw [e] at h; exact i _ _ h
    | none => rw [e] at h; exact eqX_mo (fun b => i _ _) h⟩
theorem feq (hu : X.A.units + 64 < cLine) (ha : FE X W a ta) (hb : FE X W b tb) : FE X W (.Compare a [.Eq] [b] pos) (dOp oEq ta tb) := fcmp (op_eqA hu) okEq ha hb (nomark _)
theorem fne (hu : X.A.units + 64 < cLine) (ha : FE X W a ta) (hb : FE X W b tb) : FE X W (.Compare a [.NotEq] [b] pos) (dOp oNe ta tb) := fcmp (op_neA hu) okNe ha hb (nomark _)
/-! ### is None -/
def isNon : Dv → Bool | .non => true | _ => false
def oIsN : WO := fun x y S Q => match y with | .non => Q (.bl (isNon x)) S | _ => False
def oNotN : WO := fun x y S Q => match y with | .non => Q (.bl (!isNon x)) S | _ => False
theorem isNon_of {K : PySem.W.Frag} {io : List Addr} {H : Hp} {v : V} {d : Dv} (r : RV K io H v d) : decide (v = .non) = isNon d := by
  cases r <;> first | rfl | (exact decide_eq_false (fun z => by cases z))
theorem okIsN {K : PySem.W.Frag} : OpOk K (fun x y H Q => y = .non ∧ Q (.bl (decide (x = .non))) H) oIsN := ⟨fun x y dx dy io H S Q io0 H0 g r rx ry h => by
    cases ry <;> first | exact (show False from h).elim | skip
    exact ⟨rfl, here g r .bl (by rw [isNon_of rx]; exact h)⟩, fun x y S Q Q' i h => by
    cases y <;> first | exact (show False from h).elim | skip
    exact i _ _ h⟩
theorem okNotN {K : PySem.W.Frag} : OpOk K (fun x y H Q => y = .non ∧ Q (.bl (!decide (x = .non))) H) oNotN := ⟨fun x y dx dy io H S Q io0 H0 g r rx ry h => by
    cases ry <;> first | exact (show False from h).elim | skip
    exact ⟨rfl, here g r .bl (by rw [isNon_of rx]; exact h)⟩, fun x y S Q Q' i h => by
    cases y <;> first | exact (show False from h).elim | skip
    exact i _ _ h⟩
theorem fisn (ha : FE X W a ta) (hb : FE X W b tb) : FE X W (.Compare a [.Is] [b] pos) (dOp oIsN ta tb) := fcmp op_isN okIsN ha hb (nomark _)
theorem fnotn (ha : FE X W a ta) (hb : FE X W b tb) : FE X W (.Compare a [.IsNot] [b] pos) (dOp oNotN ta tb) := fcmp op_notN okNotN ha hb (nomark _)
/-! ### in, not in -/
def flatD : Dv → Bool
  | .non => true | .bl _ => true | .int _ => true | .str _ => true | _ => false
def eqD : Dv → Dv → Bool
  | .non, .non => true
  | .bl a, .bl b => a == b
  | .bl a, .int b => (if a then 1 else 0) == b
  | .int a, .bl b => a == (if b then 1 else 0)
  | .int a, .int b => a == b
  | .str a, .str b => a == b
  | _, _ => false
def inD (x : Dv) (xs : List Dv) : Bool := xs.any fun y => eqD y x
section
variable {K : PySem.W.Frag} {io : List Addr} {H : Hp}
theorem flat_of {v : V} {d : Dv} (r : RV K io H v d) : flatV v = flatD d := by cases r <;> rfl
theorem eq_of {v w : V} {d e : Dv} (r : RV K io H v d) (q : RV K io H w e) : eqV v w = eqD d e := by cases r <;> cases q <;> rfl
theorem flats_of : ∀ {v : List V} {d : List Dv}, RVs K io H v d → v.all flatV = d.all flatD
  | _, _, .nil => rfl
  | _, _, .cons h k => by rw [List.all_cons, List.all_cons, flat_of h, flats_of k]
theorem in_of {w : V} {e : Dv} (q : RV K io H w e) : ∀ {v : List V} {d : List Dv}, RVs K io H v d → inV w v = inD e d
  | _, _, .nil => rfl
  | _, _, .cons h k => by
    have ih := in_of q k
    unfold inV inD at ih ⊢
    rw [List.any_cons, List.any_cons, eq_of h q, ih]
end
def oIn (neg : Bool) : WO := fun x y S Q => match y with
  | .str z => match x with
    | .str c => Q (.bl (if neg then !(!(Builtin.Str.occurrences z c 0 z.length 1).isEmpty) else !(Builtin.Str.occurrences z c 0 z.length 1).isEmpty)) S
    | _ => False
  | y => flatD x = true ∧ ∃ ys, seqOf S y ys ∧ ys.all flatD = true ∧ Q (.bl (if neg then !inD x ys else inD x ys)) S
def rInS (neg : Bool) : R2 := fun x y H Q => ∃ i j, x = .str i ∧ y = .str j ∧ Q (.bl (if neg then !(!(Builtin.Str.occurrences j i 0 j.length 1).isEmpty) else !(Builtin.Str.occurrences j i 0 j.length 1).isEmpty)) H
theorem op_inAll : OpR X (compareOp .In) (orR (rInS false) (rIn X.K false)) := op_or (fun pins s σ H x y v u Q I rx ry h => op_in_str pins s σ H x y v u Q I rx ry h) op_in_seq
theorem op_notInAll : OpR X (compareOp .NotIn) (orR (rInS true) (rIn X.K true)) := op_or (fun pins s σ H x y v u Q I rx ry h => op_notIn_str pins s σ H x y v u Q I rx ry h) op_notIn_seq
theorem okIn {K : PySem.W.Frag} {neg : Bool} : OpOk K (orR (rInS neg) (rIn K neg)) (oIn neg) := ⟨fun x y dx dy io H S Q io0 H0 g r rx ry h => by
    have seq : ∀ (dy : Dv) (y : V), RV K io H y dy → (flatD dx = true ∧ ∃ ys, seqOf S dy ys ∧ ys.all flatD = true ∧ upQ K io0 H0 Q (.bl (if neg then !inD dx ys else inD dx ys)) S) → orR (rInS neg) (rIn K neg) x y H Q := fun dy y ry ⟨fx, ys, hs, fy, q⟩ => by
      obtain ⟨a, vs, rfl, sq, rv⟩ := seq_at r ry hs
      exact .inr ⟨a, vs, rfl, sq, (flat_of rx).trans fx, (flats_of rv).trans fy, here g r .bl (by rw [in_of rx rv]; exact q)⟩
    cases ry with
    | str =>
      cases rx <;> first | exact (show False from h).elim | skip
      exact .inl ⟨_, _, rfl, rfl, here g r .bl h⟩
    | loc e => exact seq _ _ (.loc e) h
    | tup h1 h2 => exact seq _ _ (.tup h1 h2) h
    | non => exact seq _ _ .non h
    | bl => exact seq _ _ .bl h
    | int => exact seq _ _ .int h
    | ty => exact seq _ _ .ty h
    | glo => exact seq _ _ .glo h
    | exc a1 a2 a3 => exact seq _ _ (.exc a1 a2 a3) h
    | frl a1 a2 => exact seq _ _ (.frl a1 a2) h, fun x y S Q Q' i h => by
    have seq : ∀ dy, (flatD x = true ∧ ∃ ys, seqOf S dy ys ∧ ys.all flatD = true ∧ Q (.bl (if neg then !inD x ys else inD x ys)) S) → (flatD x = true ∧ ∃ ys, seqOf S dy ys ∧ ys.all flatD = true ∧ Q' (.bl (if neg then !inD x ys else inD x ys)) S) :=
      fun dy ⟨f, ys, h1, h2, q⟩ => ⟨f, ys, h1, h2, i _ _ q⟩
    cases y with
    | str z =>
      cases x <;> first | exact (show False from h).elim | skip
      exact i _ _ h
    | non => exact seq _ h
    | bl _ => exact seq _ h
    | int _ => exact seq _ h
    | tup _ => exact seq _ h
    | loc _ => exact seq _ h
    | ty _ => exact seq _ h
    | glo _ => exact seq _ h
    | exc _ _ _ _ _ => exact seq _ h
    | frl _ => exact seq _ h⟩
theorem fin (ha : FE X W a ta) (hb : FE X W b tb) (hm : behindInMarks .In b = false) : FE X W (.Compare a [.In] [b] pos) (dOp (oIn false) ta tb) := fcmp op_inAll okIn ha hb hm
theorem fnin (ha : FE X W a ta) (hb : FE X W b tb) (hm : behindInMarks .NotIn b = false) : FE X W (.Compare a [.NotIn] [b] pos) (dOp (oIn true) ta tb) := fcmp op_notInAll okIn ha hb hm

/-! ### xs[i] -/
def strAt (z : Str) (i : Int) : Option Str := (atI z.cps.toList i).map fun c => ⟨#[c]⟩
def oIx : WO := fun x y S Q => match x, y with
  | .str z, .int i => z.length ≤ sizeLine ∧ ∃ c, atI z.cps.toList i = some c ∧ Q (.str ⟨#[c]⟩) S
  | .tup xs, .int i => ∃ d, atI xs i = some d ∧ Q d S
  | .loc n, .int i => ∃ xs d, S[n]? = some (.lst xs) ∧ atI xs i = some d ∧ Q d S
  | .frl xs, .int i => ∃ d, atI xs i = some d ∧ Q d S
  | _, _ => False
theorem at_rv {K : PySem.W.Frag} {io : List Addr} {H : Hp} {vs : List V} {ds : List Dv} {i : Int} {d : Dv} (r : RVs K io H vs ds) (h : atI ds i = some d) : ∃ v, atI vs i = some v ∧ RV K io H v d := by
  unfold atI at h ⊢
  rw [r.length]
  cases e : ixN ds.length i with
  | none => rw [e] at h; cases h
  | some j =>
    rw [e] at h
    exact r.get h
theorem okIx {K : PySem.W.Frag} : OpOk K (rIx K) oIx := ⟨fun x y dx dy io H S Q io0 H0 g r rx ry h => by
    cases rx <;> cases ry <;> first | exact (show False from h).elim | skip
    · obtain ⟨hz, c, hc, q⟩ := h
      exact .inr (.inr ⟨_, _, c, rfl, rfl, hz, hc, here g r .str q⟩)
    · rename_i n a e i
      obtain ⟨xs, d, h1, h2, q⟩ := h
      obtain ⟨a', q1, vs, ha, rv⟩ := r.at h1
      rw [e] at q1; cases q1
      obtain ⟨v, hv, rd⟩ := at_rv rv h2
      exact .inl ⟨_, vs, _, v, rfl, rfl, SqL.of ha, hv, here g r rd q⟩
    · rename_i a vs xs h1 rv i
      obtain ⟨d, h2, q⟩ := h
      obtain ⟨v, hv, rd⟩ := at_rv rv h2
      exact .inr (.inl ⟨_, _, _, v, rfl, rfl, h1, hv, here g r rd q⟩)
    · rename_i h1 rv _
      obtain ⟨d, h2, q⟩ := h
      obtain ⟨v, hv, rd⟩ := at_rv rv h2
      exact .inl ⟨_, _, _, v, rfl, rfl, h1.sq, hv, here g r rd q⟩, fun x y S Q Q' i h => by
    cases x <;> cases y <;> first | exact (show False from h).elim | skip
    · obtain ⟨hz, c, hc, q⟩ := h; exact ⟨hz, c, hc, i _ _ q⟩
    · obtain ⟨d, h2, q⟩ := h; exact ⟨d, h2, i _ _ q⟩
    · obtain ⟨xs, d, h1, h2, q⟩ := h; exact ⟨xs, d, h1, h2, i _ _ q⟩
    · obtain ⟨d, h2, q⟩ := h; exact ⟨d, h2, i _ _ q⟩⟩
theorem fix (ha : FE X W a ta) (hb : FE X W b tb) (hs : PlainIx b := by intro _ _; rfl) : FE X W (.Subscript a b pos) (dOp oIx ta tb) :=
  ⟨imE (pe_ix ix_seq ha.pe hb.pe hs) fun σ H Q q => op_up okIx ha.mo hb.mo q, dOp_mo (K := X.K) okIx ha.mo hb.mo⟩
/-! ### slices -/
abbrev WP := DEnv → Store → (Option Int → Store → Prop) → Prop
def pN : WP := fun _ S Q => Q none S
def pS (t : WE) : WP := fun de S Q => t de S fun d S1 => match d with | .int i => Q (some i) S1 | _ => False
def upP (K : PySem.W.Frag) (W : L2.WX) (t : WP) : TO := fun σ H Q => ∃ io de S, Rl K io H S ∧ EnvOk K W io H σ de ∧ t de S fun b S' => ∀ io' H', Ge K io H io' H' → Rl K io' H' S' → Q b H'
structure FP (X : Cx) (W : L2.WX) (e : Option Expr) (t : WP) : Prop where
  po : PO X e (upP X.K W t)
  mo : ∀ de S (Q Q' : Option Int → Store → Prop), (∀ d S', Q d S' → Q' d S') → t de S Q → t de S Q'
theorem imO {x : Option Expr} {t t' : TO} (h : PO X x t) (k : ∀ σ H Q, t' σ H Q → t σ H Q) : PO X x t' := ⟨fun pins s σ H Q I q => h.run pins s σ H Q I (k σ H Q q)⟩
theorem fp_n : FP X W none pN := ⟨imO po_none fun σ H Q ⟨io, de, S, r, en, q⟩ => q io H .refl r, fun _ _ _ _ i q => i _ _ q⟩
theorem fp_s (h : FE X W e ta) : FP X W (some e) (pS ta) := ⟨imO (po_some h.pe) fun σ H Q ⟨io, de, S, r, en, q⟩ => useE h.mo r en q fun d S1 v io1 H1 k g1 r1 rv => by
    cases rv <;> first | exact (show False from k).elim | skip
    exact ⟨_, rfl, k io1 H1 g1 r1⟩, fun de S Q Q' i q => h.mo _ _ _ _ (fun d S1 q1 => by
    cases d <;> first | exact (show False from q1).elim | skip
    exact i _ _ q1) q⟩
def cutD {α : Type} (xs : List α) (lo hi : Option Int) : List α := (xs.drop (HT.sIx xs.length 0 lo)).take (HT.sIx xs.length xs.length hi - HT.sIx xs.length 0 lo)
def dSl (ta : WE) (tl th : WP) : WE := fun de S Q => ta de S fun d S1 => tl de S1 fun lo S2 => th de S2 fun hi S3 => match d with
  | .tup xs => Q (.tup (cutD xs lo hi)) S3
  | .loc n => ∃ xs, S3[n]? = some (.lst xs) ∧ Q (.loc S3.length) (S3 ++ [.lst (cutD xs lo hi)])
  | .frl xs => Q (.loc S3.length) (S3 ++ [.lst (cutD xs lo hi)])
  | _ => False
theorem cut_rv {K : PySem.W.Frag} {io : List Addr} {H : Hp} {vs : List V} {ds : List Dv} {lo hi : Option Int} (r : RVs K io H vs ds) : RVs K io H (cutV vs lo hi) (cutD ds lo hi) := by
  unfold cutV cutD
  rw [r.length]
  exact (r.drop _).take _
theorem cut_whole {α : Type} {xs : List α} {lo hi : Option Int} (h : HT.sIx xs.length 0 lo = 0 ∧ HT.sIx xs.length xs.length hi = xs.length) : cutD xs lo hi = xs := by
  unfold cutD
  rw [h.1, h.2, List.drop_zero, Nat.sub_zero, List.take_length]
theorem sl_or {r r' : V → Option Int → Option Int → Hp → VK → Prop} (h : SlR X r) (h' : SlR X r') : SlR X (fun x lo hi H Q => r x lo hi H Q ∨ r' x lo hi H Q) := fun pins s σ H x v vl vu lo hi sl Q I rx hs pl pu q => by
  rcases q with q | q
  · exact h pins s σ H x v vl vu lo hi sl Q I rx hs pl pu q
  · exact h' pins s σ H x v vl vu lo hi sl Q I rx hs pl pu q
theorem fsl {lo hi : Option Expr} {tl th : WP} {p2 : Pos} (ha : FE X W a ta) (hl : FP X W lo tl) (hh : FP X W hi th) : FE X W (.Subscript a (.Slice lo hi none p2) pos) (dSl ta tl th) :=
  ⟨imE (pe_slice (sl_or sl_list sl_tupA) ha.pe hl.po hh.po) fun σ H Q ⟨io, de, S, r, en, q⟩ => by
    refine useE ha.mo r en q fun d S1 v io1 H1 q1 g1 r1 rv => ?_
    refine ⟨io1, de, S1, r1, en.mono g1, hl.mo _ _ _ _ (fun l S2 q2 io2 H2 g2 r2 => ?_) q1⟩
    refine ⟨io2, de, S2, r2, (en.mono g1).mono g2, hh.mo _ _ _ _ (fun u S3 q3 io3 H3 g3 r3 => ?_) q2⟩
    have g := (g1.trans g2).trans g3
    have rv3 := (rv.mono g2).mono g3
    cases rv3 <;> first | exact (show False from q3).elim | skip
    · rename_i e
      obtain ⟨xs, h1, k⟩ := q3
      obtain ⟨a', q4, vs, h4, rvs⟩ := r3.at h1
      rw [e] at q4; cases q4
      exact .inl ⟨_, vs, rfl, SqL.of h4, fun p hp => new_lst g r3 (cut_rv rvs) hp k⟩
    · rename_i h1 rvs
      refine .inr ⟨_, _, rfl, h1, fun hw => ?_, fun hw p hp => new_tup g r3 (cut_rv rvs) hp q3⟩
      rw [rvs.length] at hw
      have q4 : upQ X.K io H Q (.tup (cutD _ l u)) S3 := q3
      rw [cut_whole hw] at q4
      exact here g r3 (.tup h1 rvs) q4
    · rename_i h1 rvs
      exact .inl ⟨_, _, rfl, h1.sq, fun p hp => new_lst g r3 (cut_rv rvs) hp q3⟩,
   fun de S Q Q' i q => ha.mo _ _ _ _ (fun d S1 q1 => hl.mo _ _ _ _ (fun l S2 q2 => hh.mo _ _ _ _ (fun u S3 q3 => by
    cases d <;> first | exact (show False from q3).elim | skip
    · exact i _ _ q3
    · obtain ⟨xs, h1, k⟩ := q3
      exact ⟨xs, h1, i _ _ k⟩
    · exact i _ _ q3) q2) q1) q⟩
end
end DL

namespace DL
open PySem L2
section
variable {X : Cx} {W : L2.WX} {e a b c d : Expr} {ta tb tc td : WE} {pos : Pos} {es rest : List Expr}
/-! ### tests -/
def tB (t : WE) : WT := fun de S Q => t de S fun d S1 => match d with | .bl k => Q k S1 | _ => False
theorem tB_mo (m : MonoE ta) : MonoT (tB ta) := fun de S Q Q' i q => m _ _ _ _ (fun d S1 q1 => by
  cases d <;> first | exact (show False from q1).elim | skip
  exact i _ _ q1) q
theorem tB_up {K : PySem.W.Frag} (m : MonoE ta) {σ : L2.St} {H : Hp} {Q : Bool → Hp → Prop} (h : upT K W (tB ta) σ H Q) : upE K W ta σ H fun x H' => ∃ k, x = .bl k ∧ Q k H' := by
  obtain ⟨io, de, S, r, en, q⟩ := h
  refine useE m r en q fun d S1 v io1 H1 h g1 r1 rv => ?_
  cases rv <;> first | exact (show False from h).elim | skip
  exact ⟨_, rfl, h io1 H1 g1 r1⟩
/-- any expression that gives a bool, no comparison -/
theorem tval (h : FE X W e ta) (he : ∀ whole, isTrue e X.env whole = (do let v ← whole; standAt e.pos; holding [v] (truthy v)) := by intro _; rfl) : FT X W e (tB ta) :=
  ⟨imT (pt_val h.pe he) fun σ H Q q => tB_up h.mo q, tB_mo h.mo⟩
/-- a comparison as a test -/
theorem tcmp {op : CmpOp} {r : R2} {o : WO} (ho : OpR X (compareOp op) r) (k : OpOk X.K r o) (ha : FE X W a ta) (hb : FE X W b tb) (hm : behindInMarks op b = false) : FT X W (.Compare a [op] [b] pos) (tB (dOp o ta tb)) :=
  ⟨imT (pt_cmpR ho ha.pe hb.pe hm) fun σ H Q ⟨io, de, S, rl, en, h⟩ => op_up (W := W) k ha.mo hb.mo ⟨io, de, S, rl, en, dOp_mo k ha.mo hb.mo _ _ _ _ (fun d S1 q1 v io1 H1 g1 r1 rv => by
      cases rv <;> first | exact (show False from q1).elim | skip
      exact ⟨_, rfl, q1 io1 H1 g1 r1⟩) h⟩, tB_mo (dOp_mo k ha.mo hb.mo)⟩
theorem tlt (ha : FE X W a ta) (hb : FE X W b tb) : FT X W (.Compare a [.Lt] [b] pos) (tB (dOp oLt ta tb)) := tcmp (rI_of0 op_lt) okC ha hb (nomark _)
theorem tle (ha : FE X W a ta) (hb : FE X W b tb) : FT X W (.Compare a [.LtE] [b] pos) (tB (dOp oLe ta tb)) := tcmp (rI_of0 op_le) okC ha hb (nomark _)
theorem tgt (ha : FE X W a ta) (hb : FE X W b tb) : FT X W (.Compare a [.Gt] [b] pos) (tB (dOp oGt ta tb)) := tcmp (rI_of0 op_gt) okC ha hb (nomark _)
theorem tge (ha : FE X W a ta) (hb : FE X W b tb) : FT X W (.Compare a [.GtE] [b] pos) (tB (dOp oGe ta tb)) := tcmp (rI_of0 op_ge) okC ha hb (nomark _)
theorem teq (hu : X.A.units + 64 < cLine) (ha : FE X W a ta) (hb : FE X W b tb) : FT X W (.Compare a [.Eq] [b] pos) (tB (dOp oEq ta tb)) := tcmp (op_eqA hu) okEq ha hb (nomark _)
theorem tne (hu : X.A.units + 64 < cLine) (ha : FE X W a ta) (hb : FE X W b tb) : FT X W (.Compare a [.NotEq] [b] pos) (tB (dOp oNe ta tb)) := tcmp (op_neA hu) okNe ha hb (nomark _)
theorem tisn (ha : FE X W a ta) (hb : FE X W b tb) : FT X W (.Compare a [.Is] [b] pos) (tB (dOp oIsN ta tb)) := tcmp op_isN okIsN ha hb (nomark _)
theorem tnotn (ha : FE X W a ta) (hb : FE X W b tb) : FT X W (.Compare a [.IsNot] [b] pos) (tB (dOp oNotN ta tb)) := tcmp op_notN okNotN ha hb (nomark _)
theorem tin (ha : FE X W a ta) (hb : FE X W b tb) (hm : behindInMarks .In b = false) : FT X W (.Compare a [.In] [b] pos) (tB (dOp (oIn false) ta tb)) := tcmp op_inAll okIn ha hb hm
theorem tnin (ha : FE X W a ta) (hb : FE X W b tb) (hm : behindInMarks .NotIn b = false) : FT X W (.Compare a [.NotIn] [b] pos) (tB (dOp (oIn true) ta tb)) := tcmp op_notInAll okIn ha hb hm
/-- truth of a value -/
def truD (S : Store) : Dv → Bool → Prop
  | .non, k => k = false
  | .bl b, k => k = b
  | .int i, k => k = (i != 0)
  | .str y, k => y.length ≤ sizeLine ∧ k = ((y.length : Int) != 0)
  | .tup xs, k => k = !xs.isEmpty
  | .loc n, k => ∃ xs, S[n]? = some (.lst xs) ∧ k = !xs.isEmpty
  | .frl xs, k => k = !xs.isEmpty
  | _, _ => False
def tTru (t : WE) : WT := fun de S Q => t de S fun d S1 => ∃ k, truD S1 d k ∧ Q k S1
theorem empty_rv {K : PySem.W.Frag} {io : List Addr} {H : Hp} {vs : List V} {ds : List Dv} (r : RVs K io H vs ds) : (!vs.isEmpty) = !ds.isEmpty := by cases r <;> rfl
theorem ttru (h : FE X W e ta) (he : ∀ whole, isTrue e X.env whole = (do let v ← whole; standAt e.pos; holding [v] (truthy v)) := by intro _; rfl) : FT X W e (tTru ta) :=
  ⟨imT (pt_truth h.pe he) fun σ H Q ⟨io, de, S, r, en, q⟩ => useE h.mo r en q fun d S1 v io1 H1 ⟨k, hk, q1⟩ g1 r1 rv => by
    refine ⟨k, ?_, q1 io1 H1 g1 r1⟩
    cases rv with
    | non => exact hk
    | bl => exact hk
    | int => exact hk
    | str => exact hk
    | ty => exact (show False from hk).elim
    | glo => exact (show False from hk).elim
    | exc _ _ _ => exact (show False from hk).elim
    | loc e1 =>
      obtain ⟨xs, h1, e2⟩ := hk
      obtain ⟨a, q2, vs, ha, rvs⟩ := r1.at h1
      rw [e1] at q2; cases q2
      exact .inl ⟨vs, SqL.of ha, e2.trans (empty_rv rvs).symm⟩
    | tup h1 rvs => exact .inr (.inl ⟨_, h1, (show k = _ from hk).trans (empty_rv rvs).symm⟩)
    | frl h1 rvs => exact .inl ⟨_, h1.sq, (show k = _ from hk).trans (empty_rv rvs).symm⟩,
   fun de S Q Q' i q => h.mo _ _ _ _ (fun d S1 ⟨k, h1, q1⟩ => ⟨k, h1, i _ _ q1⟩) q⟩
/-! ### not, and, or as tests -/
structure FW (X : Cx) (W : L2.WX) (e : Expr) (t : WT) : Prop where
  pw : PW X e (upT X.K W t)
  mo : MonoT t
theorem imW {t t' : TT} (h : PW X e t) (k : ∀ σ H Q, t' σ H Q → t σ H Q) : PW X e t' := ⟨fun wh pins s σ H Q I q => h.run wh pins s σ H Q I (k σ H Q q)⟩
theorem FW.ft {t : WT} (h : FW X W e t) : FT X W e t := ⟨h.pw.pt, h.mo⟩
def tNot (t : WT) : WT := fun de S Q => t de S fun k S1 => Q (!k) S1
def tAnd (t u : WT) : WT := fun de S Q => t de S fun k S1 => match k with | true => u de S1 Q | false => Q false S1
def tOr (t u : WT) : WT := fun de S Q => t de S fun k S1 => match k with | true => Q true S1 | false => u de S1 Q
variable {t u : WT}
theorem tnot (h : FT X W a t) : FT X W (.UnaryOp .Not a pos) (tNot t) :=
  ⟨imT (pt_not h.pt) fun σ H Q ⟨io, de, S, r, en, q⟩ => useT h.mo r en q fun k S1 io1 H1 q1 g1 r1 => q1 io1 H1 g1 r1, fun de S Q Q' i q => h.mo _ _ _ _ (fun k S1 q1 => i _ _ q1) q⟩
theorem wand1 (h : FT X W a t) : FW X W (.BoolOp .And [a] pos) t := ⟨pw_and1 h.pt, h.mo⟩
theorem wor1 (h : FT X W a t) : FW X W (.BoolOp .Or [a] pos) t := ⟨pw_or1 h.pt, h.mo⟩
theorem tAnd_mo (m : MonoT t) (n : MonoT u) : MonoT (tAnd t u) := fun de S Q Q' i q => m _ _ _ _ (fun k S1 q1 => by
  cases k with
  | true => exact n _ _ _ _ i q1
  | false => exact i _ _ q1) q
theorem tOr_mo (m : MonoT t) (n : MonoT u) : MonoT (tOr t u) := fun de S Q Q' i q => m _ _ _ _ (fun k S1 q1 => by
  cases k with
  | false => exact n _ _ _ _ i q1
  | true => exact i _ _ q1) q
theorem wand (h : FT X W a t) (k : FW X W (.BoolOp .And (b :: rest) pos) u) : FW X W (.BoolOp .And (a :: b :: rest) pos) (tAnd t u) :=
  ⟨imW (pw_and h.pt k.pw) fun σ H Q ⟨io, de, S, r, en, q⟩ => useT h.mo r en q fun d S1 io1 H1 q1 g1 r1 => by
    cases d with
    | true => exact iteT (useT k.mo r1 (en.mono g1) q1 fun d2 S2 io2 H2 q2 g2 r2 => q2 io2 H2 (g1.trans g2) r2)
    | false => exact iteF (q1 io1 H1 g1 r1), tAnd_mo h.mo k.mo⟩
theorem wor (h : FT X W a t) (k : FW X W (.BoolOp .Or (b :: rest) pos) u) : FW X W (.BoolOp .Or (a :: b :: rest) pos) (tOr t u) :=
  ⟨imW (pw_or h.pt k.pw) fun σ H Q ⟨io, de, S, r, en, q⟩ => useT h.mo r en q fun d S1 io1 H1 q1 g1 r1 => by
    cases d with
    | false => exact iteF (useT k.mo r1 (en.mono g1) q1 fun d2 S2 io2 H2 q2 g2 r2 => q2 io2 H2 (g1.trans g2) r2)
    | true => exact iteT (q1 io1 H1 g1 r1), tOr_mo h.mo k.mo⟩
/-! ### not, and, or of bools as values -/
def dNot (ta : WE) : WE := fun de S Q => ta de S fun d S1 => match d with | .bl k => Q (.bl (!k)) S1 | _ => False
def dAnd (ta tb : WE) : WE := fun de S Q => ta de S fun d S1 => match d with | .bl true => tb de S1 Q | .bl false => Q (.bl false) S1 | _ => False
def dOr (ta tb : WE) : WE := fun de S Q => ta de S fun d S1 => match d with | .bl true => Q (.bl true) S1 | .bl false => tb de S1 Q | _ => False
theorem fnot (h : FE X W a ta) : FE X W (.UnaryOp .Not a pos) (dNot ta) :=
  ⟨imE (pe_not h.pe) fun σ H Q ⟨io, de, S, r, en, q⟩ => useE h.mo r en q fun d S1 v io1 H1 q1 g1 r1 rv => by
    cases rv <;> first | exact (show False from q1).elim | skip
    exact ⟨_, rfl, here g1 r1 .bl q1⟩, fun de S Q Q' i q => h.mo _ _ _ _ (fun d S1 q1 => by
    cases d <;> first | exact (show False from q1).elim | skip
    exact i _ _ q1) q⟩
theorem fone {op} (h : FE X W a ta) : FE X W (.BoolOp op [a] pos) ta := ⟨pe_one h.pe, h.mo⟩
theorem fand (h : FE X W a ta) (k : FE X W (.BoolOp .And (b :: rest) pos) tb) : FE X W (.BoolOp .And (a :: b :: rest) pos) (dAnd ta tb) :=
  ⟨imE (pe_and h.pe k.pe) fun σ H Q ⟨io, de, S, r, en, q⟩ => useE h.mo r en q fun d S1 v io1 H1 q1 g1 r1 rv => by
    cases rv <;> first | exact (show False from q1).elim | skip
    rename_i z
    refine ⟨z, rfl, ?_⟩
    cases z with
    | true => exact iteT (useE k.mo r1 (en.mono g1) q1 fun d2 S2 v2 io2 H2 q2 g2 r2 rv2 => q2 v2 io2 H2 (g1.trans g2) r2 rv2)
    | false => exact iteF (here g1 r1 .bl q1), fun de S Q Q' i q => h.mo _ _ _ _ (fun d S1 q1 => by
    cases d <;> first | exact (show False from q1).elim | skip
    rename_i z
    cases z with
    | true => exact k.mo _ _ _ _ i q1
    | false => exact i _ _ q1) q⟩
theorem for_ (h : FE X W a ta) (k : FE X W (.BoolOp .Or (b :: rest) pos) tb) : FE X W (.BoolOp .Or (a :: b :: rest) pos) (dOr ta tb) :=
  ⟨imE (pe_or h.pe k.pe) fun σ H Q ⟨io, de, S, r, en, q⟩ => useE h.mo r en q fun d S1 v io1 H1 q1 g1 r1 rv => by
    cases rv <;> first | exact (show False from q1).elim | skip
    rename_i z
    refine ⟨z, rfl, ?_⟩
    cases z with
    | false => exact iteF (useE k.mo r1 (en.mono g1) q1 fun d2 S2 v2 io2 H2 q2 g2 r2 rv2 => q2 v2 io2 H2 (g1.trans g2) r2 rv2)
    | true => exact iteT (here g1 r1 .bl q1), fun de S Q Q' i q => h.mo _ _ _ _ (fun d S1 q1 => by
    cases d <;> first | exact (show False from q1).elim | skip
    rename_i z
    cases z with
    | false => exact k.mo _ _ _ _ i q1
    | true => exact i _ _ q1) q⟩
/-- a if t else b -/
def dIf (t : WT) (ta tb : WE) : WE := fun de S Q => t de S fun k S1 => match k with | true => ta de S1 Q | false => tb de S1 Q
theorem fif (h : FT X W c t) (ha : FE X W a ta) (hb : FE X W b tb) : FE X W (.IfExp c a b pos) (dIf t ta tb) :=
  ⟨imE (pe_ifExp h.pt ha.pe hb.pe) fun σ H Q ⟨io, de, S, r, en, q⟩ => useT h.mo r en q fun k S1 io1 H1 q1 g1 r1 => by
    cases k with
    | true => exact iteT (useE ha.mo r1 (en.mono g1) q1 fun d2 S2 v2 io2 H2 q2 g2 r2 rv2 => q2 v2 io2 H2 (g1.trans g2) r2 rv2)
    | false => exact iteF (useE hb.mo r1 (en.mono g1) q1 fun d2 S2 v2 io2 H2 q2 g2 r2 rv2 => q2 v2 io2 H2 (g1.trans g2) r2 rv2),
   fun de S Q Q' i q => h.mo _ _ _ _ (fun k S1 q1 => by
    cases k with
    | true => exact ha.mo _ _ _ _ i q1
    | false => exact hb.mo _ _ _ _ i q1) q⟩
/-! ### chains of comparisons, any length -/
/-- behind a left value x: op b .. -/
abbrev WC := Dv → WE
structure FC (X : Cx) (W : L2.WX) (ops : List CmpOp) (es : List Expr) (t : WC) : Prop where
  val : ∀ (pos : Pos) (pins : List (Addr × Obj)) (s : Shared) (σ : L2.St) (H : Hp) (Q : VK) (x : V) (u : Value) (io : List Addr) (de : DEnv) (S : Store) (dx : Dv), Inv X pins σ H s → RelV x u → Rl X.K io H S → EnvOk X.K W io H σ de → RV X.K io H x dx →
    t dx de S (upQ X.K io H Q) → wpAny (model X.prog X.w) X.A (compareChain pos u ops (evalEach es X.env)) (EP X pins σ Q) X.xe s
  tst : ∀ (pos : Pos) (pins : List (Addr × Obj)) (s : Shared) (σ : L2.St) (H : Hp) (Q : Bool → Hp → Prop) (x : V) (u : Value) (io : List Addr) (de : DEnv) (S : Store) (dx : Dv), Inv X pins σ H s → RelV x u → Rl X.K io H S → EnvOk X.K W io H σ de → RV X.K io H x dx →
    t dx de S (fun d S' => match d with | .bl k => ∀ io' H', Ge X.K io H io' H' → Rl X.K io' H' S' → Q k H' | _ => False) → wpAny (model X.prog X.w) X.A (testChain pos u ops (evalEach es X.env)) (TP X pins σ Q) X.xe s
  mo : ∀ d, MonoE (t d)
def cLast (o : WO) (tb : WE) : WC := fun x de S Q => tb de S fun y S1 => o x y S1 Q
def cMore (o : WO) (tb : WE) (tr : WC) : WC := fun x de S Q => tb de S fun y S1 => o x y S1 fun z S2 => match z with
  | .bl true => tr y de S2 Q
  | .bl false => Q (.bl false) S2
  | _ => False
theorem c_last {op : CmpOp} {r : R2} {o : WO} (ho : OpR X (compareOp op) r) (k : OpOk X.K r o) (hb : FE X W b tb) : FC X W [op] [b] (cLast o tb) where
  val := fun pos pins s σ H Q x u io de S dx I rx rl en rv h => by
    refine PyProof.Rows.chain_last (thn (hb.pe.run pins s σ H (fun y H1 => r x y H1 Q) I (useE hb.mo rl en h fun y S1 vy io1 H1 q1 g1 r1 ry => k.ok _ _ _ _ _ _ _ _ _ _ g1 r1 (rv.mono g1) ry q1)) fun w s1 ⟨y, H1, I1, ry, q⟩ => ?_)
    exact ho pins s1 σ H1 x y u w Q I1 rx ry q
  tst := fun pos pins s σ H Q x u io de S dx I rx rl en rv h => by
    refine PyProof.Rows.test_last (thn (hb.pe.run pins s σ H (fun y H1 => r x y H1 fun z H2 => ∃ k, z = .bl k ∧ Q k H2) I (useE hb.mo rl en h fun y S1 vy io1 H1 q1 g1 r1 ry => k.ok _ _ _ _ _ _ _ _ _ _ g1 r1 (rv.mono g1) ry (k.mo _ _ _ _ _ (fun d S2 q2 v io2 H2 g2 r2 rv2 => by
      cases rv2 <;> first | exact (show False from q2).elim | skip
      exact ⟨_, rfl, q2 io2 H2 g2 r2⟩) q1))) fun w s1 ⟨y, H1, I1, ry, q⟩ => ?_)
    refine thn (ho pins s1 σ H1 x y u w _ I1 rx ry q) fun c s2 ⟨z, H2, I2, rz, k, e, q2⟩ => ?_
    subst e
    cases rz
    exact wpAny_truthy_bool ⟨H2, I2, q2⟩
  mo := fun d de S Q Q' i q => hb.mo _ _ _ _ (fun y S1 q1 => k.mo _ _ _ _ _ i q1) q
theorem c_more {op op' : CmpOp} {ops : List CmpOp} {r : R2} {o : WO} {tr : WC} (ho : OpR X (compareOp op) r) (k : OpOk X.K r o) (hb : FE X W b tb) (hr : FC X W (op' :: ops) (c :: rest) tr) : FC X W (op :: op' :: ops) (b :: c :: rest) (cMore o tb tr) where
  val := fun pos pins s σ H Q x u io de S dx I rx rl en rv h => by
    let P : V → V → Hp → Prop := fun y z H2 => ∃ kb, z = V.bl kb ∧ ((kb = true ∧ ∃ io2 S2 dy, Ge X.K io H io2 H2 ∧ Rl X.K io2 H2 S2 ∧ RV X.K io2 H2 y dy ∧ tr dy de S2 (upQ X.K io H Q)) ∨ (kb = false ∧ Q (.bl false) H2))
    refine PyProof.Rows.chain_link (thn (hb.pe.run pins s σ H (fun y H1 => r x y H1 (P y)) I (useE hb.mo rl en h fun y S1 vy io1 H1 q1 g1 r1 ry => k.ok _ _ _ _ _ _ _ _ io1 H1 .refl r1 (rv.mono g1) ry (k.mo _ _ _ _ _ (fun z S2 q2 v io2 H2 g2 r2 rz => by
      cases rz <;> first | exact (show False from q2).elim | skip
      rename_i kb
      refine ⟨kb, rfl, ?_⟩
      cases kb with
      | true => exact .inl ⟨rfl, io2, S2, y, g1.trans g2, r2, ry.mono g2, q2⟩
      | false => exact .inr ⟨rfl, here (g1.trans g2) r2 .bl q2⟩) q1))) fun w s1 ⟨y, H1, I1, ry, q⟩ => ?_)
    refine thn (ho pins s1 σ H1 x y u w _ I1 rx ry q) fun cv s2 ⟨z, H2, I2, rz, kb, e, q2⟩ => ?_
    subst e
    cases rz
    refine wpAny_truthy_bool ?_
    rcases q2 with ⟨rfl, io2, S2, dy, g2, r2, rdy, q3⟩ | ⟨rfl, q3⟩
    · exact iteT (hr.val pos pins s2 σ H2 Q y w io2 de S2 dy I2 ry r2 (en.mono g2) rdy (hr.mo _ _ _ _ _ (fun d S' q4 => upQ_pre g2 q4) q3))
    · exact iteF ⟨.bl false, H2, I2, rfl, q3⟩
  tst := fun pos pins s σ H Q x u io de S dx I rx rl en rv h => by
    let P : V → V → Hp → Prop := fun y z H2 => ∃ kb, z = V.bl kb ∧ ((kb = true ∧ ∃ io2 S2 dy, Ge X.K io H io2 H2 ∧ Rl X.K io2 H2 S2 ∧ RV X.K io2 H2 y dy ∧ tr dy de S2 (fun d S' => match d with | .bl k => ∀ io' H', Ge X.K io H io' H' → Rl X.K io' H' S' → Q k H' | _ => False)) ∨ (kb = false ∧ Q false H2))
    refine PyProof.Rows.test_link (thn (hb.pe.run pins s σ H (fun y H1 => r x y H1 (P y)) I (useE hb.mo rl en h fun y S1 vy io1 H1 q1 g1 r1 ry => k.ok _ _ _ _ _ _ _ _ io1 H1 .refl r1 (rv.mono g1) ry (k.mo _ _ _ _ _ (fun z S2 q2 v io2 H2 g2 r2 rz => by
      cases rz <;> first | exact (show False from q2).elim | skip
      rename_i kb
      refine ⟨kb, rfl, ?_⟩
      cases kb with
      | true => exact .inl ⟨rfl, io2, S2, y, g1.trans g2, r2, ry.mono g2, q2⟩
      | false => exact .inr ⟨rfl, q2 io2 H2 (g1.trans g2) r2⟩) q1))) fun w s1 ⟨y, H1, I1, ry, q⟩ => ?_)
    refine thn (ho pins s1 σ H1 x y u w _ I1 rx ry q) fun cv s2 ⟨z, H2, I2, rz, kb, e, q2⟩ => ?_
    subst e
    cases rz
    refine wpAny_truthy_bool ?_
    rcases q2 with ⟨rfl, io2, S2, dy, g2, r2, rdy, q3⟩ | ⟨rfl, q3⟩
    · refine iteT (hr.tst pos pins s2 σ H2 Q y w io2 de S2 dy I2 ry r2 (en.mono g2) rdy (hr.mo _ _ _ _ _ (fun d S' q4 => ?_) q3))
      cases d <;> first | exact (show False from q4).elim | skip
      exact fun io' H' g' r' => q4 io' H' (g2.trans g') r'
    · exact iteF ⟨H2, I2, q3⟩
  mo := fun d de S Q Q' i q => hb.mo _ _ _ _ (fun y S1 q1 => k.mo _ _ _ _ _ (fun z S2 q2 => by
    cases z <;> first | exact (show False from q2).elim | skip
    rename_i kb
    cases kb with
    | true => exact hr.mo _ _ _ _ _ i q2
    | false => exact i _ _ q2) q1) q
def dCh (ta : WE) (tr : WC) : WE := fun de S Q => ta de S fun x S1 => tr x de S1 Q
theorem fch {op op' : CmpOp} {ops : List CmpOp} {tr : WC} (ha : FE X W a ta) (hr : FC X W (op :: op' :: ops) (b :: c :: rest) tr) (hm : lastMarks (op :: op' :: ops) (b :: c :: rest) = false := by with_unfolding_all rfl) : FE X W (.Compare a (op :: op' :: ops) (b :: c :: rest) pos) (dCh ta tr) := by
  refine ⟨⟨fun pins s σ H Q I h => ?_⟩, fun de S Q Q' i q => ha.mo _ _ _ _ (fun x S1 q1 => hr.mo _ _ _ _ _ i q1) q⟩
  obtain ⟨io, de, S, r, en, q⟩ := h
  refine PyProof.Rows.Compare_chain (thn (ha.pe.run pins s σ H (fun x H1 => ∃ io1 S1 dx, Ge X.K io H io1 H1 ∧ Rl X.K io1 H1 S1 ∧ RV X.K io1 H1 x dx ∧ tr dx de S1 (upQ X.K io H Q)) I
    (useE ha.mo r en q fun x S1 vx io1 H1 q1 g1 r1 rx => ⟨io1, S1, x, g1, r1, rx, q1⟩)) fun u s1 ⟨x, H1, I1, rx, io1, S1, dx, g1, r1, rdx, q1⟩ => ?_) hm
  exact hr.val _ pins s1 σ H1 Q x u io1 de S1 dx I1 rx r1 (en.mono g1) rdx (hr.mo _ _ _ _ _ (fun d S' q2 => upQ_pre g1 q2) q1)
theorem tch {op op' : CmpOp} {ops : List CmpOp} {tr : WC} (ha : FE X W a ta) (hr : FC X W (op :: op' :: ops) (b :: c :: rest) tr) (hm : lastMarks (op :: op' :: ops) (b :: c :: rest) = false := by with_unfolding_all rfl) : FT X W (.Compare a (op :: op' :: ops) (b :: c :: rest) pos) (tB (dCh ta tr)) := by
  have mo : MonoE (dCh ta tr) := fun de S Q Q' i q => ha.mo _ _ _ _ (fun x S1 q1 => hr.mo _ _ _ _ _ i q1) q
  refine ⟨⟨fun pins s σ H Q I h => ?_⟩, tB_mo mo⟩
  obtain ⟨io, de, S, r, en, q⟩ := h
  refine PyProof.Rows.isTrue_chain (thn (ha.pe.run pins s σ H (fun x H1 => ∃ io1 S1 dx, Ge X.K io H io1 H1 ∧ Rl X.K io1 H1 S1 ∧ RV X.K io1 H1 x dx ∧ tr dx de S1 (fun d S' => match d with | .bl k => ∀ io' H', Ge X.K io H io' H' → Rl X.K io' H' S' → Q k H' | _ => False)) I
    (useE ha.mo r en q fun x S1 vx io1 H1 q1 g1 r1 rx => ⟨io1, S1, x, g1, r1, rx, q1⟩)) fun u s1 ⟨x, H1, I1, rx, io1, S1, dx, g1, r1, rdx, q1⟩ => ?_) hm
  refine hr.tst _ pins s1 σ H1 Q x u io1 de S1 dx I1 rx r1 (en.mono g1) rdx (hr.mo _ _ _ _ _ (fun d S' q2 => ?_) q1)
  cases d <;> first | exact (show False from q2).elim | skip
  exact fun io' H' g' r' => q2 io' H' (g1.trans g') r'
end
end DL

namespace DL
open PySem L2
section
variable {X : Cx} {W : L2.WX} {e a b c d : Expr} {ta tb tc td : WE} {pos p : Pos} {es rest : List Expr} {t : WA} {x : Str}
/-! ### calls of built-ins -/
abbrev WCl := List Dv → Store → WQ → Prop
structure CrOk (K : PySem.W.Frag) (r : List V → Hp → VK → Prop) (o : WCl) : Prop where
  ok : ∀ xs ds io H S (Q : VK) (io0 : List Addr) (H0 : Hp), Ge K io0 H0 io H → Rl K io H S → RVs K io H xs ds → o ds S (upQ K io0 H0 Q) → r xs H Q
  mo : ∀ ds S (Q Q' : WQ), (∀ d S', Q d S' → Q' d S') → o ds S Q → o ds S Q'
def dCB (o : WCl) (t : WA) : WE := fun de S Q => t de S fun ds S1 => o ds S1 Q
theorem cb_up {r : List V → Hp → VK → Prop} {o : WCl} {K : PySem.W.Frag} (k : CrOk K r o) (mt : MonoA t) {σ : L2.St} {H : Hp} {Q : VK} (h : upE K W (dCB o t) σ H Q) : tCB r (upA K W t) σ H Q := by
  obtain ⟨io, de, S, rl, en, h⟩ := h
  exact useA mt rl en h fun ds S1 vs io1 H1 h1 g1 r1 rvs => k.ok _ _ _ _ _ _ _ _ g1 r1 rvs h1
theorem dCB_mo {r : List V → Hp → VK → Prop} {o : WCl} {K : PySem.W.Frag} (k : CrOk K r o) (mt : MonoA t) : MonoE (dCB o t) := fun de S Q Q' i q => mt _ _ _ _ (fun ds S1 q1 => k.mo _ _ _ _ i q1) q
theorem fcb {id : String} {r : List V → Hp → VK → Prop} {o : WCl} (hc : CallR X (.builtin id) r) (k : CrOk X.K r o) (hg : Gl X x) (hm : X.mg x = none) (hv : bootBuiltins x = some (.builtin id)) (ha : FA X W (e :: es) t) (hn : x ≠ "__name__" := by decide) (hdb : (x == ("__debug__" : Str)) = false := by decide)
    (he : starEach (e :: es) X.env = (false, eval e X.env) :: starEach es X.env := by rfl) (hpl : (backTo pos (starEach es X.env)).any (·.1) = false := by rfl) : FE X W (.Call (.Name x p) (e :: es) [] pos) (dCB o t) :=
  ⟨imE (pe_callB hc hg hm hv ha.pa hn hdb he hpl) fun σ H Q q => cb_up k ha.mo q, dCB_mo k ha.mo⟩
theorem fct {T : String} {r : List V → Hp → VK → Prop} {o : WCl} (hc : CallR X (.type T) r) (k : CrOk X.K r o) (hg : Gl X x) (hm : X.mg x = none) (hv : bootBuiltins x = some (.type T)) (ha : FA X W (e :: es) t) (hn : x ≠ "__name__" := by decide) (hdb : (x == ("__debug__" : Str)) = false := by decide)
    (he : starEach (e :: es) X.env = (false, eval e X.env) :: starEach es X.env := by rfl) (hpl : (backTo pos (starEach es X.env)).any (·.1) = false := by rfl) : FE X W (.Call (.Name x p) (e :: es) [] pos) (dCB o t) :=
  ⟨imE (pe_callTy hc hg hm hv ha.pa hn hdb he hpl) fun σ H Q q => cb_up k ha.mo q, dCB_mo k ha.mo⟩
/-- len -/
def lenD (S : Store) : Dv → Nat → Prop
  | .str y, n => y.length ≤ sizeLine ∧ n = y.length
  | .tup xs, n => n = xs.length
  | .loc m, n => ∃ xs, S[m]? = some (.lst xs) ∧ n = xs.length
  | .frl xs, n => n = xs.length
  | _, _ => False
def oLen : WCl := fun ds S Q => match ds with
  | [d] => ∃ n, lenD S d n ∧ Q (.int (n : Int)) S
  | _ => False
theorem okLen {K : PySem.W.Frag} : CrOk K (fun xs H Q => ∃ x n, xs = [x] ∧ LenV K x H n ∧ Q (.int n) H) oLen := ⟨fun xs ds io H S Q io0 H0 g r rvs h => by
    cases rvs with
    | nil => exact (show False from h).elim
    | cons rv rr =>
      cases rr with
      | cons _ _ => exact (show False from h).elim
      | nil =>
        obtain ⟨n, hn, q⟩ := h
        refine ⟨_, n, rfl, ?_, here g r .int q⟩
        cases rv with
        | str => exact hn
        | loc e1 =>
          obtain ⟨xs, h1, e2⟩ := hn
          obtain ⟨a, q2, vs, ha, rvs⟩ := r.at h1
          rw [e1] at q2; cases q2
          exact .inl ⟨vs, SqL.of ha, e2.trans rvs.length.symm⟩
        | tup h1 rvs => exact .inr ⟨_, h1, (show n = _ from hn).trans rvs.length.symm⟩
        | frl h1 rvs => exact .inl ⟨_, h1.sq, (show n = _ from hn).trans rvs.length.symm⟩
        | _ => exact (show False from hn).elim, fun ds S Q Q' i h => by
    match ds, h with
    | [d], h => obtain ⟨n, hn, q⟩ := h; exact ⟨n, hn, i _ _ q⟩⟩
theorem flen (hg : Gl X "len") (hm : X.mg "len" = none) (ha : FA X W [a] t) (he : starEach [a] X.env = (false, eval a X.env) :: starEach [] X.env := by rfl) (hpl : (backTo pos (starEach [] X.env)).any (·.1) = false := by rfl) : FE X W (.Call (.Name "len" p) [a] [] pos) (dCB oLen t) :=
  fcb call_len okLen hg hm PySem.boot_len ha (by decide) (by decide) he hpl
/-- one argument, by cases -/
theorem cr1 {K : PySem.W.Frag} {r : List V → Hp → VK → Prop} {f : Dv → Store → WQ → Prop} (h : ∀ v d io H S (Q : VK) (io0 : List Addr) (H0 : Hp), Ge K io0 H0 io H → Rl K io H S → RV K io H v d → f d S (upQ K io0 H0 Q) → r [v] H Q)
    (mo : ∀ d S (Q Q' : WQ), (∀ d S', Q d S' → Q' d S') → f d S Q → f d S Q') : CrOk K r (fun ds S Q => match ds with | [d] => f d S Q | _ => False) := ⟨fun xs ds io H S Q io0 H0 g r rvs q => by
    cases rvs with
    | nil => exact (show False from q).elim
    | cons rv rr =>
      cases rr with
      | cons _ _ => exact (show False from q).elim
      | nil => exact h _ _ _ _ _ _ _ _ g r rv q, fun ds S Q Q' i q => by
    match ds, q with
    | [d], q => exact mo _ _ _ _ i q⟩
/-- list(xs), tuple(xs) of a list or tuple -/
def fList : Dv → Store → WQ → Prop := fun d S Q => ∃ ys, seqOf S d ys ∧ Q (.loc S.length) (S ++ [.lst ys])
def fTupl : Dv → Store → WQ → Prop := fun d S Q => ∃ ys, seqOf S d ys ∧ Q (.tup ys) S
def oList : WCl := fun ds S Q => match ds with | [d] => fList d S Q | _ => False
def oTupl : WCl := fun ds S Q => match ds with | [d] => fTupl d S Q | _ => False
theorem okList {K : PySem.W.Frag} : CrOk K (fun xs H Q => ∃ p ys, xs = [.ref p] ∧ (SqL K H p ys ∨ SqT K H p ys) ∧ ∀ l, H l = none → Q (.ref l) (upd H l (.lst ys))) oList :=
  cr1 (fun v d io H S Q io0 H0 g r rv ⟨ys, hs, q⟩ => by
    obtain ⟨a, vs, rfl, sq, rvs⟩ := seq_at r rv hs
    exact ⟨a, vs, rfl, sq, fun l hl => new_lst g r rvs hl q⟩) (fun d S Q Q' i ⟨ys, h, q⟩ => ⟨ys, h, i _ _ q⟩)
theorem okTupl {K : PySem.W.Frag} : CrOk K (fun xs H Q => ∃ p ys, xs = [.ref p] ∧ ((SqL K H p ys ∧ ∀ l, H l = none → Q (.ref l) (upd H l (.tup ys))) ∨ (SqT K H p ys ∧ Q (.ref p) H))) oTupl :=
  cr1 (fun v d io H S Q io0 H0 g r rv ⟨ys, hs, q⟩ => by
    obtain ⟨a, vs, rfl, sq, rvs⟩ := seq_at r rv hs
    refine ⟨a, vs, rfl, ?_⟩
    rcases sq with sq | sq
    · exact .inl ⟨sq, fun l hl => new_tup g r rvs hl q⟩
    · exact .inr ⟨sq, here g r (.tup sq rvs) q⟩) (fun d S Q Q' i ⟨ys, h, q⟩ => ⟨ys, h, i _ _ q⟩)
theorem flist (hg : Gl X "list") (hm : X.mg "list" = none) (ha : FA X W [a] t) (he : starEach [a] X.env = (false, eval a X.env) :: starEach [] X.env := by rfl) (hpl : (backTo pos (starEach [] X.env)).any (·.1) = false := by rfl) : FE X W (.Call (.Name "list" p) [a] [] pos) (dCB oList t) :=
  fct call_list_of okList hg hm (by decide +kernel) ha (by decide) (by decide) he hpl
theorem ftupl (hg : Gl X "tuple") (hm : X.mg "tuple" = none) (ha : FA X W [a] t) (he : starEach [a] X.env = (false, eval a X.env) :: starEach [] X.env := by rfl) (hpl : (backTo pos (starEach [] X.env)).any (·.1) = false := by rfl) : FE X W (.Call (.Name "tuple" p) [a] [] pos) (dCB oTupl t) :=
  fct call_tuple_of okTupl hg hm (by decide +kernel) ha (by decide) (by decide) he hpl
/-- a list of ints, of bools, of texts -/
theorem map_rv {α : Type} {K : PySem.W.Frag} {io : List Addr} {H : Hp} {f : α → Dv} {g : α → V} (h : ∀ v y, RV K io H v (f y) → v = g y) : ∀ {ys : List α} {vs : List V}, RVs K io H vs (ys.map f) → vs = ys.map g
  | [], _, .nil => rfl
  | y :: ys, _, .cons r k => by rw [h _ _ r, map_rv h k]; rfl
theorem rv_int {K : PySem.W.Frag} {io : List Addr} {H : Hp} {v : V} {i : Int} (h : RV K io H v (.int i)) : v = .int i := by cases h; rfl
theorem rv_bl {K : PySem.W.Frag} {io : List Addr} {H : Hp} {v : V} {i : Bool} (h : RV K io H v (.bl i)) : v = .bl i := by cases h; rfl
theorem rv_str {K : PySem.W.Frag} {io : List Addr} {H : Hp} {v : V} {i : Str} (h : RV K io H v (.str i)) : v = .str i := by cases h; rfl
theorem rv_map {α : Type} {K : PySem.W.Frag} {io : List Addr} {H : Hp} {f : α → Dv} {g : α → V} (h : ∀ y, RV K io H (g y) (f y)) : ∀ ys : List α, RVs K io H (ys.map g) (ys.map f)
  | [] => .nil
  | y :: ys => .cons (h y) (rv_map h ys)
def locL (S : Store) : Dv → List Dv → Prop
  | .loc n, ys => S[n]? = some (.lst ys)
  | _, _ => False
theorem loc_at {K : PySem.W.Frag} {io : List Addr} {H : Hp} {S : Store} {v : V} {d : Dv} {ys : List Dv} (r : Rl K io H S) (rv : RV K io H v d) (h : locL S d ys) : ∃ a vs, v = .ref a ∧ SqL K H a vs ∧ RVs K io H vs ys := by
  cases rv with
  | loc h1 =>
    obtain ⟨a, e, vs, q1, q2⟩ := r.at h
    rw [h1] at e; cases e
    exact ⟨_, vs, rfl, SqL.of q1, q2⟩
  | _ => exact (show False from h).elim
def fSum : Dv → Store → WQ → Prop := fun d S Q => ∃ ns : List Int, locL S d (ns.map .int) ∧ Q (.int ns.sum) S
def fAll : Dv → Store → WQ → Prop := fun d S Q => ∃ ns : List Bool, locL S d (ns.map .bl) ∧ Q (.bl (ns.all id)) S
def fAny : Dv → Store → WQ → Prop := fun d S Q => ∃ ns : List Bool, locL S d (ns.map .bl) ∧ Q (.bl (ns.any id)) S
def oSum : WCl := fun ds S Q => match ds with | [d] => fSum d S Q | _ => False
def oAll : WCl := fun ds S Q => match ds with | [d] => fAll d S Q | _ => False
def oAny : WCl := fun ds S Q => match ds with | [d] => fAny d S Q | _ => False
theorem okSum {K : PySem.W.Frag} : CrOk K (rSum K) oSum := cr1 (fun v d io H S Q io0 H0 g r rv ⟨ns, h, q⟩ => by
    obtain ⟨a, vs, rfl, sq, rvs⟩ := loc_at r rv h
    rw [map_rv (fun _ _ => rv_int) rvs] at sq
    exact ⟨a, ns, rfl, sq, here g r .int q⟩) (fun d S Q Q' i ⟨ns, h, q⟩ => ⟨ns, h, i _ _ q⟩)
theorem okAll {K : PySem.W.Frag} : CrOk K (rAll K) oAll := cr1 (fun v d io H S Q io0 H0 g r rv ⟨ns, h, q⟩ => by
    obtain ⟨a, vs, rfl, sq, rvs⟩ := loc_at r rv h
    rw [map_rv (fun _ _ => rv_bl) rvs] at sq
    exact ⟨a, ns, rfl, sq, here g r .bl q⟩) (fun d S Q Q' i ⟨ns, h, q⟩ => ⟨ns, h, i _ _ q⟩)
theorem okAny {K : PySem.W.Frag} : CrOk K (rAny K) oAny := cr1 (fun v d io H S Q io0 H0 g r rv ⟨ns, h, q⟩ => by
    obtain ⟨a, vs, rfl, sq, rvs⟩ := loc_at r rv h
    rw [map_rv (fun _ _ => rv_bl) rvs] at sq
    exact ⟨a, ns, rfl, sq, here g r .bl q⟩) (fun d S Q Q' i ⟨ns, h, q⟩ => ⟨ns, h, i _ _ q⟩)
theorem fsum (hc : X.calm = true) (hg : Gl X "sum") (hm : X.mg "sum" = none) (ha : FA X W [a] t) (he : starEach [a] X.env = (false, eval a X.env) :: starEach [] X.env := by rfl) (hpl : (backTo pos (starEach [] X.env)).any (·.1) = false := by rfl) : FE X W (.Call (.Name "sum" p) [a] [] pos) (dCB oSum t) :=
  fcb (cr_sum hc) okSum hg hm (by decide +kernel) ha (by decide) (by decide) he hpl
theorem fall (hc : X.calm = true) (hg : Gl X "all") (hm : X.mg "all" = none) (ha : FA X W [a] t) (he : starEach [a] X.env = (false, eval a X.env) :: starEach [] X.env := by rfl) (hpl : (backTo pos (starEach [] X.env)).any (·.1) = false := by rfl) : FE X W (.Call (.Name "all" p) [a] [] pos) (dCB oAll t) :=
  fcb (cr_all hc) okAll hg hm (by decide +kernel) ha (by decide) (by decide) he hpl
theorem fany (hc : X.calm = true) (hg : Gl X "any") (hm : X.mg "any" = none) (ha : FA X W [a] t) (he : starEach [a] X.env = (false, eval a X.env) :: starEach [] X.env := by rfl) (hpl : (backTo pos (starEach [] X.env)).any (·.1) = false := by rfl) : FE X W (.Call (.Name "any" p) [a] [] pos) (dCB oAny t) :=
  fcb (cr_any hc) okAny hg hm (by decide +kernel) ha (by decide) (by decide) he hpl
/-- sorted of texts (fewer than 64) -/
def fSortS : Dv → Store → WQ → Prop := fun d S Q => ∃ xs : List Str, locL S d (xs.map .str) ∧ xs.length < 64 ∧ ∀ ys : List Str, ys.Perm xs → PyProof.Rows.sortedS ys = true → Q (.loc S.length) (S ++ [.lst (ys.map .str)])
def oSortS : WCl := fun ds S Q => match ds with | [d] => fSortS d S Q | _ => False
theorem okSortS {K : PySem.W.Frag} : CrOk K (rSortedS K) oSortS := cr1 (fun v d io H S Q io0 H0 g r rv ⟨ns, h, hz, q⟩ => by
    obtain ⟨a, vs, rfl, sq, rvs⟩ := loc_at r rv h
    rw [map_rv (fun _ _ => rv_str) rvs] at sq
    exact ⟨a, ns, rfl, sq, hz, fun ys p hp ho hn => new_lst g r (rv_map (fun _ => .str) ys) hn (q ys hp ho)⟩) (fun d S Q Q' i ⟨ns, h, hz, q⟩ => ⟨ns, h, hz, fun ys hp ho => i _ _ (q ys hp ho)⟩)
theorem fsortS (hg : Gl X "sorted") (hm : X.mg "sorted" = none) (ha : FA X W [a] t) (he : starEach [a] X.env = (false, eval a X.env) :: starEach [] X.env := by rfl) (hpl : (backTo pos (starEach [] X.env)).any (·.1) = false := by rfl) : FE X W (.Call (.Name "sorted" p) [a] [] pos) (dCB oSortS t) :=
  fcb cr_sortedS okSortS hg hm (by decide +kernel) ha (by decide) (by decide) he hpl
/-- abs, int -/
def oAbs : WCl := fun ds S Q => match ds with | [.int i] => Q (.int (if i < 0 then -i else i)) S | _ => False
def oInt : WCl := fun ds S Q => match ds with | [.int i] => Q (.int i) S | [.bl k] => Q (.int (if k then 1 else 0)) S | _ => False
theorem okAbs {K : PySem.W.Frag} : CrOk K (fun xs H Q => ∃ i, xs = [.int i] ∧ Q (.int (if i < 0 then -i else i)) H) oAbs := ⟨fun xs ds io H S Q io0 H0 g r rvs h => by
    cases rvs with
    | nil => exact (show False from h).elim
    | cons rv rr =>
      cases rr with
      | cons _ _ => cases rv <;> exact (show False from h).elim
      | nil =>
        cases rv <;> first | exact (show False from h).elim | skip
        exact ⟨_, rfl, here g r .int h⟩, fun ds S Q Q' i h => by
    match ds, h with
    | [.int j], h => exact i _ _ h⟩
theorem okInt {K : PySem.W.Frag} : CrOk K (fun xs H Q => (∃ i, xs = [.int i] ∧ Q (.int i) H) ∨ ∃ k, xs = [.bl k] ∧ Q (.int (if k then 1 else 0)) H) oInt := ⟨fun xs ds io H S Q io0 H0 g r rvs h => by
    cases rvs with
    | nil => exact (show False from h).elim
    | cons rv rr =>
      cases rr with
      | cons _ _ => cases rv <;> exact (show False from h).elim
      | nil =>
        cases rv <;> first | exact (show False from h).elim | skip
        · exact .inr ⟨_, rfl, here g r .int h⟩
        · exact .inl ⟨_, rfl, here g r .int h⟩, fun ds S Q Q' i h => by
    match ds, h with
    | [.int j], h => exact i _ _ h
    | [.bl j], h => exact i _ _ h⟩
theorem fabs (hg : Gl X "abs") (hm : X.mg "abs" = none) (ha : FA X W [a] t) (he : starEach [a] X.env = (false, eval a X.env) :: starEach [] X.env := by rfl) (hpl : (backTo pos (starEach [] X.env)).any (·.1) = false := by rfl) : FE X W (.Call (.Name "abs" p) [a] [] pos) (dCB oAbs t) :=
  fcb call_abs okAbs hg hm (by decide +kernel) ha (by decide) (by decide) he hpl
theorem fint (hg : Gl X "int") (hm : X.mg "int" = none) (ha : FA X W [a] t) (he : starEach [a] X.env = (false, eval a X.env) :: starEach [] X.env := by rfl) (hpl : (backTo pos (starEach [] X.env)).any (·.1) = false := by rfl) : FE X W (.Call (.Name "int" p) [a] [] pos) (dCB oInt t) :=
  fct call_int1 okInt hg hm (by decide +kernel) ha (by decide) (by decide) he hpl
/-- max(i, j), min(i, j) -/
def oMax2 : WCl := fun ds S Q => match ds with | [.int i, .int j] => Q (.int (if j > i then j else i)) S | _ => False
def oMin2 : WCl := fun ds S Q => match ds with | [.int i, .int j] => Q (.int (if j < i then j else i)) S | _ => False
theorem ok2I {K : PySem.W.Frag} {f : Int → Int → Int} : CrOk K (fun xs H Q => ∃ i j, xs = [.int i, .int j] ∧ Q (.int (f i j)) H) (fun ds S Q => match ds with | [.int i, .int j] => Q (.int (f i j)) S | _ => False) := ⟨fun xs ds io H S Q io0 H0 g r rvs h => by
    cases rvs with
    | nil => exact (show False from h).elim
    | cons rv rr =>
      cases rr with
      | nil => cases rv <;> exact (show False from h).elim
      | cons rw rr =>
        cases rr with
        | cons _ _ => cases rv <;> cases rw <;> exact (show False from h).elim
        | nil =>
          cases rv <;> cases rw <;> first | exact (show False from h).elim | skip
          exact ⟨_, _, rfl, here g r .int h⟩, fun ds S Q Q' i h => by
    match ds, h with
    | [.int j, .int k], h => exact i _ _ h⟩
theorem fmax2 (hc : X.calm = true) (hg : Gl X "max") (hm : X.mg "max" = none) (ha : FA X W [a, b] t) (he : starEach [a, b] X.env = (false, eval a X.env) :: starEach [b] X.env := by rfl) (hpl : (backTo pos (starEach [b] X.env)).any (·.1) = false := by rfl) : FE X W (.Call (.Name "max" p) [a, b] [] pos) (dCB oMax2 t) :=
  fcb (call_max2 hc) ok2I hg hm (by decide +kernel) ha (by decide) (by decide) he hpl
theorem fmin2 (hc : X.calm = true) (hg : Gl X "min") (hm : X.mg "min" = none) (ha : FA X W [a, b] t) (he : starEach [a, b] X.env = (false, eval a X.env) :: starEach [b] X.env := by rfl) (hpl : (backTo pos (starEach [b] X.env)).any (·.1) = false := by rfl) : FE X W (.Call (.Name "min" p) [a, b] [] pos) (dCB oMin2 t) :=
  fcb (call_min2 hc) ok2I hg hm (by decide +kernel) ha (by decide) (by decide) he hpl
end
end DL

namespace DL
open PySem L2
/-! ### what a def promises, over data -/
abbrev ExD := Addr → List (Str × Dv) → Store → Prop
abbrev SpD := List Dv → Store → WQ → ExD → Prop
def ExE (K : PySem.W.Frag) (io : List Addr) (H : Hp) (E : XK) (ed : ExD) : Prop :=
  ∀ C fs S' dd io' H' vs, ed C fs S' → Ge K io H io' H' → Rl K io' H' S' → H' dd = some (.xd vs) → PrR K io' H' vs fs → E (.ref C) (some dd) H'
def upSp (K : PySem.W.Frag) (sp : SpD) : Sp := fun vs H Q E => ∃ io ds S ed, Rl K io H S ∧ RVs K io H vs ds ∧ ExE K io H E ed ∧ sp ds S (upQ K io H Q) ed
def MonoS (sp : SpD) : Prop := ∀ ds S (Q Q' : WQ) (E : ExD), (∀ d S', Q d S' → Q' d S') → sp ds S Q E → sp ds S Q' E
def LenS (sp : SpD) (n : Nat) : Prop := ∀ ds S Q E, sp ds S Q E → ds.length = n
/-- a promise of the def at f -/
structure FnD (P : Program) (w : World) (K : PySem.W.Frag) (mg : Str → Option Value) (base : Heap) (CX : CXT) (k : Nat) (f : Addr) (fd : FuncData) (ps : List Str) (sp : SpD) : Prop where
  fn : FnOk P w K mg base CX k f fd ps (upSp K sp)
  mo : MonoS sp
abbrev Ps (CX : CXT) (X : Cx) (W : L2.WX) : Prop := ∀ σ, PassesAt CX X σ (L2.WE W σ)
theorem ps0 {X : Cx} {W : L2.WX} : Ps CX0 X W := fun _ _ _ _ _ _ _ h => h.elim
theorem psX {X : Cx} {W : L2.WX} (tk : Takes X W) : Ps (L2.CX X.prog X.w) X W := fun σ => passAt tk σ
/-- a constant value of the written part -/
def Kv (K : PySem.W.Frag) (v : V) (d : Dv) : Prop := ∀ io H, RV K io H v d
inductive Kvs (K : PySem.W.Frag) : List V → List Dv → Prop
  | nil : Kvs K [] []
  | cons {v : V} {d : Dv} {vs : List V} {ds : List Dv} : Kv K v d → Kvs K vs ds → Kvs K (v :: vs) (d :: ds)
theorem Kvs.rv {K : PySem.W.Frag} {io : List Addr} {H : Hp} : ∀ {vs : List V} {ds : List Dv}, Kvs K vs ds → RVs K io H vs ds
  | _, _, .nil => .nil
  | _, _, .cons h r => .cons (h _ _) r.rv
section
variable {X : Cx} {W : L2.WX} {CX : CXT} {k : Nat} {f C : Addr} {fd : FuncData} {ps : List Str} {sp : SpD} {dvs : List V} {dds : List Dv} {dus : List Value} {x m : Str} {p pos apos : Pos} {e o : Expr} {es : List Expr} {t : WA} {to : WE}
/-- f(e, ..), its defaults behind -/
def dCall (sp : SpD) (dds : List Dv) (t : WA) : WE := fun de S Q => t de S fun ds S1 => sp (ds ++ dds) S1 Q de.ex
theorem sp_up {K : PySem.W.Frag} {io io1 : List Addr} {H H1 : Hp} {S1 : Store} {σ : L2.St} {de : DEnv} {vs : List V} {ds : List Dv} {Q : VK} (mo : MonoS sp) (en : EnvOk K W io H σ de) (g : Ge K io H io1 H1) (r : Rl K io1 H1 S1) (rv : RVs K io1 H1 vs ds)
    (h : sp ds S1 (upQ K io H Q) de.ex) : upSp K sp vs H1 Q (L2.WE W σ) :=
  ⟨io1, ds, S1, de.ex, r, rv, fun C fs S' dd io' H' vs q g' => en.ex C fs S' dd io' H' vs q (g.trans g'), mo _ _ _ _ _ (fun d S' q => upQ_pre g q) h⟩
theorem fcall (F : FnD X.prog X.w X.K X.mg X.base CX k f fd ps sp) (hr : Room k X.A) (hg : Gl X x) (hm : X.mg x = some (.ref f)) (hk : PySem.W.keepIn X.K (.ref f) = true) (hb : Binds X.K fd ps dus) (hd : Vals dvs dus) (hkv : Kvs X.K dvs dds) (hx : Ps CX X W)
    (ha : FA X W (e :: es) t) (hdb : (x == ("__debug__" : Str)) = false := by decide) (he : starEach (e :: es) X.env = (false, eval e X.env) :: starEach es X.env := by rfl) (hpl : (backTo pos (starEach es X.env)).any (·.1) = false := by rfl) :
    FE X W (.Call (.Name x p) (e :: es) [] pos) (dCall sp dds t) :=
  ⟨imE (pe_callSD (E := L2.WE W) F.fn hr hg hm hk hb hd hx ha.pa hdb he hpl) fun σ H Q ⟨io, de, S, r, en, q⟩ => useA ha.mo r en q fun ds S1 vs io1 H1 h g1 r1 rvs => sp_up F.mo en g1 r1 (rvs.append hkv.rv) h,
   fun de S Q Q' i q => ha.mo _ _ _ _ (fun ds S1 q1 => F.mo _ _ _ _ _ i q1) q⟩
/-- a method, its wish by the slots -/
theorem pe_methSD {pl : Sem Bool} {E : L2.St → XK} {sp : Sp} {ta : TE} {t : TA} (he : PE X o ta) (c : Cls X.K C) (hm : Meth X.K C m f) (F : FnOk X.prog X.w X.K X.mg X.base CX k f fd ps sp) (hr : Room k X.A) (hb : Binds X.K fd ps dus) (hd : Vals dvs dus)
    (hx : ∀ σ, PassesAt CX X σ (E σ)) (ha : PA X (e :: es) t) (hst : starEach (e :: es) X.env = (false, eval e X.env) :: starEach es X.env) (hpl : (backTo pos (starEach es X.env)).any (·.1) = false)
    (ht : eval (.Call (.Attribute o m apos) (e :: es) [] pos) X.env = (do
      let ov ← eval o X.env
      standAt apos.atName
      let (g, first) ← holding [ov] (getMethod ov m pl)
      callWith pos g first (backTo pos (starEach (e :: es) X.env)) (backToKw pos (keywordEach [] X.env)))) :
    PE X (.Call (.Attribute o m apos) (e :: es) [] pos) (fun σ H Q => ta σ H fun y H1 => ∃ a dx fs, y = .ref a ∧ H1 a = some (.ins C dx fs) ∧ fs.lookup m = none ∧ t σ H1 fun vs H2 => sp (y :: (vs ++ dvs)) H2 Q (E σ)) := by
  constructor
  intro pins s σ H Q I h
  apply PySem.W.methodCall_KW (pl := pl) _ ht
  refine thn (he.run pins s σ H _ I h) ?_
  rintro u s1 ⟨y, H1, I1, ry, a, dx, fs, rfl, ea, l, q⟩
  obtain rfl : u = Value.ref a := ry
  apply getmeth_ok I1 ea c hm l
  apply PySem.W.callWith_K (first := [.ref a]) (h₀ := X.base) I.ok.mod.kin hm.kp _ hst hpl
  refine thn (ha.run pos pins s1 σ H1 _ I1 q) ?_
  rintro us s2 ⟨vs, H2, I2, r, q2⟩
  exact ⟨I2.kIn, run_fnSD (us := .ref a :: us) (vs := .ref a :: vs) F hr hb hd (hx σ) I2 (.cons rfl r) q2⟩
theorem pe_methSD0 {pl : Sem Bool} {E : L2.St → XK} {sp : Sp} {ta : TE} (he : PE X o ta) (c : Cls X.K C) (hm : Meth X.K C m f) (F : FnOk X.prog X.w X.K X.mg X.base CX k f fd ps sp) (hr : Room k X.A) (hb : Binds X.K fd ps dus) (hd : Vals dvs dus)
    (hx : ∀ σ, PassesAt CX X σ (E σ))
    (ht : eval (.Call (.Attribute o m apos) [] [] pos) X.env = (do
      let ov ← eval o X.env
      standAt apos.atName
      let (g, first) ← holding [ov] (getMethod ov m pl)
      callWith pos g first (backTo pos (starEach [] X.env)) (backToKw pos (keywordEach [] X.env)))) :
    PE X (.Call (.Attribute o m apos) [] [] pos) (fun σ H Q => ta σ H fun y H1 => ∃ a dx fs, y = .ref a ∧ H1 a = some (.ins C dx fs) ∧ fs.lookup m = none ∧ sp (y :: dvs) H1 Q (E σ)) := by
  constructor
  intro pins s σ H Q I h
  apply PySem.W.methodCall_KW (pl := pl) _ ht
  refine thn (he.run pins s σ H _ I h) ?_
  rintro u s1 ⟨y, H1, I1, ry, a, dx, fs, rfl, ea, l, q⟩
  obtain rfl : u = Value.ref a := ry
  apply getmeth_ok I1 ea c hm l
  exact PySem.W.callWith_K0 (first := [.ref a]) I1.kIn hm.kp (run_fnSD (us := [.ref a]) (vs := [.ref a]) F hr hb hd (hx σ) I1 (.cons rfl .nil) q)
/-- o.m(..): the instance's place n -/
def dMeth (C : Addr) (m : Str) (sp : SpD) (dds : List Dv) (to : WE) (t : WA) : WE := fun de S Q => to de S fun d S1 => match d with
  | .loc n => ∃ fs, S1[n]? = some (.ins C fs) ∧ fs.lookup m = none ∧ t de S1 fun ds S2 => sp (.loc n :: (ds ++ dds)) S2 Q de.ex
  | _ => False
theorem lookup_pr {K : PySem.W.Frag} {io : List Addr} {H : Hp} {m : Str} : ∀ {vs : List (Str × V)} {fs : List (Str × Dv)}, PrR K io H vs fs → fs.lookup m = none → vs.lookup m = none
  | _, _, .nil, _ => rfl
  | (y, v) :: vs, (z, d) :: fs, .cons r t, h => by
    have e : y = z := r.1
    subst e
    rw [List.lookup_cons] at h ⊢
    cases q : (m == y) with
    | true => rw [q] at h; cases h
    | false => rw [q] at h; exact lookup_pr t h
theorem lookup_pr2 {K : PySem.W.Frag} {io : List Addr} {H : Hp} {m : Str} {d : Dv} : ∀ {vs : List (Str × V)} {fs : List (Str × Dv)}, PrR K io H vs fs → fs.lookup m = some d → ∃ v, vs.lookup m = some v ∧ RV K io H v d
  | _, _, .nil, h => by cases h
  | (y, v) :: vs, (z, d') :: fs, .cons r t, h => by
    have e : y = z := r.1
    subst e
    rw [List.lookup_cons] at h ⊢
    cases q : (m == y) with
    | true => rw [q] at h; cases h; exact ⟨v, rfl, r.2⟩
    | false => rw [q] at h; exact lookup_pr2 t h
theorem fmeth {pl : Sem Bool} (ho : FE X W o to) (c : Cls X.K C) (hm : Meth X.K C m f) (F : FnD X.prog X.w X.K X.mg X.base CX k f fd ps sp) (hr : Room k X.A) (hb : Binds X.K fd ps dus) (hd : Vals dvs dus) (hkv : Kvs X.K dvs dds) (hx : Ps CX X W) (ha : FA X W (e :: es) t)
    (hst : starEach (e :: es) X.env = (false, eval e X.env) :: starEach es X.env := by rfl) (hpl : (backTo pos (starEach es X.env)).any (·.1) = false := by rfl)
    (ht : eval (.Call (.Attribute o m apos) (e :: es) [] pos) X.env = (do
      let ov ← eval o X.env
      standAt apos.atName
      let (g, first) ← holding [ov] (getMethod ov m pl)
      callWith pos g first (backTo pos (starEach (e :: es) X.env)) (backToKw pos (keywordEach [] X.env))) := by rfl) :
    FE X W (.Call (.Attribute o m apos) (e :: es) [] pos) (dMeth C m sp dds to t) :=
  ⟨imE (pe_methSD (E := L2.WE W) ho.pe c hm F.fn hr hb hd hx ha.pa hst hpl ht) fun σ H Q ⟨io, de, S, r, en, q⟩ => useE ho.mo r en q fun d S1 v io1 H1 h g1 r1 rv => by
    cases rv <;> first | exact (show False from h).elim | skip
    rename_i n a e1
    obtain ⟨fs, h1, h2, h3⟩ := h
    obtain ⟨a', q2, dx, vs, ha', rvs⟩ := r1.at h1
    rw [e1] at q2; cases q2
    refine ⟨a, dx, vs, rfl, ha', lookup_pr rvs h2, ?_⟩
    exact useA ha.mo r1 (en.mono g1) h3 fun ds S2 ws io2 H2 h4 g2 r2 rws => sp_up F.mo en (g1.trans g2) r2 (.cons (.loc (g2.pre _ _ e1)) (rws.append hkv.rv)) h4,
   fun de S Q Q' i q => ho.mo _ _ _ _ (fun d S1 q1 => by
    cases d <;> first | exact (show False from q1).elim | skip
    obtain ⟨fs, h1, h2, h3⟩ := q1
    exact ⟨fs, h1, h2, ha.mo _ _ _ _ (fun ds S2 q2 => F.mo _ _ _ _ _ i q2) h3⟩) q⟩
theorem fmeth0 {pl : Sem Bool} (ho : FE X W o to) (c : Cls X.K C) (hm : Meth X.K C m f) (F : FnD X.prog X.w X.K X.mg X.base CX k f fd ps sp) (hr : Room k X.A) (hb : Binds X.K fd ps dus) (hd : Vals dvs dus) (hkv : Kvs X.K dvs dds) (hx : Ps CX X W)
    (ht : eval (.Call (.Attribute o m apos) [] [] pos) X.env = (do
      let ov ← eval o X.env
      standAt apos.atName
      let (g, first) ← holding [ov] (getMethod ov m pl)
      callWith pos g first (backTo pos (starEach [] X.env)) (backToKw pos (keywordEach [] X.env))) := by rfl) :
    FE X W (.Call (.Attribute o m apos) [] [] pos) (dMeth C m sp dds to aN) :=
  ⟨imE (pe_methSD0 (E := L2.WE W) ho.pe c hm F.fn hr hb hd hx ht) fun σ H Q ⟨io, de, S, r, en, q⟩ => useE ho.mo r en q fun d S1 v io1 H1 h g1 r1 rv => by
    cases rv <;> first | exact (show False from h).elim | skip
    rename_i n a e1
    obtain ⟨fs, h1, h2, h3⟩ := h
    obtain ⟨a', q2, dx, vs, ha', rvs⟩ := r1.at h1
    rw [e1] at q2; cases q2
    exact ⟨a, dx, vs, rfl, ha', lookup_pr rvs h2, sp_up F.mo en g1 r1 (.cons (.loc e1) hkv.rv) h3⟩,
   fun de S Q Q' i q => ho.mo _ _ _ _ (fun d S1 q1 => by
    cases d <;> first | exact (show False from q1).elim | skip
    obtain ⟨fs, h1, h2, h3⟩ := q1
    exact ⟨fs, h1, h2, F.mo _ _ _ _ _ i h3⟩) q⟩
/-- o.f, an attribute of an instance -/
def dFld (C : Addr) (f : Str) (to : WE) : WE := fun de S Q => to de S fun d S1 => match d with
  | .loc n => ∃ fs v, S1[n]? = some (.ins C fs) ∧ fs.lookup f = some v ∧ Q v S1
  | _ => False
theorem ffld {f : Str} (c : Cls X.K C) (n : NoAttr X.K C f) (ho : FE X W o to) (hb : attributeBase o f X.env (eval o X.env) = eval o X.env := by rfl) : FE X W (.Attribute o f pos) (dFld C f to) :=
  ⟨imE (pe_fld ho.pe hb) fun σ H Q ⟨io, de, S, r, en, q⟩ => useE ho.mo r en q fun d S1 v io1 H1 h g1 r1 rv => by
    cases rv <;> first | exact (show False from h).elim | skip
    rename_i m a e1
    obtain ⟨fs, dv, h1, h2, h3⟩ := h
    obtain ⟨a', q2, dx, vs, ha', rvs⟩ := r1.at h1
    rw [e1] at q2; cases q2
    obtain ⟨v, hv, rd⟩ := lookup_pr2 rvs h2
    exact ⟨a, C, dx, vs, v, rfl, ha', c, n, hv, here g1 r1 rd h3⟩,
   fun de S Q Q' i q => ho.mo _ _ _ _ (fun d S1 q1 => by
    cases d <;> first | exact (show False from q1).elim | skip
    obtain ⟨fs, v, h1, h2, h3⟩ := q1
    exact ⟨fs, v, h1, h2, i _ _ h3⟩) q⟩
/-- o.f, a property whose getter raises nothing -/
def dProp (C : Addr) (sp : SpD) (to : WE) : WE := fun de S Q => to de S fun d S1 => match d with
  | .loc n => ∃ fs, S1[n]? = some (.ins C fs) ∧ sp [.loc n] S1 Q (fun _ _ _ => False)
  | _ => False
theorem fprop {f : Str} {g q : Addr} (ho : FE X W o to) (c : Cls X.K C) (hp : PropOf X.K C f q g) (F : FnD X.prog X.w X.K X.mg X.base CX k g fd ps sp) (hr : Room (k + 1) X.A) (hb : Binds X.K fd ps []) (hx : Passes CX X.nox E0)
    (hab : attributeBase o f X.env (eval o X.env) = eval o X.env := by rfl) : FE X W (.Attribute o f pos) (dProp C sp to) :=
  ⟨imE (pe_prop ho.pe c hp F.fn hr hb .nil hx hab) fun σ H Q ⟨io, de, S, r, en, q⟩ => useE ho.mo r en q fun d S1 v io1 H1 h g1 r1 rv => by
    cases rv <;> first | exact (show False from h).elim | skip
    rename_i m a e1
    obtain ⟨fs, h1, h3⟩ := h
    obtain ⟨a', q2, dx, vs, ha', rvs⟩ := r1.at h1
    rw [e1] at q2; cases q2
    exact ⟨a, dx, vs, rfl, ha', io1, [.loc m], S1, _, r1, .cons (.loc e1) .nil, fun _ _ _ _ _ _ _ z => z.elim, F.mo _ _ _ _ _ (fun d S' q => upQ_pre g1 q) h3⟩,
   fun de S Q Q' i q => ho.mo _ _ _ _ (fun d S1 q1 => by
    cases d <;> first | exact (show False from q1).elim | skip
    obtain ⟨fs, h1, h3⟩ := q1
    exact ⟨fs, h1, F.mo _ _ _ _ _ i h3⟩) q⟩
/-! ### C(e, ..): a new instance -/
theorem run_makeSD {pins : List (Addr × Obj)} {σ : L2.St} {H : Hp} {s : Shared} {Q : VK} {us : List Value} {vs : List V} {sp : Sp} {E : XK} (M : Mk X.K C f) (F : FnOk X.prog X.w X.K X.mg X.base CX k f fd ps sp) (hr : Room (k + 1) X.A) (hb : Binds X.K fd ps dus) (hd : Vals dvs dus)
    (hx : PassesAt CX X σ E) (I : Inv X pins σ H s) (r : Vals vs us)
    (h : ∀ y dx, H y = none → H dx = none → dx ≠ y → sp (.ref y :: (vs ++ dvs)) (upd (upd H dx (.own y)) y (.ins C dx [])) (fun v H2 => v = .non ∧ Q (.ref y) H2) E) :
    wpAny (model X.prog X.w) X.A (call (.ref C) us) (EP X pins σ Q) X.xe s := by
  have hq := h _ _ (I.hok.fresh (Nat.le_succ s.heap.objs.size)) (I.hok.fresh (Nat.le_refl s.heap.objs.size)) (Nat.ne_of_lt (Nat.lt_succ_self _))
  have J := Inv.made (C := C) I
  have rr : Vals (V.ref (s.heap.objs.size + 1) :: (vs ++ dvs)) (Value.ref (s.heap.objs.size + 1) :: (us ++ dus)) := .cons rfl (r.append hd)
  have hl : (Value.ref (s.heap.objs.size + 1) :: us ++ dus).length = ps.length := rr.length.symm.trans (F.len _ _ _ _ hq)
  refine wpAny_call (make_map (f := f) I.kIn M.makes M.init (beq_iff_eq.mp M.fn) (codeAny_mono (F.run _ X.stack _ _ ⟨Value.ref (s.heap.objs.size + 1) :: us, []⟩ _ _ _ E (hr.make C us []) (J.env0.make C us []) (hb _ (Value.ref (s.heap.objs.size + 1) :: us) J.kIn hl) rr hq) ?_))
  intro r s' hq'
  cases r with
  | error er => exact hx pins _ _ er s' J hq'
  | ok fl =>
    cases fl with
    | ret u =>
      obtain ⟨v, H', J3, rv, rfl, q3⟩ := J.after hq'
      exact ⟨rv, .ref (s.heap.objs.size + 1), H', J3, rfl, q3⟩
    | _ => exact False.elim hq'
theorem pe_makeSD {sp : Sp} {E : L2.St → XK} {t : TA} (M : Mk X.K C f) (F : FnOk X.prog X.w X.K X.mg X.base CX k f fd ps sp) (hr : Room (k + 1) X.A) (hg : Gl X x) (hm : X.mg x = some (.ref C)) (hb : Binds X.K fd ps dus) (hd : Vals dvs dus)
    (hx : ∀ σ, PassesAt CX X σ (E σ)) (ha : PA X (e :: es) t) (hdb : (x == ("__debug__" : Str)) = false) (he : starEach (e :: es) X.env = (false, eval e X.env) :: starEach es X.env) (hpl : (backTo pos (starEach es X.env)).any (·.1) = false) :
    PE X (.Call (.Name x p) (e :: es) [] pos) (fun σ H Q => t σ H fun vs H1 => ∀ y dx, H1 y = none → H1 dx = none → dx ≠ y → sp (.ref y :: (vs ++ dvs)) (upd (upd H1 dx (.own y)) y (.ins C dx [])) (fun v H2 => v = .non ∧ Q (.ref y) H2) (E σ)) := by
  constructor
  intro pins s σ H Q I h
  apply wpAny_Call_Name_kw (ld_glob I hg hm _ hdb)
  apply PySem.W.callWith_K (h₀ := X.base) I.ok.mod.kin M.kp _ he hpl
  refine thn (ha.run pos pins s σ H _ I h) ?_
  rintro us s1 ⟨vs, H1, I1, r, q⟩
  exact ⟨I1.kIn, run_makeSD M F hr hb hd (hx σ) I1 r q⟩
def dMake (C : Addr) (sp : SpD) (dds : List Dv) (t : WA) : WE := fun de S Q => t de S fun ds S1 => sp (.loc S1.length :: (ds ++ dds)) (S1 ++ [.ins C []]) (fun d S2 => d = .non ∧ Q (.loc S1.length) S2) de.ex
theorem fmake (M : Mk X.K C f) (F : FnD X.prog X.w X.K X.mg X.base CX k f fd ps sp) (hr : Room (k + 1) X.A) (hg : Gl X x) (hm : X.mg x = some (.ref C)) (hb : Binds X.K fd ps dus) (hd : Vals dvs dus) (hkv : Kvs X.K dvs dds) (hx : Ps CX X W)
    (ha : FA X W (e :: es) t) (hdb : (x == ("__debug__" : Str)) = false := by decide) (he : starEach (e :: es) X.env = (false, eval e X.env) :: starEach es X.env := by rfl) (hpl : (backTo pos (starEach es X.env)).any (·.1) = false := by rfl) :
    FE X W (.Call (.Name x p) (e :: es) [] pos) (dMake C sp dds t) :=
  ⟨imE (pe_makeSD (E := L2.WE W) M F.fn hr hg hm hb hd hx ha.pa hdb he hpl) fun σ H Q ⟨io, de, S, r, en, q⟩ => useA ha.mo r en q fun ds S1 vs io1 H1 h g1 r1 rvs => fun y dx hy hdx hne => by
    have ga : Ge X.K io1 H1 io1 (upd H1 dx (.own y)) := ge_new hdx
    have hy2 : (upd H1 dx (.own y)) y = none := (upd_ne (Ne.symm hne)).trans hy
    have gb : Ge X.K io1 (upd H1 dx (.own y)) io1 (upd (upd H1 dx (.own y)) y (.ins C dx [])) := ge_new hy2
    have gc : Ge X.K io1 (upd (upd H1 dx (.own y)) y (.ins C dx [])) (io1 ++ [y]) (upd (upd H1 dx (.own y)) y (.ins C dx [])) := ge_ext
    have gg := (ga.trans gb).trans gc
    have r2 := (r1.laid (o := .own y) hdx).push (c := .ins C []) hy2 ⟨dx, [], upd_same, .nil⟩
    refine ⟨io1 ++ [y], _, _, de.ex, r2, .cons (r1.len ▸ loc_new) ((rvs.append hkv.rv).mono gg), fun C fs S' dd io' H' vs q g' => en.ex C fs S' dd io' H' vs q ((g1.trans gg).trans g'), F.mo _ _ _ _ _ (fun d S2 q2 v io3 H3 g3 r3 rv3 => ?_) h⟩
    obtain ⟨rfl, q3⟩ := q2
    cases rv3
    exact ⟨rfl, q3 _ io3 H3 ((g1.trans gg).trans g3) r3 (.loc (g3.pre _ _ (by rw [← r1.len, List.getElem?_append_right (Nat.le_refl _), Nat.sub_self]; rfl)))⟩,
   fun de S Q Q' i q => ha.mo _ _ _ _ (fun ds S1 q1 => F.mo _ _ _ _ _ (fun d S2 q2 => ⟨q2.1, i _ _ q2.2⟩) q1) q⟩
/-! ### methods of lists -/
theorem tyL {K : PySem.W.Frag} {a : Addr} {H : Hp} {vs : List V} (h : H a = some (.lst vs)) : tyV K "list" (.ref a) H := .inl ⟨rfl, _, SqL.of h⟩
theorem ge_lst2 {K : PySem.W.Frag} {io : List Addr} {H : Hp} {a : Addr} {vs : List V} {o : HO} (h : H a = some (.lst vs)) : Ge K io H io (upd H a o) := ge_lst h
theorem put_lst {K : PySem.W.Frag} {io : List Addr} {H : Hp} {S : Store} {n : Nat} {a : Addr} {vs ws : List V} {es : List Dv} (r : Rl K io H S) (e : io[n]? = some a) (h : H a = some (.lst vs)) (rw' : RVs K io H ws es) :
    Rl K io (upd H a (.lst ws)) (S.set n (.lst es)) := r.put e (ge_lst2 h) ⟨ws, upd_same, rw'.mono (ge_lst2 h)⟩
/-- xs.append(v) and the like: the receiver's list, the arguments, the new list and the answer -/
def dLm (f : List Dv → List Dv → (List Dv → Dv → Prop) → Prop) (to : WE) (t : WA) : WE := fun de S Q => to de S fun d S1 => match d with
  | .loc n => (∃ xs, S1[n]? = some (.lst xs)) ∧ t de S1 fun ds S2 => ∃ xs, S2[n]? = some (.lst xs) ∧ f xs ds fun ys d' => Q d' (S2.set n (.lst ys))
  | _ => False
def gApp : List Dv → List Dv → (List Dv → Dv → Prop) → Prop := fun xs ds Q => match ds with | [d] => xs.length < sizeLine ∧ Q (xs ++ [d]) .non | _ => False
theorem fappend (ho : FE X W o to) (ha : FA X W [e] t) (hbase : attributeBase o ("append" : Str) X.env (eval o X.env) = eval o X.env := by rfl)
    (hfew : ((backTo pos (starEach [e] X.env)).all (fun x => !x.1) && (backToKw pos (keywordEach [] X.env)).all (fun x => x.1.isSome) && decide ([e].length + ([] : List Keyword).length + (if ([] : List Keyword).isEmpty then 0 else 1) < 30)) = true := by rfl)
    (hline : (apos.endLine == pos.line) = true := by rfl) (hs : starEach [e] X.env = (false, eval e X.env) :: starEach [] X.env := by rfl) (hpl : (backTo pos (starEach [] X.env)).any (·.1) = false := by rfl) :
    FE X W (.Call (.Attribute o "append" apos) [e] [] pos) (dLm gApp to t) :=
  ⟨imE (pe_bm PySem.F.plainAttrs_list PySem.F.slot_list_append PySem.F.type_list_append mt_append ho.pe ha.pa hbase hfew hline hs hpl) fun σ H Q ⟨io, de, S, r, en, q⟩ => useE ho.mo r en q fun d S1 v io1 H1 h g1 r1 rv => by
    cases rv <;> first | exact (show False from h).elim | skip
    rename_i n a e1
    obtain ⟨⟨xs0, h0⟩, h⟩ := h
    obtain ⟨a0, q0, vs0, ha0, rvs0⟩ := r1.at h0
    rw [e1] at q0; cases q0
    refine ⟨tyL ha0, useA ha.mo r1 (en.mono g1) h fun ds S2 ws io2 H2 ⟨xs, h1, h2⟩ g2 r2 rws => ?_⟩
    match ds, rws, h2 with
    | [d], .cons (v := w) rw1 .nil, h2 =>
      obtain ⟨a', q2, vs, ha', rvs⟩ := r2.at h1
      rw [g2.pre _ _ e1] at q2; cases q2
      exact ⟨a, vs, w, rfl, rfl, ha', by rw [rvs.length]; exact h2.1, here ((g1.trans g2).trans (ge_lst2 ha')) (put_lst r2 (g2.pre _ _ e1) ha' (rvs.append (.one rw1))) .non h2.2⟩,
   fun de S Q Q' i q => ho.mo _ _ _ _ (fun d S1 q1 => by
    cases d <;> first | exact (show False from q1).elim | skip
    exact ⟨q1.1, ha.mo _ _ _ _ (fun ds S2 ⟨xs, h1, h2⟩ => ⟨xs, h1, by
      match ds, h2 with
      | [d], h2 => exact ⟨h2.1, i _ _ h2.2⟩⟩) q1.2⟩) q⟩
end
end DL

namespace DL
open PySem L2
abbrev LocD := List (Option Dv)
/-- what is wanted behind a statement, over data -/
structure DE where
  nx : LocD → Store → Prop
  rt : Dv → Store → Prop
  bk : LocD → Store → Prop
  ct : LocD → Store → Prop
  ex : Addr → List (Str × Dv) → LocD → Store → Prop
abbrev WS := DE → LocD → Store → Prop
structure EndsOk (K : PySem.W.Frag) (W : L2.WX) (io : List Addr) (H : Hp) (D : Ends) (d : DE) : Prop where
  nx : ∀ l S σ io' H', d.nx l S → Ge K io H io' H' → Rl K io' H' S → EnvR K io' H' σ l → D.nx σ H'
  rt : ∀ v S u io' H', d.rt v S → Ge K io H io' H' → Rl K io' H' S → RV K io' H' u v → D.rt u H'
  bk : ∀ l S σ io' H', d.bk l S → Ge K io H io' H' → Rl K io' H' S → EnvR K io' H' σ l → D.bk σ H'
  ct : ∀ l S σ io' H', d.ct l S → Ge K io H io' H' → Rl K io' H' S → EnvR K io' H' σ l → D.ct σ H'
  ex : ∀ C fs l S σ dd io' H' vs, d.ex C fs l S → Ge K io H io' H' → Rl K io' H' S → EnvR K io' H' σ l → H' dd = some (.xd vs) → PrR K io' H' vs fs → W (.ref C) (some dd) σ H'
theorem EndsOk.mono {K : PySem.W.Frag} {W : L2.WX} {io io' : List Addr} {H H' : Hp} {D : Ends} {d : DE} (g : Ge K io H io' H') (h : EndsOk K W io H D d) : EndsOk K W io' H' D d :=
  ⟨fun l S σ io2 H2 q g2 => h.nx l S σ io2 H2 q (g.trans g2), fun l S σ io2 H2 q g2 => h.rt l S σ io2 H2 q (g.trans g2), fun l S σ io2 H2 q g2 => h.bk l S σ io2 H2 q (g.trans g2), fun l S σ io2 H2 q g2 => h.ct l S σ io2 H2 q (g.trans g2),
   fun C fs l S σ dd io2 H2 vs q g2 => h.ex C fs l S σ dd io2 H2 vs q (g.trans g2)⟩
def upS (K : PySem.W.Frag) (W : L2.WX) (t : WS) : TS := fun D σ H => ∃ io l S d, Rl K io H S ∧ EnvR K io H σ l ∧ EndsOk K W io H D d ∧ t d l S
structure FS (X : Cx) (W : L2.WX) (st : Stmt) (t : WS) : Prop where
  ps : PS X st (upS X.K W t)
structure FSs (X : Cx) (W : L2.WX) (st : List Stmt) (t : WS) : Prop where
  ps : PSs X st (upS X.K W t)
theorem imS {X : Cx} {st : Stmt} {t t' : TS} (h : PS X st t) (k : ∀ D σ H, t' D σ H → t D σ H) : PS X st t' := ⟨fun pins s σ H D I q => h.run pins s σ H D I (k D σ H q)⟩
theorem imSs {X : Cx} {st : List Stmt} {t t' : TS} (h : PSs X st t) (k : ∀ D σ H, t' D σ H → t D σ H) : PSs X st t' := ⟨fun pins s σ H D I q => h.run pins s σ H D I (k D σ H q)⟩
/-- the data environment of an expression in a statement -/
abbrev deOf (d : DE) (l : LocD) : DEnv := ⟨l, fun C fs S => d.ex C fs l S⟩
theorem en_of {K : PySem.W.Frag} {W : L2.WX} {io : List Addr} {H : Hp} {σ : L2.St} {D : Ends} {d : DE} {l : LocD} (en : EnvR K io H σ l) (k : EndsOk K W io H D d) : EnvOk K W io H σ (deOf d l) :=
  ⟨en, fun C fs S dd io' H' vs q g r hd pr => k.ex C fs l S σ dd io' H' vs q g r (en.mono g) hd pr⟩
section
variable {X : Cx} {W : L2.WX} {e o : Expr} {te to ti : WE} {st : Stmt} {rest body orelse : List Stmt} {t u : WS} {pos p : Pos} {i : Nat} {x : Str}
def sNil : WS := fun d l S => d.nx l S
def sSeq (t u : WS) : WS := fun d l S => t { d with nx := u d } l S
theorem s_nil : FSs X W [] sNil := ⟨imSs pss_nil fun D σ H ⟨io, l, S, d, r, en, k, q⟩ => k.nx l S σ io H q .refl r en⟩
theorem s_cons (h : FS X W st t) (k : FSs X W rest u) : FSs X W (st :: rest) (sSeq t u) := ⟨imSs (pss_cons h.ps k.ps) fun D σ H ⟨io, l, S, d, r, en, q, h⟩ =>
  ⟨io, l, S, { d with nx := u d }, r, en, ⟨fun l' S' σ' io' H' q' g' r' en' => ⟨io', l', S', d, r', en', q.mono g', q'⟩, q.rt, q.bk, q.ct, q.ex⟩, h⟩⟩
theorem s_one (h : FS X W st t) : FSs X W [st] t := ⟨pss_one h.ps⟩
/-- x = e -/
def sSet (i : Nat) (te : WE) : WS := fun d l S => te (deOf d l) S fun v S' => d.nx (l.set i (some v)) S'
theorem s_set (hN : X.N.Nodup) (hi : X.N[i]? = some x) (hx : L2.Loc X.env.scope x) (h : FE X W e te) (hs : swapsWith e (some (.Name x p)) pos.line X.env = pure false := by rfl)
    (hf : X.fn x = true ∨ X.env.scope.names.lookup x = some .local := by first | exact .inl rfl | exact .inr rfl | assumption) : FS X W (.Assign [.Name x p] e pos) (sSet i te) :=
  ⟨imS (ps_set hN hi hx h.pe hs hf) fun D σ H ⟨io, l, S, d, r, en, k, q⟩ => useE h.mo r (en_of en k) q fun v S1 u io1 H1 q1 g1 r1 rv => k.nx _ _ _ io1 H1 q1 g1 r1 ((en.mono g1).set i rv)⟩
/-- a target that takes a value -/
abbrev WG := Dv → DE → LocD → Store → Prop
abbrev WGs := List Dv → DE → LocD → Store → Prop
def gN (i : Nat) : WG := fun v d l S => d.nx (l.set i (some v)) S
def gT (t : WGs) : WG := fun v d l S => match v with | .tup xs => t xs d l S | _ => False
def gsN : WGs := fun vs d l S => match vs with | [] => d.nx l S | _ => False
def gsC (t : WG) (u : WGs) : WGs := fun vs d l S => match vs with | v :: r => t v { d with nx := u r d } l S | [] => False
def upG (K : PySem.W.Frag) (W : L2.WX) (t : WG) : TG := fun v σ H Q => ∃ io l S d D dv, Rl K io H S ∧ EnvR K io H σ l ∧ RV K io H v dv ∧ EndsOk K W io H D d ∧ D.nx = Q ∧ t dv d l S
def upGs (K : PySem.W.Frag) (W : L2.WX) (t : WGs) : TGs := fun v σ H Q => ∃ io l S d D dv, Rl K io H S ∧ EnvR K io H σ l ∧ RVs K io H v dv ∧ EndsOk K W io H D d ∧ D.nx = Q ∧ t dv d l S
structure FG (X : Cx) (W : L2.WX) (tg : Expr) (t : WG) : Prop where
  pg : PG X tg (upG X.K W t)
structure FGs (X : Cx) (W : L2.WX) (tg : List Expr) (n : Nat) (t : WGs) : Prop where
  pg : PGs X tg (upGs X.K W t)
  len : ∀ vs d l S, t vs d l S → vs.length = n
theorem imG {tg : Expr} {t t' : TG} (h : PG X tg t) (k : ∀ v σ H Q, t' v σ H Q → t v σ H Q) : PG X tg t' := ⟨fun pins s σ H v u Q I r q => h.run pins s σ H v u Q I r (k v σ H Q q)⟩
theorem imGs {tg : List Expr} {t t' : TGs} (h : PGs X tg t) (k : ∀ v σ H Q, t' v σ H Q → t v σ H Q) : PGs X tg t' := ⟨fun pins s σ H v u Q I r q => h.run pins s σ H v u Q I r (k v σ H Q q)⟩
theorem g_name (hN : X.N.Nodup) (hi : X.N[i]? = some x) (hx : L2.Loc X.env.scope x) (hf : X.fn x = true ∨ X.env.scope.names.lookup x = some .local := by first | exact .inl rfl | exact .inr rfl | assumption) : FG X W (.Name x p) (gN i) :=
  ⟨imG (pg_name hN hi hx hf) fun v σ H Q ⟨io, l, S, d, D, dv, r, en, rv, k, e, q⟩ => by
    subst e
    exact k.nx _ _ _ io H q .refl r (en.set i rv)⟩
theorem gs_nil : FGs X W [] 0 gsN := ⟨imGs pgs_nil fun v σ H Q ⟨io, l, S, d, D, dv, r, en, rv, k, e, q⟩ => by
    subst e
    cases rv with
    | nil => exact ⟨rfl, k.nx _ _ _ io H q .refl r en⟩
    | cons _ _ => exact (show False from q).elim, fun vs d l S q => by
    cases vs with
    | nil => rfl
    | cons _ _ => exact (show False from q).elim⟩
theorem gs_cons {tg : Expr} {tgs : List Expr} {n : Nat} {t : WG} {u : WGs} (h : FG X W tg t) (k : FGs X W tgs n u) (hne : ∀ v d l S, t v d l S → ∃ l' S', d.nx l' S')
    (hs : (assignEach (tg :: tgs) X.env).map (·.2) = assign tg X.env :: (assignEach tgs X.env).map (·.2) := by rfl) : FGs X W (tg :: tgs) (n + 1) (gsC t u) :=
  ⟨imGs (pgs_cons h.pg k.pg hs) fun v σ H Q ⟨io, l, S, d, D, dv, r, en, rv, kk, e, q⟩ => by
    subst e
    cases rv with
    | nil => exact (show False from q).elim
    | @cons v0 d0 vs ds h1 h2 =>
      exact ⟨_, _, rfl, io, l, S, { d with nx := u ds d }, { D with nx := fun σ' H' => upGs X.K W u vs σ' H' D.nx }, d0, r, en, h1,
        ⟨fun l' S' σ' io' H' q' g' r' en' => ⟨io', l', S', d, D, ds, r', en', h2.mono g', kk.mono g', rfl, q'⟩, kk.rt, kk.bk, kk.ct, kk.ex⟩, rfl, q⟩, fun vs d l S q => by
    cases vs with
    | nil => exact (show False from q).elim
    | cons v r =>
      obtain ⟨l', S', q'⟩ := hne _ _ _ _ q
      rw [List.length_cons, k.len _ _ _ _ q']⟩
theorem gN_e : ∀ v (d : DE) l S, gN i v d l S → ∃ l' S', d.nx l' S' := fun v d l S q => ⟨_, _, q⟩
theorem g_tup {es : List Expr} {kk n : Nat} {t : WGs} (hc : X.calm = true) (h : FGs X W es n t) (hn : (assignEach es X.env).length = n := by rfl) (hst : (assignEach es X.env).findIdx? (fun y => y.fst) = none := by rfl) : FG X W (.Tuple es kk p) (gT t) :=
  ⟨imG (pg_tup hc h.pg hn hst) fun v σ H Q ⟨io, l, S, d, D, dv, r, en, rv, k, e, q⟩ => by
    cases rv with
    | tup h1 h2 => exact ⟨_, _, rfl, h1, by rw [h2.length]; exact h.len _ _ _ _ q, io, l, S, d, D, _, r, en, h2, k, e, q⟩
    | _ => exact (show False from q).elim⟩
/-- target = e -/
def sAsg (te : WE) (g : WG) : WS := fun d l S => te (deOf d l) S fun v S' => g v d l S'
theorem s_asg {tg : Expr} {g : WG} (h : FE X W e te) (k : FG X W tg g) (hs : swapsWithSole [tg] e pos.line X.env = pure false := by rfl) (hw : swappedStores [tg] e X.env = pure none := by rfl)
    (h1 : (assignEach [tg] X.env).map (·.2) = [assign tg X.env] := by rfl) : FS X W (.Assign [tg] e pos) (sAsg te g) :=
  ⟨imS (ps_asg h.pe k.pg hs hw h1) fun D σ H ⟨io, l, S, d, r, en, kk, q⟩ => useE h.mo r (en_of en kk) q fun v S1 u io1 H1 q1 g1 r1 rv => ⟨io1, l, S1, d, D, v, r1, en.mono g1, rv, kk.mono g1, rfl, q1⟩⟩
/-- x, y = e1, e2 -/
def sPar (i j : Nat) (ta : WA) : WS := fun d l S => ta (deOf d l) S fun vs S' => match vs with | [v, w] => d.nx ((l.set i (some v)).set j (some w)) S' | _ => False
theorem s_par {j : Nat} {y : Str} {a b : Expr} {ta : WA} {px py pt : Pos} {kt k2 pt2} (hc : X.calm = true) (hN : X.N.Nodup) (hi : X.N[i]? = some x) (hj : X.N[j]? = some y) (hij : i ≠ j) (hx : X.env.scope.names.lookup x = some .local) (hy : X.env.scope.names.lookup y = some .local) (ha : FA X W [a, b] ta)
    (hw : swappedStores [.Tuple [.Name x px, .Name y py] kt pt] (.Tuple [a, b] k2 pt2) X.env = pure (some [x, y]) := by rfl) (hs : swapsWithSole [.Tuple [.Name x px, .Name y py] kt pt] (.Tuple [a, b] k2 pt2) pos.line X.env = pure false := by rfl) :
    FS X W (.Assign [.Tuple [.Name x px, .Name y py] kt pt] (.Tuple [a, b] k2 pt2) pos) (sPar i j ta) :=
  ⟨imS (ps_par hc hN hi hj hij hx hy ha.pa hw hs) fun D σ H ⟨io, l, S, d, r, en, kk, q⟩ => useA ha.mo r (en_of en kk) q fun vs S1 us io1 H1 q1 g1 r1 rvs => by
    match vs, rvs, q1 with
    | [v, w], .cons r1' (.cons r2' .nil), q1 => exact ⟨_, _, rfl, kk.nx _ _ _ io1 H1 q1 g1 r1 (((en.mono g1).set i r1').set j r2')⟩⟩
/-- o[i] = e of a list -/
def sPut (te to ti : WE) : WS := fun d l S => te (deOf d l) S fun v S1 => to (deOf d l) S1 fun o S2 => ti (deOf d l) S2 fun j S3 => match o, j with
  | .loc n, .int k => ∃ xs m, S3[n]? = some (.lst xs) ∧ ixN xs.length k = some m ∧ d.nx l (S3.set n (.lst (xs.set m v)))
  | _, _ => False
theorem s_put {ie : Expr} (h : FE X W e te) (ho : FE X W o to) (hi : FE X W ie ti) (ha : ∀ v, assign (.Subscript o ie p) X.env v = (do let ov ← holding [v] (eval o X.env); let iv ← holding [v, ov] (eval ie X.env); standAt p; holding [v, ov, iv] (setItem ov iv v); release [v, ov, iv] []) := by intro _; rfl)
    (hs : swapsWithSole [.Subscript o ie p] e pos.line X.env = pure false := by rfl) (hw : swappedStores [.Subscript o ie p] e X.env = pure none := by rfl) (h1 : (assignEach [.Subscript o ie p] X.env).map (·.2) = [assign (.Subscript o ie p) X.env] := by rfl) :
    FS X W (.Assign [.Subscript o ie p] e pos) (sPut te to ti) :=
  ⟨imS (ps_asg h.pe (pg_sub ho.pe hi.pe set_list ha) hs hw h1) fun D σ H ⟨io, l, S, d, r, en, kk, q⟩ => useE h.mo r (en_of en kk) q fun v S1 u io1 H1 q1 g1 r1 rv =>
    useE ho.mo r1 ((en_of en kk).mono g1) q1 fun od S2 ou io2 H2 q2 g2 r2 ro => useE hi.mo r2 (((en_of en kk).mono g1).mono g2) q2 fun jd S3 ju io3 H3 q3 g3 r3 rj => by
      have ro3 := ro.mono g3
      cases ro3 <;> cases rj <;> first | exact (show False from q3).elim | skip
      rename_i n a e1 kz
      obtain ⟨xs, m, h1, h2, h3⟩ := q3
      obtain ⟨a', e2, vs, hv, rvs⟩ := r3.at h1
      rw [e1] at e2; cases e2
      have g := ((g1.trans g2).trans g3)
      have rs := rvs.set ((rv.mono g2).mono g3) m
      exact ⟨a, vs, kz, m, rfl, rfl, hv, by rw [rvs.length]; exact h2, kk.nx _ _ _ io3 _ h3 (g.trans (ge_lst2 hv)) (put_lst r3 e1 hv rs) ((en.mono g).mono (ge_lst2 hv))⟩⟩
/-- o.f = e -/
def putD (f : Str) (v : Dv) : List (Str × Dv) → List (Str × Dv)
  | [] => [(f, v)]
  | (g, w) :: r => if g = f then (g, v) :: r else (g, w) :: putD f v r
def sFldD (C : Addr) (f : Str) (to te : WE) : WS := fun d l S => te (deOf d l) S fun v S1 => to (deOf d l) S1 fun o S2 => match o with
  | .loc n => ∃ fs, S2[n]? = some (.ins C fs) ∧ fs.length < 1000 ∧ d.nx l (S2.set n (.ins C (putD f v fs)))
  | _ => False
/-- e -/
def sDrop (te : WE) : WS := fun d l S => te (deOf d l) S fun _ S' => d.nx l S'
theorem s_expr (h : FE X W e te) (hs : swapsWith e none pos.line X.env = pure false := by rfl) : FS X W (.Expr e pos) (sDrop te) :=
  ⟨imS (ps_expr h.pe hs) fun D σ H ⟨io, l, S, d, r, en, kk, q⟩ => useE h.mo r (en_of en kk) q fun v S1 u io1 H1 q1 g1 r1 rv => kk.nx _ _ _ io1 H1 q1 g1 r1 (en.mono g1)⟩
def sRet (te : WE) : WS := fun d l S => te (deOf d l) S d.rt
theorem s_ret (h : FE X W e te) : FS X W (.Return (some e) pos) (sRet te) :=
  ⟨imS (ps_ret h.pe) fun D σ H ⟨io, l, S, d, r, en, kk, q⟩ => useE h.mo r (en_of en kk) q fun v S1 u io1 H1 q1 g1 r1 rv => kk.rt _ _ _ io1 H1 q1 g1 r1 rv⟩
def sRetN : WS := fun d _ S => d.rt .non S
theorem s_retN : FS X W (.Return none pos) sRetN := ⟨imS ps_retN fun D σ H ⟨io, l, S, d, r, en, kk, q⟩ => kk.rt _ _ _ io H q .refl r .non⟩
theorem s_pass : FS X W (.Pass pos) sNil := ⟨imS ps_pass fun D σ H ⟨io, l, S, d, r, en, k, q⟩ => k.nx l S σ io H q .refl r en⟩
def sIf (c : WT) (t u : WS) : WS := fun d l S => c (deOf d l) S fun b S' => match b with | true => t d l S' | false => u d l S'
theorem s_if {c : Expr} {tc : WT} {a b : List Stmt} (h : FT X W c tc) (ha : FSs X W a t) (hb : FSs X W b u) : FS X W (.If c a b pos) (sIf tc t u) :=
  ⟨imS (ps_if h.pt ha.ps hb.ps) fun D σ H ⟨io, l, S, d, r, en, kk, q⟩ => useT h.mo r (en_of en kk) q fun b S1 io1 H1 q1 g1 r1 => by
    cases b with
    | true => exact iteT ⟨io1, l, S1, d, r1, en.mono g1, kk.mono g1, q1⟩
    | false => exact iteF ⟨io1, l, S1, d, r1, en.mono g1, kk.mono g1, q1⟩⟩
/-! ### what a loop walks -/
structure ItOk (K : PySem.W.Frag) (io : List Addr) (H : Hp) (J : It) (xs : List Dv) (stay : Store → Prop) : Prop where
  go : ∀ i d io' H' S, Ge K io H io' H' → Rl K io' H' S → stay S → xs[i]? = some d → J.go i H' ∧ ∀ x H2, J.yld i H' x H2 → Ge K io' H' io' H2 ∧ Rl K io' H2 S ∧ RV K io' H2 x d
  stop : ∀ io' H' S, Ge K io H io' H' → Rl K io' H' S → stay S → J.stop xs.length H'
abbrev WI := DEnv → Store → (List Dv → (Store → Prop) → Store → Prop) → Prop
def upI (K : PySem.W.Frag) (W : L2.WX) (t : WI) : TI := fun σ H R => ∃ io de S, Rl K io H S ∧ EnvOk K W io H σ de ∧ t de S fun xs stay S' => ∀ io' H' J, Ge K io H io' H' → Rl K io' H' S' → ItOk K io' H' J xs stay → R J H'
structure FI (X : Cx) (W : L2.WX) (tg iter : Expr) (t : WI) : Prop where
  pi : PI X tg iter (upI X.K W t)
  mo : ∀ de S (Q Q' : List Dv → (Store → Prop) → Store → Prop), (∀ xs st S', Q xs st S' → Q' xs st S') → t de S Q → t de S Q'
theorem imI {tg iter : Expr} {t t' : TI} (h : PI X tg iter t) (k : ∀ σ H R, t' σ H R → t σ H R) : PI X tg iter t' := ⟨fun pins s σ H R I q => h.run pins s σ H R I (k σ H R q)⟩
/-- a list or a tuple -/
def stayOf (v : Dv) (xs : List Dv) : Store → Prop := fun S => match v with | .loc n => S[n]? = some (.lst xs) | _ => True
def iSeq (te : WE) : WI := fun de S Q => te de S fun v S' => ∃ xs, seqOf S' v xs ∧ Q xs (stayOf v xs) S'
theorem it_lst {K : PySem.W.Frag} {io : List Addr} {H : Hp} {n : Nat} {a : Addr} {xs : List Dv} (e : io[n]? = some a) : ItOk K io H (Itl K a) xs (fun S => S[n]? = some (.lst xs)) where
  go := fun i d io' H' S g r st hd => by
    obtain ⟨a', e', vs, hv, rvs⟩ := r.at st
    rw [g.pre _ _ e] at e'; cases e'
    obtain ⟨v, hi, rv⟩ := rvs.get hd
    exact ⟨⟨vs, v, SqL.of hv, hi⟩, fun x H2 ⟨e2, hx⟩ => by
      subst e2
      have := hx vs (SqL.of hv)
      rw [hi] at this; cases this
      exact ⟨.refl, r, rv⟩⟩
  stop := fun io' H' S g r st => by
    obtain ⟨a', e', vs, hv, rvs⟩ := r.at st
    rw [g.pre _ _ e] at e'; cases e'
    exact ⟨vs, SqL.of hv, by rw [rvs.length]; exact Nat.le_refl _⟩
theorem it_tup {K : PySem.W.Frag} {io : List Addr} {H : Hp} {a : Addr} {vs : List V} {xs : List Dv} {st : Store → Prop} (h : SqT K H a vs) (rvs : RVs K io H vs xs) : ItOk K io H (Itt K a) xs st where
  go := fun i d io' H' S g r _ hd => by
    obtain ⟨v, hi, rv⟩ := (rvs.mono g).get hd
    exact ⟨⟨vs, v, g.tup _ _ h, hi⟩, fun x H2 ⟨e2, hx⟩ => by
      subst e2
      have := hx vs (g.tup _ _ h)
      rw [hi] at this; cases this
      exact ⟨.refl, r, rv⟩⟩
  stop := fun io' H' S g r _ => ⟨vs, g.tup _ _ h, by rw [rvs.length]; exact Nat.le_refl _⟩
theorem it_frl {K : PySem.W.Frag} {io : List Addr} {H : Hp} {a : Addr} {vs : List V} {xs : List Dv} {st : Store → Prop} (h : SqF K H a vs) (rvs : RVs K io H vs xs) : ItOk K io H (Itl K a) xs st where
  go := fun i d io' H' S g r _ hd => by
    obtain ⟨v, hi, rv⟩ := (rvs.mono g).get hd
    have sq : SqL K H' a vs := (g.sqf h).sq
    exact ⟨⟨vs, v, sq, hi⟩, fun x H2 ⟨e2, hx⟩ => by
      subst e2
      have := hx vs sq
      rw [hi] at this; cases this
      exact ⟨.refl, r, rv⟩⟩
  stop := fun io' H' S g r _ => ⟨vs, (g.sqf h).sq, by rw [rvs.length]; exact Nat.le_refl _⟩
theorem i_seq {tg : Expr} (h : FE X W e te) : FI X W tg e (iSeq te) := by
  refine ⟨⟨fun pins s σ H R I ⟨io, de, S, r, en, q⟩ => ?_⟩, fun de S Q Q' i q => h.mo _ _ _ _ (fun v S' ⟨xs, h1, q1⟩ => ⟨xs, h1, i _ _ _ q1⟩) q⟩
  refine thn (h.pe.run pins s σ H (fun v H1 => ∃ a, v = .ref a ∧ ((∃ vs, SqL X.K H1 a vs) ∧ R (Itl X.K a) H1 ∨ (∃ vs, SqT X.K H1 a vs) ∧ R (Itt X.K a) H1)) I (useE h.mo r en q fun v S1 u io1 H1 ⟨xs, hs, q1⟩ g1 r1 rv => ?_)) ?_
  · cases rv with
    | loc e1 =>
      obtain ⟨a, q2, vs, hv, rvs⟩ := r1.at hs
      rw [e1] at q2; cases q2
      exact ⟨_, rfl, .inl ⟨⟨vs, SqL.of hv⟩, q1 io1 H1 _ g1 r1 (it_lst e1)⟩⟩
    | tup h1 rvs =>
      cases hs
      exact ⟨_, rfl, .inr ⟨⟨_, h1⟩, q1 io1 H1 _ g1 r1 (it_tup h1 rvs)⟩⟩
    | frl h1 rvs =>
      cases hs
      exact ⟨_, rfl, .inl ⟨⟨_, h1.sq⟩, q1 io1 H1 _ g1 r1 (it_frl h1 rvs)⟩⟩
    | _ => exact (show False from hs).elim
  · rintro u s1 ⟨v, H1, I1, rv, a, rfl, ⟨⟨vs, hv⟩, q1⟩ | ⟨⟨vs, hv⟩, q1⟩⟩
    · obtain rfl : u = Value.ref a := rv
      obtain ⟨its, rr, pl, hz⟩ := I1.list hv
      exact wpAny_pyIter_list pl.isList (pi_one (tk := s1.toks) I1 _ (turn_list a _) ⟨_, Heap.get?_push_size _ rfl, rfl, rfl⟩ q1)
    · obtain rfl : u = Value.ref a := rv
      obtain ⟨its, rr, pl, hz⟩ := I1.tuple hv
      exact wpAny_pyIter_tuple (show s1.heap.IsTuple a its.toArray from pl) (pi_one (tk := s1.toks) I1 _ (turn_tuple a _) ⟨_, Heap.get?_push_size _ rfl, rfl, rfl⟩ q1)
end
end DL

namespace DL
open PySem L2
section
variable {X : Cx} {W : L2.WX} {e o : Expr} {te to ti : WE} {st : Stmt} {rest body orelse : List Stmt} {t u tb : WS} {pos p : Pos} {i : Nat} {x : Str}
/-! ### for -/
def forGo (g : WG) (tb : WS) (stay : Store → Prop) (d : DE) : List Dv → LocD → Store → Prop
  | [] => fun l S => stay S ∧ d.nx l S
  | x :: xs => fun l S => stay S ∧ g x { d with nx := tb { d with nx := forGo g tb stay d xs, ct := forGo g tb stay d xs, bk := d.nx } } l S
def sFor (wi : WI) (g : WG) (tb : WS) : WS := fun d l S => wi (deOf d l) S fun xs stay S' => forGo g tb stay d xs l S'
theorem forGo_stay {g : WG} {stay : Store → Prop} {d : DE} : ∀ {xs : List Dv} {l : LocD} {S : Store}, forGo g tb stay d xs l S → stay S
  | [], _, _, h => h.1
  | _ :: _, _, _, h => h.1
theorem s_for {tg iter : Expr} {wi : WI} {g : WG} (hp : PassesOwn (model X.prog X.w) X.A X.env X.xe) (hc : X.calm = true) (hi : FI X W tg iter wi) (hg : FG X W tg g) (hb : FSs X W body tb) (hs : ∀ y, foldedSetIterable iter X.env y = pure y := by intro _; rfl) :
    FS X W (.For tg iter body [] pos) (sFor wi g tb) :=
  ⟨imS (ps_for hp hc hi.pi hg.pg hb.ps hs) fun D σ H ⟨io, l, S, d, r, en, kk, q⟩ => by
    refine ⟨io, deOf d l, S, r, en_of en kk, hi.mo _ _ _ _ (fun xs stay S1 q1 io1 H1 J g1 r1 it => ?_) q⟩
    refine ⟨fun i m σ' H' => m = xs.length - i ∧ i ≤ xs.length ∧ ∃ io' l' S', Ge X.K io1 H1 io' H' ∧ Rl X.K io' H' S' ∧ EnvR X.K io' H' σ' l' ∧ forGo g tb stay d (xs.drop i) l' S',
      ⟨xs.length, by simp, Nat.zero_le _, io1, l, S1, .refl, r1, en.mono g1, q1⟩, ?_⟩
    rintro i m σ' H' ⟨rfl, hi, io', l', S', g', r', en', h⟩
    by_cases hlt : i < xs.length
    · have ed : xs.drop i = xs[i] :: xs.drop (i + 1) := List.drop_eq_getElem_cons hlt
      have hd : xs[i]? = some xs[i] := List.getElem?_eq_getElem hlt
      rw [ed] at h
      obtain ⟨hst, hgo⟩ := h
      obtain ⟨jgo, jy⟩ := it.go i _ io' H' S' g' r' hst hd
      let N : L2.St → Hp → Prop := fun σ2 H2 => ∃ io' l' S', Ge X.K io1 H1 io' H2 ∧ Rl X.K io' H2 S' ∧ EnvR X.K io' H2 σ2 l' ∧ forGo g tb stay d (xs.drop (i + 1)) l' S'
      refine .inr ⟨jgo, N, fun σ2 H2 n => ⟨xs.length - (i + 1), by omega, rfl, hlt, n⟩, fun x H2 hy => ?_⟩
      obtain ⟨g2, r2, rx⟩ := jy x H2 hy
      have k2 := (kk.mono g1).mono (g'.trans g2)
      let d2 : DE := { d with nx := forGo g tb stay d (xs.drop (i + 1)), ct := forGo g tb stay d (xs.drop (i + 1)), bk := d.nx }
      refine ⟨io', l', S', { d with nx := tb d2 }, { D with nx := fun σ2 H2 => upS X.K W tb { D with nx := N, ct := N, bk := D.nx } σ2 H2 }, _, r2, en'.mono g2, rx, ⟨fun l3 S3 σ3 io3 H3 q3 g3 r3 en3 => ?_, k2.rt, k2.bk, k2.ct, k2.ex⟩, rfl, hgo⟩
      have k3 := k2.mono g3
      have nn : ∀ l4 S4 σ4 io4 H4, forGo g tb stay d (xs.drop (i + 1)) l4 S4 → Ge X.K io3 H3 io4 H4 → Rl X.K io4 H4 S4 → EnvR X.K io4 H4 σ4 l4 → N σ4 H4 := fun l4 S4 σ4 io4 H4 q4 g4 r4 en4 => ⟨io4, l4, S4, (((g'.trans g2).trans g3).trans g4), r4, en4, q4⟩
      exact ⟨io3, l3, S3, d2, r3, en3, ⟨nn, k3.rt, k3.nx, nn, k3.ex⟩, q3⟩
    · have e : i = xs.length := by omega
      subst e
      rw [List.drop_length] at h
      exact .inl ⟨it.stop io' H' S' g' r' h.1, (kk.mono g1).nx _ _ _ io' H' h.2 g' r' en'⟩⟩
/-! ### while -/
def whGo (c : WT) (tb : WS) (d : DE) : Nat → LocD → Store → Prop
  | 0 => fun _ _ => False
  | n + 1 => fun l S => c (deOf d l) S fun b S' => match b with | true => tb { d with nx := whGo c tb d n, ct := whGo c tb d n, bk := d.nx } l S' | false => d.nx l S'
def sWhile (c : WT) (tb : WS) : WS := fun d l S => ∃ n, whGo c tb d n l S
theorem s_while {c : Expr} {tc : WT} (hp : PassesOwn (model X.prog X.w) X.A X.env X.xe) (hc : FT X W c tc) (hb : FSs X W body tb) : FS X W (.While c body [] pos) (sWhile tc tb) :=
  ⟨imS (ps_while hp hc.pt hb.ps) fun D σ H ⟨io, l, S, d, r, en, kk, n0, q⟩ => by
    refine ⟨fun m σ' H' => ∃ io' l' S', Ge X.K io H io' H' ∧ Rl X.K io' H' S' ∧ EnvR X.K io' H' σ' l' ∧ whGo tc tb d m l' S', ⟨n0, io, l, S, .refl, r, en, q⟩, ?_⟩
    rintro m σ' H' ⟨io', l', S', g', r', en', h⟩
    cases m with
    | zero => exact (show False from h).elim
    | succ m =>
      refine useT hc.mo r' (en_of en' (kk.mono g')) h fun b S1 io1 H1 q1 g1 r1 => ?_
      have k1 := (kk.mono g').mono g1
      cases b with
      | true =>
        refine iteT ⟨fun σ2 H2 => ∃ io' l' S', Ge X.K io H io' H2 ∧ Rl X.K io' H2 S' ∧ EnvR X.K io' H2 σ2 l' ∧ whGo tc tb d m l' S', fun σ2 H2 h2 => ⟨m, Nat.lt_succ_self m, h2⟩, ?_⟩
        have nn : ∀ l4 S4 σ4 io4 H4, whGo tc tb d m l4 S4 → Ge X.K io1 H1 io4 H4 → Rl X.K io4 H4 S4 → EnvR X.K io4 H4 σ4 l4 → ∃ io' l' S', Ge X.K io H io' H4 ∧ Rl X.K io' H4 S' ∧ EnvR X.K io' H4 σ4 l' ∧ whGo tc tb d m l' S' :=
          fun l4 S4 σ4 io4 H4 q4 g4 r4 en4 => ⟨io4, l4, S4, (g'.trans g1).trans g4, r4, en4, q4⟩
        exact ⟨io1, l', S1, { d with nx := whGo tc tb d m, ct := whGo tc tb d m, bk := d.nx }, r1, en'.mono g1, ⟨nn, k1.rt, k1.nx, nn, k1.ex⟩, q1⟩
      | false => exact iteF (k1.nx _ _ _ io1 H1 q1 .refl r1 (en'.mono g1))⟩
/-! ### what is walked: ranges, texts, pairs -/
def rngD (lo : Int) (n : Nat) : List Dv := (List.range n).map fun (k : Nat) => Dv.int (lo + (k : Int))
theorem rng_at {lo : Int} {n i : Nat} {d : Dv} (h : (rngD lo n)[i]? = some d) : i < n ∧ d = .int (lo + i) := by
  unfold rngD at h
  rw [List.getElem?_map] at h
  by_cases hi : i < n
  · rw [List.getElem?_range hi] at h
    exact ⟨hi, (Option.some.inj h).symm⟩
  · rw [List.getElem?_eq_none (by rw [List.length_range]; omega)] at h; cases h
theorem it_rng {K : PySem.W.Frag} {io : List Addr} {H : Hp} {lo : Int} {n : Nat} {st : Store → Prop} : ItOk K io H (Itr lo n) (rngD lo n) st where
  go := fun i d io' H' S g r _ hd => by
    obtain ⟨hi, e⟩ := rng_at hd
    subst e
    exact ⟨hi, fun x H2 ⟨e2, hx⟩ => by subst e2 hx; exact ⟨.refl, r, .int⟩⟩
  stop := fun io' H' S g r _ => by
    have e : (rngD lo n).length = n := by unfold rngD; rw [List.length_map, List.length_range]
    rw [e]; exact Nat.le_refl _
def iR1 (ta : WA) : WI := fun de S Q => ta de S fun ds S' => match ds with | [.int j] => (-(2 ^ 62) ≤ j ∧ j < 2 ^ 62) ∧ Q (rngD 0 j.toNat) (fun _ => True) S' | _ => False
def iR2 (ta : WA) : WI := fun de S Q => ta de S fun ds S' => match ds with | [.int i, .int j] => (-(2 ^ 62) ≤ i ∧ i < 2 ^ 62 ∧ -(2 ^ 62) ≤ j ∧ j < 2 ^ 62) ∧ Q (rngD i (j - i).toNat) (fun _ => True) S' | _ => False
theorem i_r1 {tg a : Expr} {ta : WA} (hg : Gl X "range") (hm : X.mg "range" = none) (ha : FA X W [a] ta) (hs : starEach [a] X.env = [(false, eval a X.env)] := by rfl) : FI X W tg (.Call (.Name "range" p) [a] [] pos) (iR1 ta) :=
  ⟨imI (pi_range1 hg hm ha.pa hs) fun σ H R ⟨io, de, S, r, en, q⟩ => useA ha.mo r en q fun ds S1 vs io1 H1 q1 g1 r1 rvs => by
    match ds, rvs, q1 with
    | [.int j], .cons .int .nil, q1 => exact ⟨j, rfl, q1.1.1, q1.1.2, q1.2 io1 H1 _ g1 r1 it_rng⟩,
   fun de S Q Q' i q => ha.mo _ _ _ _ (fun ds S1 q1 => by
    match ds, q1 with
    | [.int j], q1 => exact ⟨q1.1, i _ _ _ q1.2⟩) q⟩
theorem i_r2 {tg a b : Expr} {ta : WA} (hg : Gl X "range") (hm : X.mg "range" = none) (ha : FA X W [a, b] ta) (hs : starEach [a, b] X.env = [(false, eval a X.env), (false, eval b X.env)] := by rfl) (hs2 : starEach [b] X.env = [(false, eval b X.env)] := by rfl) :
    FI X W tg (.Call (.Name "range" p) [a, b] [] pos) (iR2 ta) :=
  ⟨imI (pi_range2 hg hm ha.pa hs hs2) fun σ H R ⟨io, de, S, r, en, q⟩ => useA ha.mo r en q fun ds S1 vs io1 H1 q1 g1 r1 rvs => by
    match ds, rvs, q1 with
    | [.int j, .int k], .cons .int (.cons .int .nil), q1 => exact ⟨j, k, rfl, q1.1, q1.2 io1 H1 _ g1 r1 it_rng⟩,
   fun de S Q Q' i q => ha.mo _ _ _ _ (fun ds S1 q1 => by
    match ds, q1 with
    | [.int j, .int k], q1 => exact ⟨q1.1, i _ _ _ q1.2⟩) q⟩
def strD (z : Str) : List Dv := z.cps.toList.map fun c => .str ⟨#[c]⟩
theorem it_str {K : PySem.W.Frag} {io : List Addr} {H : Hp} {z : Str} {st : Store → Prop} : ItOk K io H (Its z) (strD z) st where
  go := fun i d io' H' S g r _ hd => by
    unfold strD at hd
    rw [List.getElem?_map] at hd
    cases h : z.cps.toList[i]? with
    | none => rw [h] at hd; cases hd
    | some c =>
      rw [h] at hd
      have e := Option.some.inj hd
      have h' : z.cps[i]? = some c := by simpa using h
      refine ⟨(Array.getElem?_eq_some_iff.mp h').1, fun x H2 ⟨e2, c2, hc2, hx⟩ => ?_⟩
      rw [h'] at hc2; cases hc2
      subst e2 hx
      rw [← e]
      exact ⟨.refl, r, .str⟩
  stop := fun io' H' S g r _ => by
    have e : (strD z).length = z.cps.size := by unfold strD; rw [List.length_map, Array.length_toList]
    rw [e]; exact Nat.le_refl _
def iStrD (te : WE) : WI := fun de S Q => te de S fun v S' => match v with | .str z => Q (strD z) (fun _ => True) S' | _ => False
theorem i_str {tg : Expr} (h : FE X W e te) : FI X W tg e (iStrD te) :=
  ⟨imI (pi_str h.pe) fun σ H R ⟨io, de, S, r, en, q⟩ => useE h.mo r en q fun v S1 u io1 H1 q1 g1 r1 rv => by
    cases rv <;> first | exact (show False from q1).elim | skip
    exact ⟨_, rfl, q1 io1 H1 _ g1 r1 it_str⟩,
   fun de S Q Q' i q => h.mo _ _ _ _ (fun v S1 q1 => by
    cases v <;> first | exact (show False from q1).elim | skip
    exact i _ _ _ q1) q⟩
/-- enumerate of a list -/
def enD : Nat → List Dv → List Dv
  | _, [] => []
  | k, x :: xs => .tup [.int (k : Int), x] :: enD (k + 1) xs
theorem en_at : ∀ {xs : List Dv} {k i : Nat} {d : Dv}, (enD k xs)[i]? = some d → ∃ x, xs[i]? = some x ∧ d = .tup [.int ((k + i : Nat) : Int), x]
  | [], _, _, _, h => by simp [enD] at h
  | x :: xs, k, 0, d, h => by simp [enD] at h; exact ⟨x, rfl, h.symm⟩
  | x :: xs, k, i + 1, d, h => by
    obtain ⟨y, h1, h2⟩ := en_at (xs := xs) (k := k + 1) (i := i) (d := d) (by simpa [enD] using h)
    exact ⟨y, by simpa using h1, by rw [h2, show k + 1 + i = k + (i + 1) by omega]⟩
theorem en_len : ∀ (xs : List Dv) (k : Nat), (enD k xs).length = xs.length
  | [], _ => rfl
  | _ :: xs, k => by rw [enD, List.length_cons, List.length_cons, en_len xs]
theorem it_enum {K : PySem.W.Frag} {io : List Addr} {H : Hp} {n : Nat} {a : Addr} {xs : List Dv} (e : io[n]? = some a) : ItOk K io H (Ite K a) (enD 0 xs) (fun S => S[n]? = some (.lst xs)) where
  go := fun i d io' H' S g r st hd => by
    obtain ⟨x, hx, rfl⟩ := en_at hd
    obtain ⟨a', e', vs, hv, rvs⟩ := r.at st
    rw [g.pre _ _ e] at e'; cases e'
    obtain ⟨v, hi, rv⟩ := rvs.get hx
    refine ⟨⟨vs, v, SqL.of hv, hi⟩, fun y H2 ⟨T, w, ey, hT, eH, hw⟩ => ?_⟩
    have := hw vs (SqL.of hv)
    rw [hi] at this; cases this
    subst ey eH
    have g2 : Ge K io' H' io' (upd H' T (.tup [.int (i : Nat), v])) := ge_new hT
    refine ⟨g2, r.laid hT, .tup (SqT.of upd_same) (.cons ?_ (.cons (rv.mono g2) .nil))⟩
    rw [Nat.zero_add]
    exact .int
  stop := fun io' H' S g r st => by
    obtain ⟨a', e', vs, hv, rvs⟩ := r.at st
    rw [g.pre _ _ e] at e'; cases e'
    exact ⟨vs, SqL.of hv, by rw [rvs.length, en_len]; exact Nat.le_refl _⟩
def iEn (ta : WA) : WI := fun de S Q => ta de S fun ds S' => match ds with | [.loc n] => ∃ xs, S'[n]? = some (.lst xs) ∧ Q (enD 0 xs) (fun S => S[n]? = some (.lst xs)) S' | _ => False
theorem i_en {a : Expr} {ta : WA} {elts : List Expr} {kk : Nat} {tpos : Pos} (hg : Gl X "enumerate") (hm : X.mg "enumerate" = none) (ha : FA X W [a] ta) (hs : starEach [a] X.env = [(false, eval a X.env)] := by rfl) : FI X W (.Tuple elts kk tpos) (.Call (.Name "enumerate" p) [a] [] pos) (iEn ta) :=
  ⟨imI (pi_enum hg hm ha.pa hs) fun σ H R ⟨io, de, S, r, en, q⟩ => useA ha.mo r en q fun ds S1 vs io1 H1 q1 g1 r1 rvs => by
    match ds, rvs, q1 with
    | [.loc n], .cons (.loc e1) .nil, ⟨xs, h1, q1⟩ =>
      obtain ⟨a', q2, vs, hv, rvs⟩ := r1.at h1
      rw [e1] at q2; cases q2
      exact ⟨_, vs, rfl, SqL.of hv, q1 io1 H1 _ g1 r1 (it_enum e1)⟩,
   fun de S Q Q' i q => ha.mo _ _ _ _ (fun ds S1 q1 => by
    match ds, q1 with
    | [.loc n], ⟨xs, h1, q1⟩ => exact ⟨xs, h1, i _ _ _ q1⟩) q⟩
/-- zip of two lists -/
def zpD : List Dv → List Dv → List Dv
  | x :: xs, y :: ys => .tup [x, y] :: zpD xs ys
  | _, _ => []
theorem zp_at : ∀ {xs ys : List Dv} {i : Nat} {d : Dv}, (zpD xs ys)[i]? = some d → ∃ x y, xs[i]? = some x ∧ ys[i]? = some y ∧ d = .tup [x, y]
  | [], ys, _, _, h => by simp [zpD] at h
  | x :: xs, [], _, _, h => by simp [zpD] at h
  | x :: xs, y :: ys, 0, d, h => by simp [zpD] at h; exact ⟨x, y, rfl, rfl, h.symm⟩
  | x :: xs, y :: ys, i + 1, d, h => by
    obtain ⟨a, b, h1, h2, h3⟩ := zp_at (xs := xs) (ys := ys) (i := i) (d := d) (by simpa [zpD] using h)
    exact ⟨a, b, by simpa using h1, by simpa using h2, h3⟩
theorem zp_len : ∀ (xs ys : List Dv), (zpD xs ys).length = min xs.length ys.length
  | [], ys => by simp [zpD]
  | x :: xs, [] => by simp [zpD]
  | x :: xs, y :: ys => by
    rw [zpD, List.length_cons, List.length_cons, List.length_cons, zp_len xs ys]
    omega
theorem it_zip {K : PySem.W.Frag} {io : List Addr} {H : Hp} {n m : Nat} {a b : Addr} {xs ys : List Dv} (e : io[n]? = some a) (e' : io[m]? = some b) : ItOk K io H (Itz K a b) (zpD xs ys) (fun S => S[n]? = some (.lst xs) ∧ S[m]? = some (.lst ys)) where
  go := fun i d io' H' S g r st hd => by
    obtain ⟨x, y, hx, hy, rfl⟩ := zp_at hd
    obtain ⟨a', e1, vs, hv, rvs⟩ := r.at st.1
    obtain ⟨b', e2, ws, hw, rws⟩ := r.at st.2
    rw [g.pre _ _ e] at e1; cases e1
    rw [g.pre _ _ e'] at e2; cases e2
    obtain ⟨v, hi, rv⟩ := rvs.get hx
    obtain ⟨w, hj, rw'⟩ := rws.get hy
    refine ⟨⟨vs, ws, v, w, SqL.of hv, SqL.of hw, hi, hj⟩, fun z H2 ⟨T, v', w', ez, hT, eH, hv', hw'⟩ => ?_⟩
    have q1 := hv' vs (SqL.of hv)
    have q2 := hw' ws (SqL.of hw)
    rw [hi] at q1; cases q1
    rw [hj] at q2; cases q2
    subst ez eH
    have g2 : Ge K io' H' io' (upd H' T (.tup [v, w])) := ge_new hT
    exact ⟨g2, r.laid hT, .tup (SqT.of upd_same) (.cons (rv.mono g2) (.cons (rw'.mono g2) .nil))⟩
  stop := fun io' H' S g r st => by
    obtain ⟨a', e1, vs, hv, rvs⟩ := r.at st.1
    obtain ⟨b', e2, ws, hw, rws⟩ := r.at st.2
    rw [g.pre _ _ e] at e1; cases e1
    rw [g.pre _ _ e'] at e2; cases e2
    exact ⟨vs, ws, SqL.of hv, SqL.of hw, by rw [rvs.length, rws.length, zp_len]; omega⟩
def iZp (ta : WA) : WI := fun de S Q => ta de S fun ds S' => match ds with | [.loc n, .loc m] => ∃ xs ys, S'[n]? = some (.lst xs) ∧ S'[m]? = some (.lst ys) ∧ Q (zpD xs ys) (fun S => S[n]? = some (.lst xs) ∧ S[m]? = some (.lst ys)) S' | _ => False
theorem i_zp {a b : Expr} {ta : WA} {elts : List Expr} {kk : Nat} {tpos : Pos} (hg : Gl X "zip") (hm : X.mg "zip" = none) (ha : FA X W [a, b] ta) (hs : starEach [a, b] X.env = (false, eval a X.env) :: starEach [b] X.env := by rfl) (hpl : (backTo pos (starEach [b] X.env)).any (·.1) = false := by rfl) :
    FI X W (.Tuple elts kk tpos) (.Call (.Name "zip" p) [a, b] [] pos) (iZp ta) :=
  ⟨imI (pi_zip hg hm ha.pa hs hpl) fun σ H R ⟨io, de, S, r, en, q⟩ => useA ha.mo r en q fun ds S1 vs io1 H1 q1 g1 r1 rvs => by
    match ds, rvs, q1 with
    | [.loc n, .loc m], .cons (.loc e1) (.cons (.loc e2) .nil), ⟨xs, ys, h1, h2, q1⟩ =>
      obtain ⟨a', q2, vs, hv, rvs⟩ := r1.at h1
      obtain ⟨b', q3, ws, hw, rws⟩ := r1.at h2
      rw [e1] at q2; cases q2
      rw [e2] at q3; cases q3
      exact ⟨_, _, vs, ws, rfl, SqL.of hv, SqL.of hw, q1 io1 H1 _ g1 r1 (it_zip e1 e2)⟩,
   fun de S Q Q' i q => ha.mo _ _ _ _ (fun ds S1 q1 => by
    match ds, q1 with
    | [.loc n, .loc m], ⟨xs, ys, h1, h2, q1⟩ => exact ⟨xs, ys, h1, h2, i _ _ _ q1⟩) q⟩
end
/-! ### a def -/
section
variable {P : Program} {w : World} {K : PySem.W.Frag} {mg : Str → Option Value} {base : Heap}
def startD (N : List Str) (ds : List Dv) : LocD := ds.map some ++ List.replicate (N.length - ds.length) none
theorem start_en {K : PySem.W.Frag} {io : List Addr} {H : Hp} {N : List Str} {vs : List V} {ds : List Dv} (r : RVs K io H vs ds) : EnvR K io H (L2.start N vs) (startD N ds) := by
  have e := r.length
  refine ⟨by unfold L2.start startD; simp [e], fun i d h => ?_⟩
  unfold startD at h
  unfold L2.start
  by_cases hi : i < ds.length
  · rw [List.getElem?_append_left (by simpa using hi), List.getElem?_map] at h
    cases q : ds[i]? with
    | none => rw [q] at h; cases h
    | some d' =>
      rw [q] at h
      have := Option.some.inj (Option.some.inj h)
      subst this
      obtain ⟨v, hv, rv⟩ := r.get q
      refine ⟨v, ?_, rv⟩
      rw [List.getElem?_append_left (by simp [e, hi]), List.getElem?_map, hv]
      rfl
  · rw [List.getElem?_append_right (by simpa using hi)] at h
    rw [List.getElem?_replicate] at h
    split at h <;> cases h
abbrev deFn (Q : WQ) (E : ExD) : DE := ⟨fun _ S => Q .non S, Q, fun _ _ => False, fun _ _ => False, fun C fs _ S => E C fs S⟩
abbrev Wof (E : XK) : L2.WX := fun cls d _ H => E cls d H
theorem fn_def {x qual : Str} {st : Stmt} {f : Addr} {fd : FuncData} {N ps : List Str} {k : Nat} {sp : SpD} {t : WS} (F : Fun K x qual st f fd) (S : FnScope N ps (defScope st)) (len : LenS sp ps.length) (mo : MonoS sp)
    (body : ∀ (cdv : Value) (A : Around) (outer : List Env) (s : Shared) (H : Hp) (E : XK), Room k (A.deeper (PyProof.Rows.envOfC qual (defScope st) s.heap.objs.size f cdv)) →
      FSs (cxOf (L2.CX P w) P w K mg base N qual (defScope st) f cdv A outer s H E) (Wof E) (defBody st) t)
    (read : ∀ ds S (Q : WQ) (E : ExD), sp ds S Q E → t (deFn Q E) (startD N ds) S) : FnD P w K mg base (L2.CX P w) (k + 1) f fd ps sp := by
  refine ⟨F.okX S ?_ ?_, mo⟩
  · rintro vs H Q E ⟨io, ds, S', ed, r, rvs, ex, h⟩
    rw [rvs.length]
    exact len _ _ _ _ h
  · rintro cdv A outer s H vs Q E hr ⟨io, ds, S', ed, r, rvs, ex, h⟩
    refine ⟨_, (body cdv A outer s H E hr).ps, io, startD N ds, S', deFn (upQ K io H Q) ed, r, start_en rvs, ⟨fun l S2 σ io' H' q g' r' en => q _ io' H' g' r' .non, fun v S2 u io' H' q g' r' rv => q u io' H' g' r' rv, fun _ _ _ _ _ z => z.elim, fun _ _ _ _ _ z => z.elim,
      fun C fs l S2 σ dd io' H' vs q g' r' en hd pr => ex C fs S2 dd io' H' vs q g' r' hd pr⟩, read _ _ _ _ h⟩
end
end DL

namespace DL
open PySem L2
theorem ge_same {K : PySem.W.Frag} {io : List Addr} {H H' : Hp} (h : ∀ b o, H b = some o → H' b = some o) : Ge K io H io H' := ⟨fun _ _ e => e, fun a vs q => by
  rcases q with (q | ⟨o, q⟩) | q
  · exact .inl (.inl (h _ _ q))
  · exact .inl (.inr ⟨o, h _ _ q⟩)
  · exact .inr q, fun _ _ e => h _ _ e, fun _ _ _ e => h _ _ e⟩
theorem Rl.same {K : PySem.W.Frag} {io : List Addr} {H H' : Hp} {S : Store} (r : Rl K io H S) (h : ∀ b o, H b = some o → H' b = some o) : Rl K io H' S :=
  ⟨r.len, r.nd, fun n a c e1 e2 => by
    have k := r.ok n a c e1 e2
    obtain ⟨o, q, _⟩ := k.some
    exact k.mono (ge_same h) ((h _ _ q).trans q.symm)⟩
theorem EnvR.unset {K : PySem.W.Frag} {io : List Addr} {H : Hp} {σ : L2.St} {l : LocD} (h : EnvR K io H σ l) (i : Nat) : EnvR K io H (σ.set i none) (l.set i none) :=
  ⟨by rw [List.length_set, List.length_set]; exact h.len, fun j e q => by
    by_cases hj : j = i
    · subst hj
      by_cases hl : j < l.length
      · rw [List.getElem?_set_self hl] at q; cases q
      · rw [List.getElem?_eq_none (by rw [List.length_set]; omega)] at q; cases q
    · rw [List.getElem?_set_ne (Ne.symm hj)] at q ⊢
      exact h.ok j e q⟩
/-! ### exceptions with an __init__ that keeps its arguments -/
/-- the promise of such an __init__: one, two, three fields -/
def spI1 (C : Addr) (f1 : Str) : Sp := fun vs H Q _ => ∃ (a : Addr) (y : V), vs = [.ref a, y] ∧ H a = some (exo a C none) ∧
  ∀ d, H d = none → d ≠ a → Q .non (upd (upd H d (exd d [(f1, y)])) a (exo a C (some d)))
def spI2 (C : Addr) (f1 f2 : Str) : Sp := fun vs H Q _ => ∃ (a : Addr) (y z : V), vs = [.ref a, y, z] ∧ H a = some (exo a C none) ∧
  ∀ d, H d = none → d ≠ a → Q .non (upd (upd (upd H d (exd d [(f1, y)])) a (exo a C (some d))) d (exd d [(f2, z), (f1, y)]))
def spI3 (C : Addr) (f1 f2 f3 : Str) : Sp := fun vs H Q _ => ∃ (a : Addr) (y z w : V), vs = [.ref a, y, z, w] ∧ H a = some (exo a C none) ∧
  ∀ d, H d = none → d ≠ a → Q .non (upd (upd (upd (upd H d (exd d [(f1, y)])) a (exo a C (some d))) d (exd d [(f2, z), (f1, y)])) d (exd d [(f3, w), (f2, z), (f1, y)]))
section
variable {P : Program} {w : World} {K : PySem.W.Frag} {mg : Str → Option Value} {base : Heap}
theorem fn_init1 {qual : Str} {st : Stmt} {f C : Addr} {fd : FuncData} {f1 x1 : Str} (F : Fun K "__init__" qual st f fd) (S : FnScope (["self", x1] : List Str) (["self", x1] : List Str) (defScope st)) (T : OexC K C) (n1 : PySem.W.findIn K (.ref C) f1 = some none)
    (body : ∀ X : Cx, X.N = (["self", x1] : List Str) → X.K = K → X.env.scope = defScope st → PSs X (defBody st) (tOst K f1 (tVar 0) (tVar 1))) : FnOk P w K mg base (L2.CX P w) 1 f fd (["self", x1] : List Str) (spI1 C f1) := by
  refine F.okX S (fun vs H Q E h => ?_) (fun cdv A outer s H vs Q E hr h => ?_)
  · obtain ⟨a, y, rfl, _⟩ := h; rfl
  · obtain ⟨a, y, rfl, ha, k⟩ := h
    refine ⟨_, body _ rfl rfl rfl, ?_⟩
    exact ⟨_, rfl, _, rfl, a, C, rfl, T, n1, .inl ⟨ha, fun d hd hne => k d hd hne⟩⟩
theorem fn_init2 {qual : Str} {st : Stmt} {f C : Addr} {fd : FuncData} {f1 f2 x1 x2 : Str} (F : Fun K "__init__" qual st f fd) (S : FnScope (["self", x1, x2] : List Str) (["self", x1, x2] : List Str) (defScope st)) (T : OexC K C) (n1 : PySem.W.findIn K (.ref C) f1 = some none) (n2 : PySem.W.findIn K (.ref C) f2 = some none)
    (body : ∀ X : Cx, X.N = (["self", x1, x2] : List Str) → X.K = K → X.env.scope = defScope st → PSs X (defBody st) (tSeq (tOst K f1 (tVar 0) (tVar 1)) (tOst K f2 (tVar 0) (tVar 2)))) : FnOk P w K mg base (L2.CX P w) 1 f fd (["self", x1, x2] : List Str) (spI2 C f1 f2) := by
  refine F.okX S (fun vs H Q E h => ?_) (fun cdv A outer s H vs Q E hr h => ?_)
  · obtain ⟨a, y, z, rfl, _⟩ := h; rfl
  · obtain ⟨a, y, z, rfl, ha, k⟩ := h
    refine ⟨_, body _ rfl rfl rfl, ?_⟩
    exact ⟨_, rfl, _, rfl, a, C, rfl, T, n1, .inl ⟨ha, fun d hd hne => ⟨_, rfl, _, rfl, a, C, rfl, T, n2, .inr ⟨d, _, upd_same, by rw [upd_ne hne, upd_same], by show 1 ≤ 900; decide, k d hd hne⟩⟩⟩⟩
end
section
variable {X : Cx} {W : L2.WX} {e o : Expr} {te to ti : WE} {st : Stmt} {rest body orelse : List Stmt} {t u tb : WS} {pos p : Pos} {i : Nat} {x : Str} {es : List Expr} {ta : WA}
def sRaise (C : Addr) (n : Nat) (fs : List Dv → List (Str × Dv)) (ta : WA) : WS := fun d l S => ta (deOf d l) S fun ds S' => ds.length = n ∧ d.ex C (fs ds) l S'
theorem del_keep {H1 H2 : Hp} {a d : Addr} {vs : List (Str × V)} (ha : H1 a = none) (hd : H1 d = none) (k : ∀ b o, H1 b = some o → H2 b = some o) : ∀ b o, H1 b = some o → (upd (del H2 a) d (.xd vs)) b = some o := fun b o e => by
  rw [upd_ne (ne_of_none e hd), del_ne (ne_of_none e ha)]
  exact k b o e
theorem s_raise1 {k : Nat} {C fI : Addr} {fd : FuncData} {x1 f1 : Str} (hc : X.calm = true) (tk : Takes X W) (T : OexC X.K C) (iC : PySem.W.findIn X.K (.ref C) "__init__" = some (some (.ref fI))) (tI : PySem.W.typeIn X.K (.ref fI) = some (.type "function"))
    (F : FnOk X.prog X.w X.K X.mg X.base (L2.CX X.prog X.w) k fI fd (["self", x1] : List Str) (spI1 C f1)) (hr : Room (k + 1) X.A) (hb : Binds X.K fd (["self", x1] : List Str) []) (hg : Gl X x) (hm : X.mg x = some (.ref C)) (ha : FA X W (e :: es) ta)
    (hdb : (x == ("__debug__" : Str)) = false := by decide) (he : starEach (e :: es) X.env = (false, eval e X.env) :: starEach es X.env := by rfl) (hpl : (backTo pos (starEach es X.env)).any (·.1) = false := by rfl) {rp : Pos} :
    FS X W (.Raise (some (.Call (.Name x p) (e :: es) [] pos)) none rp) (sRaise C 1 (fun ds => match ds with | [y] => [(f1, y)] | _ => []) ta) :=
  ⟨imS (ps_raise hc tk (pmk_oex T iC tI F hr hb .nil passL hg hm ha.pa hdb he hpl)) fun D σ H ⟨io, l, S, d, r, en, kk, q⟩ => useA ha.mo r (en_of en kk) q fun ds S1 vs io1 H1 ⟨hn, q1⟩ g1 r1 rvs => by
    match ds, rvs, hn, q1 with
    | [y], .cons (v := vy) r1y .nil, hn, q1 =>
      refine ⟨by show 1 ≤ 1000; decide, fun a ha' => ⟨a, vy, rfl, upd_same, fun dd hdd hne => ⟨rfl, dd, _, upd_same, (upd_ne hne).trans upd_same, ?_, ?_⟩⟩⟩
      · rw [upd_ne hne] at hdd; exact hdd
      · have hdd' : H1 dd = none := by rw [upd_ne hne] at hdd; exact hdd
        have kp := del_keep (a := a) (d := dd) (vs := [(f1, vy)]) (H2 := upd (upd (upd H1 a (exo a C none)) dd (exd dd [(f1, vy)])) a (exo a C (some dd))) ha' hdd' (fun b o e => by
          rw [upd_ne (ne_of_none e ha'), upd_ne (ne_of_none e hdd'), upd_ne (ne_of_none e ha')]; exact e)
        exact kk.ex _ _ _ _ _ dd io1 _ _ q1 (g1.trans (ge_same kp)) (r1.same kp) ((en.mono g1).mono (ge_same kp)) upd_same (.cons ⟨rfl, r1y.mono (ge_same kp)⟩ .nil)⟩
theorem s_raise2 {k : Nat} {C fI : Addr} {fd : FuncData} {x1 x2 f1 f2 : Str} (hc : X.calm = true) (tk : Takes X W) (T : OexC X.K C) (iC : PySem.W.findIn X.K (.ref C) "__init__" = some (some (.ref fI))) (tI : PySem.W.typeIn X.K (.ref fI) = some (.type "function"))
    (F : FnOk X.prog X.w X.K X.mg X.base (L2.CX X.prog X.w) k fI fd (["self", x1, x2] : List Str) (spI2 C f1 f2)) (hr : Room (k + 1) X.A) (hb : Binds X.K fd (["self", x1, x2] : List Str) []) (hg : Gl X x) (hm : X.mg x = some (.ref C)) (ha : FA X W (e :: es) ta)
    (hdb : (x == ("__debug__" : Str)) = false := by decide) (he : starEach (e :: es) X.env = (false, eval e X.env) :: starEach es X.env := by rfl) (hpl : (backTo pos (starEach es X.env)).any (·.1) = false := by rfl) {rp : Pos} :
    FS X W (.Raise (some (.Call (.Name x p) (e :: es) [] pos)) none rp) (sRaise C 2 (fun ds => match ds with | [y, z] => [(f2, z), (f1, y)] | _ => []) ta) :=
  ⟨imS (ps_raise hc tk (pmk_oex T iC tI F hr hb .nil passL hg hm ha.pa hdb he hpl)) fun D σ H ⟨io, l, S, d, r, en, kk, q⟩ => useA ha.mo r (en_of en kk) q fun ds S1 vs io1 H1 ⟨hn, q1⟩ g1 r1 rvs => by
    match ds, rvs, hn, q1 with
    | [y, z], .cons (v := vy) r1y (.cons (v := vz) r1z .nil), hn, q1 =>
      refine ⟨by show 2 ≤ 1000; decide, fun a ha' => ⟨a, vy, vz, rfl, upd_same, fun dd hdd hne => ⟨rfl, dd, _, ?_, upd_same, ?_, ?_⟩⟩⟩
      · rw [upd_ne (Ne.symm hne), upd_same]
      · rw [upd_ne hne] at hdd; exact hdd
      · have hdd' : H1 dd = none := by rw [upd_ne hne] at hdd; exact hdd
        have kp := del_keep (a := a) (d := dd) (vs := [(f2, vz), (f1, vy)]) (H2 := upd (upd (upd (upd H1 a (exo a C none)) dd (exd dd [(f1, vy)])) a (exo a C (some dd))) dd (exd dd [(f2, vz), (f1, vy)])) ha' hdd' (fun b o e => by
          rw [upd_ne (ne_of_none e hdd'), upd_ne (ne_of_none e ha'), upd_ne (ne_of_none e hdd'), upd_ne (ne_of_none e ha')]; exact e)
        exact kk.ex _ _ _ _ _ dd io1 _ _ q1 (g1.trans (ge_same kp)) (r1.same kp) ((en.mono g1).mono (ge_same kp)) upd_same (.cons ⟨rfl, r1z.mono (ge_same kp)⟩ (.cons ⟨rfl, r1y.mono (ge_same kp)⟩ .nil))⟩
/-! ### try: .. except X as n: .. -/
abbrev W0 : L2.WX := fun _ _ _ _ => False
def sTry (i : Nat) (mt : Addr → Option Bool) (tb : WS) (ts : Addr → Addr → Addr → WS) : WS := fun d l S => tb { d with ex := fun C fs l' S' => ∃ b, mt C = some b ∧ match b with
  | true => ∀ a dd, ts C a dd ⟨fun l2 S2 => d.nx (l2.set i none) S2, d.rt, fun l2 S2 => d.bk (l2.set i none) S2, fun l2 S2 => d.ct (l2.set i none) S2, fun _ _ _ _ => False⟩ (l'.set i (some (.exc C a dd (fs.map (·.1)) (fs.map (·.2))))) S'
  | false => d.ex C fs l' S' } l S
theorem pr_names {K : PySem.W.Frag} {io : List Addr} {H : Hp} : ∀ {vs : List (Str × V)} {fs : List (Str × Dv)}, PrR K io H vs fs → vs.map (·.1) = fs.map (·.1) ∧ RVs K io H (vs.map (·.2)) (fs.map (·.2))
  | _, _, .nil => ⟨rfl, .nil⟩
  | _, _, .cons r t => by
    obtain ⟨h1, h2⟩ := pr_names t
    exact ⟨by rw [List.map_cons, List.map_cons, h1, r.1], .cons r.2 h2⟩
theorem s_try {n : Str} {c : Value} {suite : List Stmt} {b0 : Stmt} {np pos' : Pos} {mt : Addr → Option Bool} {ts : Addr → Addr → Addr → WS} (hs : X.stack = X.env :: X.outer) (hf : X.env.frame = some X.env.locals) (hN : X.N.Nodup) (hi : X.N[i]? = some n) (hln : X.env.kindOf n = some .local) (hc : Names X x c) (tk : Takes X W)
    (hmt : ∀ C b, mt C = some b → PySem.W.exmOne X.K (.ref C) c = some b)
    (hb : ∀ (W' : L2.WX) (pn : List (Addr × Obj)) (xe : Value → Shared → Prop), Takes (X.tr pn xe) W' → PassesOwn (model X.prog X.w) X.A X.env xe → FSs (X.tr pn xe) W' body tb)
    (hsu : ∀ (C a dd : Addr) (oe : Obj) (pn : List (Addr × Obj)), mt C = some true → Zc (.ref C) (some dd) oe → (∃ vs, oe.data = .fields vs) → FSs (X.suite a ((a, oe) :: pn)) W0 (b0 :: suite) (ts C a dd)) :
    FS X W (.Try body [.ExceptHandler (some (.Name x np)) (some n) (b0 :: suite) pos'] [] [] pos) (sTry i mt tb ts) :=
  ⟨imS (ps_try_as (tb := fun W' => upS X.K W' tb) (ts := fun a cls d D σ H => ∃ C dd, cls = .ref C ∧ d = some dd ∧ mt C = some true ∧ upS X.K W0 (ts C a dd) D σ H) hs hf hN hi hln hc tk (fun W' pn xe tk' po => (hb W' pn xe tk' po).ps)
    (fun a oe cls d pn hz hd => ⟨fun pins s σ H D I ⟨C, dd, e1, e2, hm, q⟩ => by
      subst e1 e2
      exact (hsu C a dd oe pn hm hz hd).ps.run pins s σ H D I q⟩))
    fun D σ H ⟨io, l, S, d, r, en, kk, q⟩ => ⟨io, l, S, { d with ex := fun C fs l' S' => ∃ b, mt C = some b ∧ match b with
      | true => ∀ a dd, ts C a dd ⟨fun l2 S2 => d.nx (l2.set i none) S2, d.rt, fun l2 S2 => d.bk (l2.set i none) S2, fun l2 S2 => d.ct (l2.set i none) S2, fun _ _ _ _ => False⟩ (l'.set i (some (.exc C a dd (fs.map (·.1)) (fs.map (·.2))))) S'
      | false => d.ex C fs l' S' }, r, en, ⟨kk.nx, kk.rt, kk.bk, kk.ct, fun C fs l' S' σ' dd io' H' vs ⟨b, hb, h⟩ g' r' en' hd pr => by
      refine ⟨b, hmt C b hb, fun e a ha => ?_, fun e => ?_⟩
      · subst e
        obtain ⟨h1, h2⟩ := pr_names pr
        have k' := kk.mono g'
        exact ⟨C, dd, rfl, rfl, hb, io', _, S', (⟨fun l2 S2 => d.nx (l2.set i none) S2, d.rt, fun l2 S2 => d.bk (l2.set i none) S2, fun l2 S2 => d.ct (l2.set i none) S2, fun _ _ _ _ => False⟩ : DE), r', en'.set i (.exc hd h1 h2), ⟨fun l2 S2 σ2 io2 H2 q2 g2 r2 en2 => k'.nx _ _ _ io2 H2 q2 g2 r2 (en2.unset i), k'.rt, fun l2 S2 σ2 io2 H2 q2 g2 r2 en2 => k'.bk _ _ _ io2 H2 q2 g2 r2 (en2.unset i),
          fun l2 S2 σ2 io2 H2 q2 g2 r2 en2 => k'.ct _ _ _ io2 H2 q2 g2 r2 (en2.unset i), fun _ _ _ _ _ _ _ _ _ z => z.elim⟩, h a dd⟩
      · subst e
        exact kk.ex C fs l' S' σ' dd io' H' vs h g' r' en' hd pr⟩, q⟩⟩
/-- n.f of the exception that a suite holds -/
def dXf (C a dd : Addr) (f : Str) (te : WE) : WE := fun de S Q => te de S fun v S' => match v with
  | .exc C' a' dd' ns ds => C' = C ∧ a' = a ∧ dd' = dd ∧ ∃ y, (ns.zip ds).lookup f = some y ∧ Q y S'
  | _ => False
theorem zip_lookup {K : PySem.W.Frag} {io : List Addr} {H : Hp} {f : Str} {y : Dv} : ∀ {vs : List (Str × V)} {ds : List Dv}, RVs K io H (vs.map (·.2)) ds → ((vs.map (·.1)).zip ds).lookup f = some y → ∃ v, vs.lookup f = some v ∧ RV K io H v y
  | [], _, _, h => by cases h
  | (g, v) :: vs, _, .cons (d := d) (ds := ds) r t, h => by
    have h : List.lookup f ((g, d) :: (vs.map (·.1)).zip ds) = some y := h
    rw [List.lookup_cons] at h ⊢
    cases q : (f == g) with
    | true => rw [q] at h; cases h; exact ⟨v, rfl, r⟩
    | false => rw [q] at h; exact zip_lookup t h
theorem fxf {C a dd : Addr} {oe : Obj} {pn : List (Addr × Obj)} {f : Str} (T : XfC X.K C) (hno : PySem.W.findIn X.K (.ref C) f = some none) (hz : Zc (.ref C) (some dd) oe) (hf : ∃ vs, oe.data = .fields vs) (h : FE (X.suite a ((a, oe) :: pn)) W e te)
    (hb : attributeBase e f X.env (eval e X.env) = eval e X.env := by rfl) : FE (X.suite a ((a, oe) :: pn)) W (.Attribute e f pos) (dXf C a dd f te) :=
  ⟨imE (pe_xf T hno hz hf h.pe hb) fun σ H Q ⟨io, de, S, r, en, q⟩ => useE h.mo r en q fun v S1 u io1 H1 q1 g1 r1 rv => by
    cases rv <;> first | exact (show False from q1).elim | skip
    rename_i hdd e1 rvs
    obtain ⟨rfl, rfl, rfl, y, hy, q2⟩ := q1
    subst e1
    obtain ⟨w', h1, h2⟩ := zip_lookup rvs hy
    exact ⟨rfl, rfl, _, _, w', rfl, hdd, h1, here g1 r1 h2 q2⟩,
   fun de S Q Q' i q => h.mo _ _ _ _ (fun v S1 q1 => by
    cases v <;> first | exact (show False from q1).elim | skip
    obtain ⟨h1, h2, h3, y, hy, q2⟩ := q1
    exact ⟨h1, h2, h3, y, hy, i _ _ q2⟩) q⟩
end
end DL

namespace DL
open PySem L2
/-! ### list comprehensions -/
def wipeD (l : LocD) : List Nat → LocD
  | [] => l
  | v :: vs => (wipeD l vs).set v none
theorem wipe_en {K : PySem.W.Frag} {io : List Addr} {H : Hp} {σ : L2.St} {l : LocD} (h : EnvR K io H σ l) : ∀ vs : List Nat, EnvR K io H (wipe σ vs) (wipeD l vs)
  | [] => h
  | v :: vs => (wipe_en h vs).unset v
theorem wipe_at (σ : L2.St) : ∀ (vs : List Nat) (i : Nat), (wipe σ vs)[i]? = if i ∈ vs ∧ i < σ.length then some none else σ[i]?
  | [], i => by rw [if_neg (by simp)]; rfl
  | v :: vs, i => by
    show ((wipe σ vs).set v none)[i]? = _
    by_cases hv : i = v
    · subst hv
      by_cases hl : i < σ.length
      · rw [List.getElem?_set_self (by rw [wipe_length]; exact hl), if_pos ⟨List.mem_cons_self, hl⟩]
      · rw [List.getElem?_eq_none (by rw [List.length_set, wipe_length]; omega), if_neg (fun z => hl z.2), List.getElem?_eq_none (by omega)]
    · rw [List.getElem?_set_ne (Ne.symm hv), wipe_at σ vs i]
      have e : (i ∈ v :: vs ∧ i < σ.length) ↔ (i ∈ vs ∧ i < σ.length) := by simp [hv]
      by_cases h : i ∈ vs ∧ i < σ.length
      · rw [if_pos h, if_pos (e.mpr h)]
      · rw [if_neg h, if_neg (fun z => h (e.mp z))]
theorem wipe_set {σ : L2.St} {vs : List Nat} {j : Nat} {y : Option V} (hj : j ∈ vs) : wipe (σ.set j y) vs = wipe σ vs := by
  apply List.ext_getElem?
  intro i
  rw [wipe_at, wipe_at, List.length_set]
  by_cases h : i ∈ vs ∧ i < σ.length
  · rw [if_pos h, if_pos h]
  · rw [if_neg h, if_neg h]
    by_cases hi : i = j
    · subst hi
      have hl : ¬ i < σ.length := fun z => h ⟨hj, z⟩
      rw [List.getElem?_eq_none (by rw [List.length_set]; omega), List.getElem?_eq_none (by omega)]
    · rw [List.getElem?_set_ne (Ne.symm hi)]
theorem wipe_wipe {σ : L2.St} {vs : List Nat} : wipe (wipe σ vs) vs = wipe σ vs := by
  apply List.ext_getElem?
  intro i
  rw [wipe_at, wipe_at, wipe_length]
  by_cases h : i ∈ vs ∧ i < σ.length
  · rw [if_pos h, if_pos h]
  · rw [if_neg h, if_neg h]
inductive TgD where
  | nm (j : Nat) | tp (js : List Nat)
def gAll : List Nat → TGs
  | [] => gNil
  | j :: js => gCons (gName j) (gAll js)
def TgD.tg (K : PySem.W.Frag) : TgD → TG
  | .nm j => gName j
  | .tp js => gTup K js.length (gAll js)
def TgD.js : TgD → List Nat
  | .nm j => [j]
  | .tp js => js
def putAll : List Nat → List Dv → LocD → Option LocD
  | [], [], l => some l
  | j :: js, d :: ds, l => putAll js ds (l.set j (some d))
  | _, _, _ => none
def TgD.put : TgD → Dv → LocD → (LocD → Prop) → Prop
  | .nm j, x, l, Q => Q (l.set j (some x))
  | .tp js, x, l, Q => match x with | .tup ds => ∃ l', putAll js ds l = some l' ∧ Q l' | _ => False
theorem putAll_len : ∀ {js : List Nat} {ds : List Dv} {l l' : LocD}, putAll js ds l = some l' → ds.length = js.length
  | [], [], _, _, _ => rfl
  | j :: js, d :: ds, l, l', h => by rw [List.length_cons, List.length_cons, putAll_len (js := js) (ds := ds) h]
  | [], _ :: _, _, _, h => by cases h
  | _ :: _, [], _, _, h => by cases h
theorem gAll_run {K : PySem.W.Frag} {io : List Addr} {H : Hp} {vs : List Nat} {Q : L2.St → Hp → Prop} {σ0 : L2.St} : ∀ {js : List Nat} {ws : List V} {ds : List Dv} {l l' : LocD} {σ : L2.St}, RVs K io H ws ds → putAll js ds l = some l' → EnvR K io H σ l → wipe σ vs = wipe σ0 vs → (∀ j ∈ js, j ∈ vs) →
    (∀ σ', EnvR K io H σ' l' → wipe σ' vs = wipe σ0 vs → Q σ' H) → gAll js ws σ H Q
  | [], _, _, l, l', σ, .nil, e, en, hw, _, k => by cases e; exact ⟨rfl, k σ en hw⟩
  | j :: js, _, _, l, l', σ, .cons h r, e, en, hw, hj, k => ⟨_, _, rfl, gAll_run (js := js) r e (en.set j h) ((wipe_set (hj j List.mem_cons_self)).trans hw) (fun i hi => hj i (List.mem_cons_of_mem _ hi)) k⟩
  | [], _, _, _, _, _, .cons _ _, e, _, _, _, _ => by cases e
  | _ :: _, _, _, _, _, _, .nil, e, _, _, _, _ => by cases e
theorem tg_run {K : PySem.W.Frag} {io : List Addr} {H : Hp} {vs : List Nat} {Q : L2.St → Hp → Prop} {Qd : LocD → Prop} {T : TgD} {v : V} {d : Dv} {l : LocD} {σ : L2.St} (rv : RV K io H v d) (h : T.put d l Qd) (en : EnvR K io H σ l) (hj : ∀ j ∈ T.js, j ∈ vs)
    (k : ∀ σ' l', Qd l' → EnvR K io H σ' l' → wipe σ' vs = wipe σ vs → Q σ' H) : T.tg K v σ H Q := by
  cases T with
  | nm j => exact k _ _ h (en.set j rv) (wipe_set (hj j List.mem_cons_self))
  | tp js =>
    cases rv with
    | tup h1 h2 =>
      obtain ⟨l', e, q⟩ := h
      exact ⟨_, _, rfl, h1, by rw [h2.length, putAll_len e], gAll_run h2 e en rfl hj fun σ' en' hw => k σ' l' q en' hw⟩
    | _ => exact (show False from h).elim
abbrev noEx : ExD := fun _ _ _ => False
def lcGo (T : TgD) (tt : WT) (te : WE) (stay : Store → Prop) (n0 : Nat) (l0 : LocD) (Q : Store → Prop) : List Dv → Store → Prop
  | [] => fun S => stay S ∧ Q S
  | x :: xs => fun S => stay S ∧ T.put x l0 fun l => tt ⟨l, noEx⟩ S fun b S3 => match b with
    | true => te ⟨l, noEx⟩ S3 fun y S4 => ∃ acc, S4[n0]? = some (.lst acc) ∧ acc.length < sizeLine ∧ lcGo T tt te stay n0 l0 Q xs (S4.set n0 (.lst (acc ++ [y])))
    | false => lcGo T tt te stay n0 l0 Q xs S3
def dLc (wi : WI) (T : TgD) (tt : WT) (te : WE) (vs : List Nat) : WE := fun de S Q => wi de S fun xs stay S1 => lcGo T tt te stay S1.length (wipeD de.l vs) (Q (.loc S1.length)) xs (S1 ++ [.lst []])
theorem put_mo {T : TgD} {x : Dv} {l : LocD} {Q Q' : LocD → Prop} (k : ∀ l', Q l' → Q' l') (h : T.put x l Q) : T.put x l Q' := by
  cases T with
  | nm j => exact k _ h
  | tp js =>
    cases x <;> first | exact (show False from h).elim | skip
    obtain ⟨l', e, q⟩ := h
    exact ⟨l', e, k _ q⟩
theorem lc_mo {T : TgD} {tt : WT} {te : WE} {stay : Store → Prop} {n0 : Nat} {l0 : LocD} {Q Q' : Store → Prop} (mt : MonoT tt) (me : MonoE te) (k : ∀ S, Q S → Q' S) : ∀ {xs : List Dv} {S : Store}, lcGo T tt te stay n0 l0 Q xs S → lcGo T tt te stay n0 l0 Q' xs S
  | [], S, h => ⟨h.1, k _ h.2⟩
  | x :: xs, S, h => ⟨h.1, put_mo (fun l' q => mt _ _ _ _ (fun b S3 q3 => by
      cases b with
      | true => exact me _ _ _ _ (fun y S4 ⟨acc, h1, h2, h3⟩ => ⟨acc, h1, h2, lc_mo mt me k h3⟩) q3
      | false => exact lc_mo mt me k q3) q) h.2⟩
structure FTs (X : Cx) (W : L2.WX) (ifs : List Expr) (t : WT) : Prop where
  pts : PTs X ifs (upT X.K W t)
  mo : MonoT t
def tYesD : WT := fun _ S Q => Q true S
theorem imTs {X : Cx} {ifs : List Expr} {t t' : TT} (h : PTs X ifs t) (k : ∀ σ H Q, t' σ H Q → t σ H Q) : PTs X ifs t' := ⟨fun pins s σ H Q I q => h.run pins s σ H Q I (k σ H Q q)⟩
theorem ts_nil {X : Cx} {W : L2.WX} : FTs X W [] tYesD := ⟨imTs pts_nil fun σ H Q ⟨io, de, S, r, en, q⟩ => q io H .refl r, fun _ _ _ _ k q => k _ _ q⟩
theorem ts_one {X : Cx} {W : L2.WX} {c : Expr} {t : WT} (h : FT X W c t) : FTs X W [c] t := ⟨pts_one h.pt, h.mo⟩
section
variable {X : Cx} {W : L2.WX} {elt tg iter : Expr} {ifs : List Expr} {scope : Scope} {own : List (Str × Nat)} {pos : Pos} {wi : WI} {T : TgD} {tt : WT} {te : WE}
theorem lc_up (mt : MonoT tt) (me : MonoE te) (mi : ∀ de S (Q Q' : List Dv → (Store → Prop) → Store → Prop), (∀ xs st S', Q xs st S' → Q' xs st S') → wi de S Q → wi de S Q') {vs : List Nat} (hT : ∀ j ∈ T.js, j ∈ vs) {K : PySem.W.Frag} {σ : L2.St} {H : Hp} {Q : VK} (h : upE K W (dLc wi T tt te vs) σ H Q) :
    tLc (upI K W wi) (T.tg K) (upT K W0 tt) (upE K W0 te) vs σ H Q := by
  obtain ⟨io, de, S, r, en, q⟩ := h
  refine ⟨io, de, S, r, en, mi _ _ _ _ (fun xs stay S1 q1 io1 H1 J g1 r1 it => fun D hD => ?_) q⟩
  have gd : Ge K io1 H1 (io1 ++ [D]) (upd H1 D (.lst [])) := (ge_new hD).trans ge_ext
  refine ⟨fun i m H' => m = xs.length - i ∧ i ≤ xs.length ∧ ∃ io' S', Ge K io1 H1 io' H' ∧ io'[S1.length]? = some D ∧ Rl K io' H' S' ∧ lcGo T tt te stay S1.length (wipeD de.l vs) (upQ K io H Q (.loc S1.length)) (xs.drop i) S',
    ⟨xs.length, by simp, Nat.zero_le _, io1 ++ [D], S1 ++ [Cell.lst []], gd, by rw [← r1.len, List.getElem?_append_right (Nat.le_refl _), Nat.sub_self]; rfl, r1.push (c := .lst []) hD ⟨[], upd_same, .nil⟩, q1⟩, ?_⟩
  rintro i m H' ⟨rfl, hi, io', S', g', hio, r', h⟩
  by_cases hlt : i < xs.length
  · have ed : xs.drop i = xs[i] :: xs.drop (i + 1) := List.drop_eq_getElem_cons hlt
    have hd : xs[i]? = some xs[i] := List.getElem?_eq_getElem hlt
    rw [ed] at h
    obtain ⟨hst, hgo⟩ := h
    obtain ⟨jgo, jy⟩ := it.go i _ io' H' S' g' r' hst hd
    refine .inr ⟨jgo, fun H2 => ∃ io' S', Ge K io1 H1 io' H2 ∧ io'[S1.length]? = some D ∧ Rl K io' H2 S' ∧ lcGo T tt te stay S1.length (wipeD de.l vs) (upQ K io H Q (.loc S1.length)) (xs.drop (i + 1)) S', fun H2 n => ⟨xs.length - (i + 1), by omega, rfl, hlt, n⟩, fun x H2 hy => ?_⟩
    obtain ⟨g2, r2, rx⟩ := jy x H2 hy
    refine tg_run (vs := vs) rx hgo (wipe_en (en.en.mono ((g1.trans g').trans g2)) vs) hT fun σ' l' hq en' hw => ⟨hw.trans wipe_wipe, ?_⟩
    refine useT (de := ⟨l', noEx⟩) mt r2 ⟨en', fun _ _ _ _ _ _ _ z => z.elim⟩ hq fun b S3 io3 H3 q3 g3 r3 => ?_
    cases b with
    | true =>
      refine iteT (useE (de := ⟨l', noEx⟩) me r3 ⟨en'.mono g3, fun _ _ _ _ _ _ _ z => z.elim⟩ q3 fun y S4 vy io4 H4 ⟨acc, h1, h2, h3⟩ g4 r4 ry => ?_)
      have e4 : io4[S1.length]? = some D := g4.pre _ _ (g3.pre _ _ (g2.pre _ _ hio))
      obtain ⟨D', e5, ws, hv, rws⟩ := r4.at h1
      rw [e4] at e5; cases e5
      exact ⟨ws, hv, by rw [rws.length]; exact h2, io4, _, ((((g'.trans g2).trans g3).trans g4).trans (ge_lst2 hv)), e4, put_lst r4 e4 hv (rws.append (.one ry)), h3⟩
    | false => exact iteF ⟨io3, S3, ((g'.trans g2).trans g3), g3.pre _ _ (g2.pre _ _ hio), r3, q3⟩
  · have e : i = xs.length := by omega
    subst e
    rw [List.drop_length] at h
    exact .inl ⟨it.stop io' H' S' g' r' h.1, h.2 _ io' H' (g1.trans g') r' (.loc hio)⟩
theorem flc (hc : X.calm = true) (hN : X.N.Nodup) (hi : FI X W tg iter wi) (ok : BlkOk X.N X.env.scope scope own)
    (hg : ∀ (s : Shared) (H : Hp) (C : Addr) (cl : List (Str × Addr)) (fp : List Addr), PG (X.blk s H scope (compEnvC scope cl C X.env) fp) tg (T.tg X.K)) (ht : ∀ (s : Shared) (H : Hp) (C : Addr) (cl : List (Str × Addr)) (fp : List Addr), FTs (X.blk s H scope (compEnvC scope cl C X.env) fp) W0 ifs tt)
    (he : ∀ (s : Shared) (H : Hp) (C : Addr) (cl : List (Str × Addr)) (fp : List Addr), FE (X.blk s H scope (compEnvC scope cl C X.env) fp) W0 elt te) (hT : ∀ j ∈ T.js, j ∈ own.map (·.2) := by decide) (hs : ∀ x, foldedSetIterable iter X.env x = pure x := by intro _; rfl) :
    FE X W (.ListComp elt [⟨tg, iter, ifs, 0⟩] scope pos) (dLc wi T tt te (own.map (·.2))) :=
  ⟨imE (pe_lc hc hN hi.pi ok hg (fun s H C cl fp => (ht s H C cl fp).pts) (fun s H C cl fp => (he s H C cl fp).pe) hs) fun σ H Q q => lc_up (ht X.s_0 X.H_0 X.env.locals [] []).mo (he X.s_0 X.H_0 X.env.locals [] []).mo hi.mo hT q,
   fun de S Q Q' i q => hi.mo _ _ _ _ (fun xs st S1 q1 => lc_mo (ht X.s_0 X.H_0 X.env.locals [] []).mo (he X.s_0 X.H_0 X.env.locals [] []).mo (fun S h => i _ _ h) q1) q⟩
theorem s_setLc {i : Nat} {y : Str} {py spos : Pos} (hc : X.calm = true) (hN : X.N.Nodup) (hy : X.N[i]? = some y) (hyl : X.env.scope.names.lookup y = some .local)
    (hsw : swapsWith (.ListComp elt [⟨tg, iter, ifs, 0⟩] scope pos) (some (.Name y py)) spos.line X.env = pure true) (hi : FI X W tg iter wi) (ok : BlkOk X.N X.env.scope scope own)
    (hg : ∀ (s : Shared) (H : Hp) (C : Addr) (cl : List (Str × Addr)) (fp : List Addr), PG (X.blk s H scope (compEnvC scope cl C X.env) fp) tg (T.tg X.K)) (ht : ∀ (s : Shared) (H : Hp) (C : Addr) (cl : List (Str × Addr)) (fp : List Addr), FTs (X.blk s H scope (compEnvC scope cl C X.env) fp) W0 ifs tt)
    (he : ∀ (s : Shared) (H : Hp) (C : Addr) (cl : List (Str × Addr)) (fp : List Addr), FE (X.blk s H scope (compEnvC scope cl C X.env) fp) W0 elt te) (hT : ∀ j ∈ T.js, j ∈ own.map (·.2) := by decide) (hs : ∀ x, foldedSetIterable iter X.env x = pure x := by intro _; rfl) :
    FS X W (.Assign [.Name y py] (.ListComp elt [⟨tg, iter, ifs, 0⟩] scope pos) spos) (sSet i (dLc wi T tt te (own.map (·.2)))) :=
  ⟨imS (ps_setLc hc hN hy hyl hsw hi.pi ok hg (fun s H C cl fp => (ht s H C cl fp).pts) (fun s H C cl fp => (he s H C cl fp).pe) hs) fun D σ H ⟨io, l, S, d, r, en, kk, q⟩ =>
    lc_up (ht X.s_0 X.H_0 X.env.locals [] []).mo (he X.s_0 X.H_0 X.env.locals [] []).mo hi.mo hT ⟨io, deOf d l, S, r, en_of en kk, hi.mo _ _ _ _ (fun xs st S1 q1 => lc_mo (ht X.s_0 X.H_0 X.env.locals [] []).mo (he X.s_0 X.H_0 X.env.locals [] []).mo (fun S2 h v io1 H1 g1 r1 rv => kk.nx _ _ _ io1 H1 h g1 r1 ((en.mono g1).set i rv)) q1) q⟩⟩
end
end DL

namespace DL
open PySem L2
/-! ### defs by name -/
structure DefAt (K : PySem.W.Frag) (mg : Str → Option Value) (x : Str) (st : Stmt) (ps : List Str) : Prop where
  at_ : ∃ f fd, Fun K x x st f fd ∧ mg x = some (.ref f) ∧ PySem.W.keepIn K (.ref f) = true ∧ Binds K fd ps []
structure Callee (P : Program) (w : World) (K : PySem.W.Frag) (mg : Str → Option Value) (base : Heap) (x : Str) (k : Nat) (ps : List Str) (sp : SpD) : Prop where
  at_ : ∃ f fd, FnD P w K mg base (L2.CX P w) k f fd ps sp ∧ mg x = some (.ref f) ∧ PySem.W.keepIn K (.ref f) = true ∧ Binds K fd ps []
theorem FnD.mono {P : Program} {w : World} {K : PySem.W.Frag} {mg : Str → Option Value} {base : Heap} {CX : CXT} {j k : Nat} {f : Addr} {fd : FuncData} {ps : List Str} {sp : SpD} (F : FnD P w K mg base CX j f fd ps sp) (h : j ≤ k) : FnD P w K mg base CX k f fd ps sp := ⟨F.fn.mono h, F.mo⟩
theorem FnD.imp {P : Program} {w : World} {K : PySem.W.Frag} {mg : Str → Option Value} {base : Heap} {CX : CXT} {k : Nat} {f : Addr} {fd : FuncData} {ps : List Str} {sp sp' : SpD} (F : FnD P w K mg base CX k f fd ps sp) (mo : MonoS sp') (h : ∀ ds S Q E, sp' ds S Q E → sp ds S Q E) : FnD P w K mg base CX k f fd ps sp' :=
  ⟨F.fn.imp fun vs H Q E ⟨io, ds, S, ed, r, rv, ex, q⟩ => ⟨io, ds, S, ed, r, rv, ex, h _ _ _ _ q⟩, mo⟩
theorem Callee.mono {P : Program} {w : World} {K : PySem.W.Frag} {mg : Str → Option Value} {base : Heap} {j k : Nat} {x : Str} {ps : List Str} {sp : SpD} (c : Callee P w K mg base x j ps sp) (h : j ≤ k) : Callee P w K mg base x k ps sp := by
  obtain ⟨f, fd, F, r⟩ := c.at_
  exact ⟨f, fd, F.mono h, r⟩
theorem Callee.imp {P : Program} {w : World} {K : PySem.W.Frag} {mg : Str → Option Value} {base : Heap} {k : Nat} {x : Str} {ps : List Str} {sp sp' : SpD} (c : Callee P w K mg base x k ps sp) (mo : MonoS sp') (h : ∀ ds S Q E, sp' ds S Q E → sp ds S Q E) : Callee P w K mg base x k ps sp' := by
  obtain ⟨f, fd, F, r⟩ := c.at_
  exact ⟨f, fd, F.imp mo h, r⟩
section
variable {X : Cx} {W : L2.WX} {k : Nat} {ps : List Str} {sp : SpD} {x : Str} {p pos : Pos} {e : Expr} {es : List Expr} {t : WA}
theorem fca (c : Callee X.prog X.w X.K X.mg X.base x k ps sp) (tk : Takes X W) (hr : Room k X.A) (ha : FA X W (e :: es) t) (hg : Gl X x := by rfl) (hdb : (x == ("__debug__" : Str)) = false := by decide)
    (he : starEach (e :: es) X.env = (false, eval e X.env) :: starEach es X.env := by rfl) (hpl : (backTo pos (starEach es X.env)).any (·.1) = false := by rfl) : FE X W (.Call (.Name x p) (e :: es) [] pos) (dCall sp [] t) := by
  obtain ⟨f, fd, F, m, kp, b⟩ := c.at_
  exact fcall F hr hg m kp b .nil .nil (psX tk) ha hdb he hpl
end
section
variable {P : Program} {w : World} {K : PySem.W.Frag} {mg : Str → Option Value} {base : Heap}
theorem callee_def {x : Str} {st : Stmt} {N ps : List Str} {k : Nat} {sp : SpD} {t : WS} (D : DefAt K mg x st ps) (S : FnScope N ps (defScope st)) (len : LenS sp ps.length) (mo : MonoS sp)
    (body : ∀ (f : Addr) (cdv : Value) (A : Around) (outer : List Env) (s : Shared) (H : Hp) (E : XK), Room k (A.deeper (PyProof.Rows.envOfC x (defScope st) s.heap.objs.size f cdv)) →
      Takes (cxOf (L2.CX P w) P w K mg base N x (defScope st) f cdv A outer s H E) (Wof E) →
      PassesOwn (model P w) (A.deeper (PyProof.Rows.envOfC x (defScope st) s.heap.objs.size f cdv)) (PyProof.Rows.envOfC x (defScope st) s.heap.objs.size f cdv) (cxOf (L2.CX P w) P w K mg base N x (defScope st) f cdv A outer s H E).xe →
      FSs (cxOf (L2.CX P w) P w K mg base N x (defScope st) f cdv A outer s H E) (Wof E) (defBody st) t)
    (read : ∀ ds S (Q : WQ) (E : ExD), sp ds S Q E → t (deFn Q E) (startD N ds) S) : Callee P w K mg base x (k + 1) ps sp := by
  obtain ⟨f, fd, F, m, kp, b⟩ := D.at_
  exact ⟨f, fd, fn_def F S len mo (fun cdv A outer s H E hr => body f cdv A outer s H E hr (takes_of rfl rfl rfl rfl) (passes_of (X := cxOf (L2.CX P w) P w K mg base N x (defScope st) f cdv A outer s H E) rfl)) read, m, kp, b⟩
end
/-! ### promises -/
/-- a def that keeps all cells and gives g of its arguments, a value -/
def spV (n : Nat) (pre : List Dv → Store → Prop) (g : List Dv → Dv → Prop) : SpD := fun ds S Q _ => ds.length = n ∧ pre ds S ∧ ∀ T d, g ds d → Q d (S ++ T)
theorem spV_mo {n : Nat} {pre : List Dv → Store → Prop} {g : List Dv → Dv → Prop} : MonoS (spV n pre g) := fun ds S Q Q' E i ⟨h1, h2, h3⟩ => ⟨h1, h2, fun T d h => i _ _ (h3 T d h)⟩
theorem spV_len {n : Nat} {pre : List Dv → Store → Prop} {g : List Dv → Dv → Prop} : LenS (spV n pre g) n := fun ds S Q E h => h.1
/-- .. gives a new list -/
def spL (n : Nat) (pre : List Dv → Store → Prop) (g : List Dv → List Dv → Prop) : SpD := fun ds S Q _ => ds.length = n ∧ pre ds S ∧ ∀ T m ys, g ds ys → S.length ≤ m → (S ++ T)[m]? = some (.lst ys) → Q (.loc m) (S ++ T)
theorem spL_mo {n : Nat} {pre : List Dv → Store → Prop} {g : List Dv → List Dv → Prop} : MonoS (spL n pre g) := fun ds S Q Q' E i ⟨h1, h2, h3⟩ => ⟨h1, h2, fun T m ys h a b => i _ _ (h3 T m ys h a b)⟩
theorem spL_len {n : Nat} {pre : List Dv → Store → Prop} {g : List Dv → List Dv → Prop} : LenS (spL n pre g) n := fun ds S Q E h => h.1
/-! ### the store grows -/
theorem get_app {S T : Store} {n : Nat} {c : Cell} (h : S[n]? = some c) : (S ++ T)[n]? = some c := by rw [List.getElem?_append_left (List.getElem?_eq_some_iff.mp h).1]; exact h
theorem get_new {S : Store} {c : Cell} : (S ++ [c])[S.length]? = some c := by rw [List.getElem?_append_right (Nat.le_refl _), Nat.sub_self]; rfl
theorem get_newT {S T : Store} {c : Cell} : (S ++ c :: T)[S.length]? = some c := by rw [List.getElem?_append_right (Nat.le_refl _), Nat.sub_self]; rfl
end DL

namespace DL
open PySem L2
/-! ### isinstance with built-in types -/
def tyD (S : Store) : Dv → String → Prop
  | .non, t => t = "NoneType"
  | .bl _, t => t = "bool"
  | .int _, t => t = "int"
  | .str _, t => t = "str"
  | .tup _, t => t = "tuple"
  | .frl _, t => t = "list"
  | .loc n, t => (∃ xs, S[n]? = some (.lst xs) ∧ t = "list") ∨ (∃ xs, S[n]? = some (.dic xs) ∧ t = "dict") ∨ (∃ xs, S[n]? = some (.dit xs) ∧ t = "dict")
  | _, _ => False
theorem tyx_of {K : PySem.W.Frag} {io : List Addr} {H : Hp} {S : Store} {v : V} {d : Dv} {t : String} (r : Rl K io H S) (rv : RV K io H v d) (h : tyD S d t) : TyX K H v (.type t) := by
  cases rv with
  | non => cases h; exact .base .non
  | bl => cases h; exact .base (.bl _)
  | int => cases h; exact .base (.int _)
  | str => cases h; exact .base (.str _)
  | tup h1 h2 =>
    cases h
    rcases h1 with (h1 | ⟨ob, h1⟩) | ⟨o, its, n, hk, hc, _⟩
    · exact .base (.tup h1)
    · exact .fTuple h1
    · exact .kTuple hk hc
  | frl h1 _ =>
    cases h
    rcases h1 with ⟨ob, h1⟩ | ⟨o, its, n, hk, hc, _⟩
    · exact .base (.frz h1)
    · exact .kList hk hc
  | loc e =>
    rcases h with ⟨xs, h1, rfl⟩ | ⟨xs, h1, rfl⟩ | ⟨xs, h1, rfl⟩
    · obtain ⟨a, q, vs, ha, _⟩ := r.at h1
      rw [e] at q; cases q
      exact .base (.lst ha)
    · obtain ⟨a, q, vs, ha, _⟩ := r.at h1
      rw [e] at q; cases q
      exact .base (.dK ha)
    · obtain ⟨a, q, vs, ha, _⟩ := r.at h1
      rw [e] at q; cases q
      exact .base (.dT ha)
  | _ => exact (show False from h).elim
section
variable {X : Cx} {W : L2.WX} {e a b o c : Expr} {ta tb to te tk tv : WE} {pos p apos : Pos} {es rest : List Expr} {t : WA} {x y : Str} {i : Nat}
def fIsi : Dv → Dv → Store → WQ → Prop := fun d c S Q => match c with
  | .ty T => ∃ t r, tyD S d t ∧ kitB t T = some r ∧ Q (.bl r) S
  | _ => False
def oIsi : WCl := fun ds S Q => match ds with | [d, c] => fIsi d c S Q | _ => False
theorem okIsi {K : PySem.W.Frag} : CrOk K (rIsi K) oIsi := ⟨fun xs ds io H S Q io0 H0 g r rvs h => by
    match ds, rvs, h with
    | [d, c], .cons r1 (.cons r2 .nil), h =>
      cases r2 <;> first | exact (show False from h).elim | skip
      obtain ⟨t, k, h1, h2, q⟩ := h
      exact ⟨_, _, _, _, k, rfl, .ty _, tyx_of r r1 h1, kit_ty h2, here g r .bl q⟩, fun ds S Q Q' i h => by
    match ds, h with
    | [d, c], h =>
      cases c <;> first | exact (show False from h).elim | skip
      obtain ⟨t, k, h1, h2, q⟩ := h
      exact ⟨t, k, h1, h2, i _ _ q⟩⟩
theorem fisi (hg : Gl X "isinstance") (hm : X.mg "isinstance" = none) (ha : FA X W (a :: es) t) (he : starEach (a :: es) X.env = (false, eval a X.env) :: starEach es X.env := by rfl) (hpl : (backTo pos (starEach es X.env)).any (·.1) = false := by rfl) : FE X W (.Call (.Name "isinstance" p) (a :: es) [] pos) (dCB oIsi t) :=
  fcb call_isi okIsi hg hm (by decide +kernel) ha (by decide) (by decide) he hpl
/-- isinstance(x, (T, ..)), the tuple just laid -/
def tyns : List String → List Dv
  | [] => []
  | T :: r => .ty T :: tyns r
theorem tyns_len : ∀ Ts : List String, (tyns Ts).length = Ts.length
  | [] => rfl
  | T :: r => by rw [tyns, List.length_cons, List.length_cons, tyns_len r]
theorem tyns_rv {K : PySem.W.Frag} {io : List Addr} {H : Hp} : ∀ {Ts : List String} {vs : List V}, RVs K io H vs (tyns Ts) → ∃ us, Paired ClsV vs us ∧ us = Ts.map Value.type
  | [], _, .nil => ⟨[], .nil, rfl⟩
  | T :: r, _, .cons h k => by
    obtain ⟨us, h1, h2⟩ := tyns_rv k
    cases h
    exact ⟨_, .cons (.ty T) h1, by rw [h2]; rfl⟩
def kitBs (t : String) : List String → Option Bool
  | [] => some false
  | T :: r => match kitB t T, kitBs t r with
    | some true, _ => some true
    | some false, k => k
    | none, _ => none
theorem kitBs_any {K : PySem.W.Frag} {t : String} : ∀ {Ts : List String} {k : Bool}, kitBs t Ts = some k → PySem.W.kitAny K (.type t) (Ts.map Value.type) = some k
  | [], k, h => by cases h; exact kitAny_nil
  | T :: r, k, h => by
    unfold kitBs at h
    cases e : kitB t T with
    | none => rw [e] at h; cases h
    | some b =>
      rw [e] at h
      cases b with
      | true => cases h; exact kitAny_cons (kit_ty e) (fun z => by cases z) (fun _ => rfl)
      | false => exact kitAny_cons (kit_ty e) (fun _ => kitBs_any h) (fun z => by cases z)
/-- isinstance(e, (T1, ..)) -/
def dIsiT (te : WE) (Ts : List String) : WE := fun de S Q => te de S fun d S1 => ∃ t r, tyD S1 d t ∧ kitBs t Ts = some r ∧ Q (.bl r) S1
def aTys : List String → WA
  | [] => aN
  | T :: r => aC (dC (.ty T)) (aTys r)
theorem aTys_run : ∀ (Ts : List String) (de : DEnv) (S : Store) (Q : List Dv → Store → Prop), Q (tyns Ts) S → aTys Ts de S Q
  | [], _, _, _, q => q
  | T :: r, de, S, Q, q => aTys_run r de S _ q
theorem upd_two {H : Hp} {p : Addr} {o : HO} : (upd H p o) p = some o := upd_same
/-- the tuple is laid, nothing between -/
theorem fisit {p2 : Pos} {k2} {Ts : List String} (hg : Gl X "isinstance") (hm : X.mg "isinstance" = none) (ha : FE X W a te) (hb : FA X W es (aTys Ts)) (hz : Ts.length ≤ 10) (he : starEach [a, .Tuple es k2 p2] X.env = (false, eval a X.env) :: starEach [.Tuple es k2 p2] X.env := by rfl)
    (he2 : starEach [.Tuple es k2 p2] X.env = (false, eval (.Tuple es k2 p2) X.env) :: starEach [] X.env := by rfl)
    (hpl : (backTo pos (starEach [.Tuple es k2 p2] X.env)).any (·.1) = false := by rfl) : FE X W (.Call (.Name "isinstance" p) [a, .Tuple es k2 p2] [] pos) (dIsiT te Ts) :=
  ⟨imE (pe_callB call_isiT hg hm (by decide +kernel) (pa_cons ha.pe (pa_cons (pe_tup hb.pa) pa_nil he2) he) (by decide) (by decide) he hpl) fun σ H Q ⟨io, de, S, r, en, q⟩ => by
    refine useE ha.mo r en q fun d S1 v io1 H1 ⟨tn, k, h1, h2, q1⟩ g1 r1 rv => ?_
    refine useA (Qd := fun ds S2 => ds = tyns Ts ∧ S2 = S1) hb.mo r1 (en.mono g1) (aTys_run Ts _ _ _ ⟨rfl, rfl⟩) fun ds S2 vs io2 H2 ⟨e1, e2⟩ g2 r2 rvs => ?_
    subst e1 e2
    have hl : vs.length ≤ sizeLine := by
      rw [rvs.length]
      rw [tyns_len]
      exact Nat.le_trans hz (by decide)
    refine ⟨hl, fun p hp => ?_⟩
    obtain ⟨us, hu, eu⟩ := tyns_rv rvs
    have g3 : Ge X.K io2 H2 io2 (upd H2 p (.tup vs)) := ge_new hp
    subst eu
    exact ⟨v, p, vs, _, _, k, rfl, upd_same, hu, tyx_of (r2.laid hp) ((rv.mono g2).mono g3) h1, kitBs_any h2, here ((g1.trans g2).trans g3) (r2.laid hp) .bl q1⟩,
   fun de S Q Q' i q => ha.mo _ _ _ _ (fun d S1 ⟨t, r, h1, h2, q1⟩ => ⟨t, r, h1, h2, i _ _ q1⟩) q⟩
/-! ### not e by truth, as a value -/
def dNotT (ta : WE) : WE := fun de S Q => ta de S fun d S1 => ∃ k, truD S1 d k ∧ Q (.bl (!k)) S1
theorem fnotT (h : FE X W a ta) : FE X W (.UnaryOp .Not a pos) (dNotT ta) :=
  ⟨imE (pe_notT h.pe) fun σ H Q ⟨io, de, S, r, en, q⟩ => useE h.mo r en q fun d S1 v io1 H1 ⟨k, hk, q1⟩ g1 r1 rv => by
    refine ⟨k, ?_, here g1 r1 .bl q1⟩
    cases rv with
    | non => exact hk
    | bl => exact hk
    | int => exact hk
    | str => exact hk
    | ty => exact (show False from hk).elim
    | glo => exact (show False from hk).elim
    | exc _ _ _ => exact (show False from hk).elim
    | loc e1 =>
      obtain ⟨xs, h1, e2⟩ := hk
      obtain ⟨a, q2, vs, ha, rvs⟩ := r1.at h1
      rw [e1] at q2; cases q2
      exact .inl ⟨vs, SqL.of ha, e2.trans (empty_rv rvs).symm⟩
    | tup h1 rvs => exact .inr (.inl ⟨_, h1, (show k = _ from hk).trans (empty_rv rvs).symm⟩)
    | frl h1 rvs => exact .inl ⟨_, h1.sq, (show k = _ from hk).trans (empty_rv rvs).symm⟩,
   fun de S Q Q' i q => h.mo _ _ _ _ (fun d S1 ⟨k, h1, q1⟩ => ⟨k, h1, i _ _ q1⟩) q⟩
/-! ### a class's constant -/
def dCon (C : Addr) (v : Dv) (te : WE) : WE := fun de S Q => te de S fun d S1 => d = .glo C ∧ Q v S1
theorem fcon_ {C : Addr} {mc : Value} {f : Str} {v : V} {u : Value} {dv : Dv} (h : FE X W e te) (r : ClX.CRead X.K C mc) (k : ClX.CVal X.K C mc f v u) (hv : Kv X.K v dv) (hb : attributeBase e f X.env (eval e X.env) = eval e X.env := by rfl) : FE X W (.Attribute e f pos) (dCon C dv te) :=
  ⟨imE (ClX.pe_cval h.pe hb) fun σ H Q ⟨io, de, S, rl, en, q⟩ => useE h.mo rl en q fun d S1 w io1 H1 ⟨e1, q1⟩ g1 r1 rv => by
    subst e1
    cases rv
    exact ⟨_, mc, v, u, rfl, r, k, here g1 r1 (hv _ _) q1⟩, fun de S Q Q' i q => h.mo _ _ _ _ (fun d S1 q1 => ⟨q1.1, i _ _ q1.2⟩) q⟩
/-! ### lists: extend, pop, clear -/
def gExt (S : Store) : List Dv → List Dv → (List Dv → Dv → Prop) → Prop := fun xs ds Q => match ds with | [.loc m] => ∃ zs, S[m]? = some (.lst zs) ∧ xs.length + zs.length ≤ sizeLine ∧ Q (xs ++ zs) .non | _ => False
def dExt (to : WE) (t : WA) : WE := fun de S Q => to de S fun d S1 => match d with
  | .loc n => (∃ xs, S1[n]? = some (.lst xs)) ∧ t de S1 fun ds S2 => ∃ xs, S2[n]? = some (.lst xs) ∧ gExt S2 xs ds fun ys d' => Q d' (S2.set n (.lst ys))
  | _ => False
theorem fextend (ho : FE X W o to) (ha : FA X W [e] t) (hbase : attributeBase o ("extend" : Str) X.env (eval o X.env) = eval o X.env := by rfl)
    (hfew : ((backTo pos (starEach [e] X.env)).all (fun x => !x.1) && (backToKw pos (keywordEach [] X.env)).all (fun x => x.1.isSome) && decide ([e].length + ([] : List Keyword).length + (if ([] : List Keyword).isEmpty then 0 else 1) < 30)) = true := by rfl)
    (hline : (apos.endLine == pos.line) = true := by rfl) (hs : starEach [e] X.env = (false, eval e X.env) :: starEach [] X.env := by rfl) (hpl : (backTo pos (starEach [] X.env)).any (·.1) = false := by rfl) :
    FE X W (.Call (.Attribute o "extend" apos) [e] [] pos) (dExt to t) :=
  ⟨imE (pe_bm PySem.F.plainAttrs_list PySem.F.slot_list_extend PySem.F.type_list_extend mt_extend ho.pe ha.pa hbase hfew hline hs hpl) fun σ H Q ⟨io, de, S, r, en, q⟩ => useE ho.mo r en q fun d S1 v io1 H1 h g1 r1 rv => by
    cases rv <;> first | exact (show False from h).elim | skip
    rename_i n a e1
    obtain ⟨⟨xs0, h0⟩, h⟩ := h
    obtain ⟨a0, q0, vs0, ha0, rvs0⟩ := r1.at h0
    rw [e1] at q0; cases q0
    refine ⟨tyL ha0, useA ha.mo r1 (en.mono g1) h fun ds S2 ws io2 H2 ⟨xs, h1, h2⟩ g2 r2 rws => ?_⟩
    match ds, rws, h2 with
    | [.loc m], .cons (.loc e2) .nil, ⟨zs, h3, hz, q3⟩ =>
      obtain ⟨a', q2, vs, ha', rvs⟩ := r2.at h1
      rw [g2.pre _ _ e1] at q2; cases q2
      obtain ⟨b', q4, us, hb', rus⟩ := r2.at h3
      rw [e2] at q4; cases q4
      exact ⟨a, _, vs, us, rfl, rfl, ha', hb', by rw [rvs.length, rus.length]; exact hz, here ((g1.trans g2).trans (ge_lst2 ha')) (put_lst r2 (g2.pre _ _ e1) ha' (rvs.append rus)) .non q3⟩,
   fun de S Q Q' i q => ho.mo _ _ _ _ (fun d S1 q1 => by
    cases d <;> first | exact (show False from q1).elim | skip
    exact ⟨q1.1, ha.mo _ _ _ _ (fun ds S2 ⟨xs, h1, h2⟩ => ⟨xs, h1, by
      match ds, h2 with
      | [.loc m], ⟨zs, h3, hz, q3⟩ => exact ⟨zs, h3, hz, i _ _ q3⟩⟩) q1.2⟩) q⟩
/-- xs.pop() -/
def dPop (to : WE) : WE := fun de S Q => to de S fun d S1 => match d with
  | .loc n => ∃ xs y, S1[n]? = some (.lst xs) ∧ xs[xs.length - 1]? = some y ∧ Q y (S1.set n (.lst xs.dropLast))
  | _ => False
theorem RVs.dropLast {K : PySem.W.Frag} {io : List Addr} {H : Hp} {vs : List V} {ds : List Dv} (r : RVs K io H vs ds) : RVs K io H vs.dropLast ds.dropLast := by
  rw [List.dropLast_eq_take, List.dropLast_eq_take, r.length]
  exact r.take _
theorem fpop (ho : FE X W o to) (hbase : attributeBase o ("pop" : Str) X.env (eval o X.env) = eval o X.env := by rfl) (hline : (apos.endLine == pos.line) = true := by rfl) : FE X W (.Call (.Attribute o "pop" apos) [] [] pos) (dPop to) :=
  ⟨imE (pe_bm0 PySem.F.plainAttrs_list PySem.F.slot_list_pop PySem.F.type_list_pop mt_pop ho.pe hbase hline) fun σ H Q ⟨io, de, S, r, en, q⟩ => useE ho.mo r en q fun d S1 v io1 H1 h g1 r1 rv => by
    cases rv <;> first | exact (show False from h).elim | skip
    rename_i n a e1
    obtain ⟨xs, y, h0, hy, q1⟩ := h
    obtain ⟨a0, q0, vs0, ha0, rvs0⟩ := r1.at h0
    rw [e1] at q0; cases q0
    obtain ⟨w, hw, rw'⟩ := rvs0.get hy
    refine ⟨tyL ha0, a, vs0, w, rfl, rfl, ha0, by rw [rvs0.length]; exact hw, here (g1.trans (ge_lst2 ha0)) (put_lst r1 e1 ha0 rvs0.dropLast) (rw'.mono (ge_lst2 ha0)) q1⟩,
   fun de S Q Q' i q => ho.mo _ _ _ _ (fun d S1 q1 => by
    cases d <;> first | exact (show False from q1).elim | skip
    obtain ⟨xs, y, h0, hy, q1⟩ := q1
    exact ⟨xs, y, h0, hy, i _ _ q1⟩) q⟩
/-! ### statements: a text alone, x += e, o.f = e -/
theorem s_doc {z j p2} : FS X W (.Expr (.Constant (.str z) j p2) pos) sNil := ⟨imS ps_doc fun D σ H ⟨io, l, S, d, r, en, k, q⟩ => k.nx l S σ io H q .refl r en⟩
def sAug (i : Nat) (te : WE) : WS := fun d l S => ∃ m, l[i]? = some (some (.int m)) ∧ te (deOf d l) S fun v S' => match v with | .int k => d.nx (l.set i (some (.int (m + k)))) S' | _ => False
theorem s_aug (hN : X.N.Nodup) (hi : X.N[i]? = some x) (hx : L2.Loc X.env.scope x) (h : FE X W e te) (hf : X.fn x = true ∨ X.env.scope.names.lookup x = some .local := by first | exact .inl rfl | exact .inr rfl | assumption) : FS X W (.AugAssign (.Name x p) .Add e pos) (sAug i te) :=
  ⟨imS (ps_aug hN hi hx h.pe ip_add hf) fun D σ H ⟨io, l, S, d, r, en, k, m, hm, q⟩ => by
    obtain ⟨w, h1, h2⟩ := en.ok _ _ hm
    cases h2
    refine ⟨_, h1, useE h.mo r (en_of en k) q fun v S1 u io1 H1 q1 g1 r1 rv => ?_⟩
    cases rv <;> first | exact (show False from q1).elim | skip
    exact ⟨_, _, rfl, rfl, k.nx _ _ _ io1 H1 q1 g1 r1 ((en.mono g1).set i .int)⟩⟩
theorem pr_put {K : PySem.W.Frag} {io : List Addr} {H : Hp} {f : Str} {w : V} {d : Dv} (r : RV K io H w d) : ∀ {vs : List (Str × V)} {fs : List (Str × Dv)}, PrR K io H vs fs → PrR K io H (putF f w vs) (putD f d fs)
  | [], _, .nil => .cons ⟨rfl, r⟩ .nil
  | (g, v) :: vs, (g', v') :: fs, .cons h t => by
    have e : g = g' := h.1
    subst e
    show PrR K io H (if g = f then _ else _) (if g = f then _ else _)
    by_cases q : g = f
    · rw [if_pos q, if_pos q]; exact .cons ⟨rfl, r⟩ t
    · rw [if_neg q, if_neg q]; exact .cons h (pr_put r t)
theorem pr_len {K : PySem.W.Frag} {io : List Addr} {H : Hp} : ∀ {vs : List (Str × V)} {fs : List (Str × Dv)}, PrR K io H vs fs → vs.length = fs.length
  | _, _, .nil => rfl
  | _, _, .cons _ t => by rw [List.length_cons, List.length_cons, pr_len t]
theorem ge_upd {K : PySem.W.Frag} {io : List Addr} {H : Hp} {a : Addr} {o u : HO} (h : H a = some u) (h1 : ∀ xs, u ≠ .tup xs) (h2 : ∀ ob xs, u ≠ .frz ob xs) (h3 : ∀ vs, u ≠ .xd vs) : Ge K io H io (upd H a o) :=
  ⟨fun _ _ e => e, fun _ _ => sqt_upd (.inr ⟨_, h, h1, fun ob xs => h2 ob _⟩), fun b vs e => (upd_ne (fun z => by subst z; rw [h] at e; cases e; exact h3 _ rfl)).trans e, fun b ob vs e => (upd_ne (fun z => by subst z; rw [h] at e; cases e; exact h2 _ _ rfl)).trans e⟩
theorem s_fld {C : Addr} {f : Str} (c : Cls X.K C) (n : NoAttr X.K C f) (ho : FE X W o to) (h : FE X W e te) (hs : swapsWith e (some (.Attribute o f p)) pos.line X.env = pure false := by rfl) : FS X W (.Assign [.Attribute o f p] e pos) (sFldD C f to te) :=
  ⟨imS (ps_fld ho.pe h.pe hs) fun D σ H ⟨io, l, S, d, r, en, k, q⟩ => useE h.mo r (en_of en k) q fun v S1 u io1 H1 q1 g1 r1 rv =>
    useE ho.mo r1 ((en_of en k).mono g1) q1 fun od S2 ou io2 H2 q2 g2 r2 ro => by
      cases ro <;> first | exact (show False from q2).elim | skip
      rename_i m a e1
      obtain ⟨fs, h1, hz, q3⟩ := q2
      obtain ⟨a', e2, dx, vs, hv, rvs⟩ := r2.at h1
      rw [e1] at e2; cases e2
      have g3 : Ge X.K io2 H2 io2 (upd H2 a (.ins C dx (putF f u vs))) := ge_upd hv (fun _ z => by cases z) (fun _ _ z => by cases z) (fun _ z => by cases z)
      exact ⟨a, C, dx, vs, rfl, hv, c, n, by rw [pr_len rvs]; exact hz, k.nx _ _ _ io2 _ q3 ((g1.trans g2).trans g3) (r2.put e1 g3 ⟨dx, _, upd_same, (pr_put (rv.mono g2) rvs).mono g3⟩) (((en.mono g1).mono g2).mono g3)⟩⟩
end
end DL

namespace DL
open PySem L2
/-! ### dicts with ints and texts as keys -/
def keyD : Dv → Option Key
  | .int i => some (.inl i)
  | .str x => some (.inr x)
  | _ => none
def valD (ks : List (Key × Dv)) (k : Key) : Option Dv := (ks.find? fun p => decide (p.1 = k)).map (·.2)
def putKD (ks : List (Key × Dv)) (k : Key) (v : Dv) : List (Key × Dv) :=
  if (ks.any fun p => decide (p.1 = k)) = true then ks.map (fun p => if p.1 = k then (p.1, v) else p) else ks ++ [(k, v)]
section
variable {K : PySem.W.Frag} {io : List Addr} {H : Hp}
theorem key_rv {v : V} {d : Dv} {k : Key} (r : RV K io H v d) (h : keyD d = some k) : v = kV k := by
  cases r <;> cases h <;> rfl
theorem pk_any {k : Key} : ∀ {vs : List (Key × V)} {ks : List (Key × Dv)}, PrR K io H vs ks → (vs.any fun p => decide (p.1 = k)) = (ks.any fun p => decide (p.1 = k))
  | _, _, .nil => rfl
  | _, _, .cons h t => by rw [List.any_cons, List.any_cons, h.1, pk_any t]
theorem pk_map {k : Key} {w : V} {d : Dv} (r : RV K io H w d) : ∀ {vs : List (Key × V)} {ks : List (Key × Dv)}, PrR K io H vs ks → PrR K io H (vs.map fun p => if p.1 = k then (p.1, w) else p) (ks.map fun p => if p.1 = k then (p.1, d) else p)
  | _, _, .nil => .nil
  | (a, v) :: vs, (b, e) :: ks, .cons h t => by
    have q : a = b := h.1
    subst q
    refine .cons ?_ (pk_map r t)
    by_cases z : a = k
    · show (if a = k then (a, w) else (a, v)).1 = (if a = k then (a, d) else (a, e)).1 ∧ RV K io H (if a = k then (a, w) else (a, v)).2 (if a = k then (a, d) else (a, e)).2
      rw [if_pos z, if_pos z]; exact ⟨rfl, r⟩
    · show (if a = k then (a, w) else (a, v)).1 = (if a = k then (a, d) else (a, e)).1 ∧ RV K io H (if a = k then (a, w) else (a, v)).2 (if a = k then (a, d) else (a, e)).2
      rw [if_neg z, if_neg z]; exact h
theorem pk_app {vs ws : List (Key × V)} {ks js : List (Key × Dv)} (h : PrR K io H vs ks) (k : PrR K io H ws js) : PrR K io H (vs ++ ws) (ks ++ js) := by
  induction h with
  | nil => exact k
  | cons a _ ih => exact .cons a ih
theorem pk_put {k : Key} {w : V} {d : Dv} (r : RV K io H w d) {vs : List (Key × V)} {ks : List (Key × Dv)} (h : PrR K io H vs ks) : PrR K io H (putK vs k w) (putKD ks k d) := by
  unfold putK putKD
  rw [pk_any h]
  by_cases z : (ks.any fun p => decide (p.1 = k)) = true
  · rw [if_pos z, if_pos z]; exact pk_map r h
  · rw [if_neg z, if_neg z]; exact pk_app h (.cons ⟨rfl, r⟩ .nil)
theorem pk_val {k : Key} : ∀ {vs : List (Key × V)} {ks : List (Key × Dv)}, PrR K io H vs ks → (valD ks k = none ∧ valV vs k = none) ∨ ∃ v d, valD ks k = some d ∧ valV vs k = some v ∧ RV K io H v d
  | _, _, .nil => .inl ⟨rfl, rfl⟩
  | (a, v) :: vs, (b, e) :: ks, .cons h t => by
    have q : a = b := h.1
    subst q
    by_cases z : a = k
    · exact .inr ⟨v, e, by simp [valD, List.find?_cons, z], valV_pos z, h.2⟩
    · have e1 : valD ((a, e) :: ks) k = valD ks k := by simp [valD, List.find?_cons, z]
      rw [e1, valV_neg z]
      exact pk_val t
theorem prr_len {vs : List (Key × V)} {ks : List (Key × Dv)} (h : PrR K io H vs ks) : vs.length = ks.length := by
  induction h with
  | nil => rfl
  | cons _ _ ih => rw [List.length_cons, List.length_cons, ih]
theorem put_dic {S : Store} {n : Nat} {a : Addr} {vs ws : List (Key × V)} {es : List (Key × Dv)} (r : Rl K io H S) (e : io[n]? = some a) (h : H a = some (.dK vs)) (rw' : PrR K io H ws es) :
    Ge K io H io (upd H a (.dK ws)) ∧ Rl K io (upd H a (.dK ws)) (S.set n (.dic es)) := by
  have g : Ge K io H io (upd H a (.dK ws)) := ge_upd h (fun _ z => by cases z) (fun _ _ z => by cases z) (fun _ z => by cases z)
  exact ⟨g, r.put e g ⟨ws, upd_same, rw'.mono g⟩⟩
end
/-! ### {k: v for ..} -/
def dcGo (T : TgD) (tt : WT) (tk tv : WE) (stay : Store → Prop) (n0 : Nat) (l0 : LocD) (Q : Store → Prop) : List Dv → Store → Prop
  | [] => fun S => stay S ∧ Q S
  | x :: xs => fun S => stay S ∧ T.put x l0 fun l => tt ⟨l, noEx⟩ S fun b S3 => match b with
    | true => tk ⟨l, noEx⟩ S3 fun y S4 => tv ⟨l, noEx⟩ S4 fun z S5 => ∃ acc k, keyD y = some k ∧ S5[n0]? = some (.dic acc) ∧ acc.length < sizeLine ∧ dcGo T tt tk tv stay n0 l0 Q xs (S5.set n0 (.dic (putKD acc k z)))
    | false => dcGo T tt tk tv stay n0 l0 Q xs S3
def dDc (wi : WI) (T : TgD) (tt : WT) (tk tv : WE) (vs : List Nat) : WE := fun de S Q => wi de S fun xs stay S1 => dcGo T tt tk tv stay S1.length (wipeD de.l vs) (Q (.loc S1.length)) xs (S1 ++ [.dic []])
theorem dc_mo {T : TgD} {tt : WT} {tk tv : WE} {stay : Store → Prop} {n0 : Nat} {l0 : LocD} {Q Q' : Store → Prop} (mt : MonoT tt) (mk : MonoE tk) (me : MonoE tv) (k : ∀ S, Q S → Q' S) : ∀ {xs : List Dv} {S : Store}, dcGo T tt tk tv stay n0 l0 Q xs S → dcGo T tt tk tv stay n0 l0 Q' xs S
  | [], S, h => ⟨h.1, k _ h.2⟩
  | x :: xs, S, h => ⟨h.1, put_mo (fun l' q => mt _ _ _ _ (fun b S3 q3 => by
      cases b with
      | true => exact mk _ _ _ _ (fun y S4 q4 => me _ _ _ _ (fun z S5 ⟨acc, k1, h0, h1, h2, h3⟩ => ⟨acc, k1, h0, h1, h2, dc_mo mt mk me k h3⟩) q4) q3
      | false => exact dc_mo mt mk me k q3) q) h.2⟩
section
variable {X : Cx} {W : L2.WX} {kx vx tg iter e a b o : Expr} {ifs : List Expr} {scope : Scope} {own : List (Str × Nat)} {pos : Pos} {wi : WI} {T : TgD} {tt : WT} {tk tv ta tb to : WE}
theorem dc_up (mt : MonoT tt) (mk : MonoE tk) (me : MonoE tv) (mi : ∀ de S (Q Q' : List Dv → (Store → Prop) → Store → Prop), (∀ xs st S', Q xs st S' → Q' xs st S') → wi de S Q → wi de S Q') {vs : List Nat} (hT : ∀ j ∈ T.js, j ∈ vs) {K : PySem.W.Frag} {σ : L2.St} {H : Hp} {Q : VK} (h : upE K W (dDc wi T tt tk tv vs) σ H Q) :
    tDc (upI K W wi) (T.tg K) (upT K W0 tt) (upE K W0 tk) (upE K W0 tv) vs σ H Q := by
  obtain ⟨io, de, S, r, en, q⟩ := h
  refine ⟨io, de, S, r, en, mi _ _ _ _ (fun xs stay S1 q1 io1 H1 J g1 r1 it => fun D hD => ?_) q⟩
  have gd : Ge K io1 H1 (io1 ++ [D]) (upd H1 D (.dK [])) := (ge_new hD).trans ge_ext
  refine ⟨fun i m H' => m = xs.length - i ∧ i ≤ xs.length ∧ ∃ io' S', Ge K io1 H1 io' H' ∧ io'[S1.length]? = some D ∧ Rl K io' H' S' ∧ dcGo T tt tk tv stay S1.length (wipeD de.l vs) (upQ K io H Q (.loc S1.length)) (xs.drop i) S',
    ⟨xs.length, by simp, Nat.zero_le _, io1 ++ [D], S1 ++ [Cell.dic []], gd, by rw [← r1.len, List.getElem?_append_right (Nat.le_refl _), Nat.sub_self]; rfl, r1.push (c := .dic []) hD ⟨[], upd_same, .nil⟩, q1⟩, ?_⟩
  rintro i m H' ⟨rfl, hi, io', S', g', hio, r', h⟩
  by_cases hlt : i < xs.length
  · have ed : xs.drop i = xs[i] :: xs.drop (i + 1) := List.drop_eq_getElem_cons hlt
    have hd : xs[i]? = some xs[i] := List.getElem?_eq_getElem hlt
    rw [ed] at h
    obtain ⟨hst, hgo⟩ := h
    obtain ⟨jgo, jy⟩ := it.go i _ io' H' S' g' r' hst hd
    refine .inr ⟨jgo, fun H2 => ∃ io' S', Ge K io1 H1 io' H2 ∧ io'[S1.length]? = some D ∧ Rl K io' H2 S' ∧ dcGo T tt tk tv stay S1.length (wipeD de.l vs) (upQ K io H Q (.loc S1.length)) (xs.drop (i + 1)) S', fun H2 n => ⟨xs.length - (i + 1), by omega, rfl, hlt, n⟩, fun x H2 hy => ?_⟩
    obtain ⟨g2, r2, rx⟩ := jy x H2 hy
    refine tg_run (vs := vs) rx hgo (wipe_en (en.en.mono ((g1.trans g').trans g2)) vs) hT fun σ' l' hq en' hw => ⟨hw.trans wipe_wipe, ?_⟩
    refine useT (de := ⟨l', noEx⟩) mt r2 ⟨en', fun _ _ _ _ _ _ _ z => z.elim⟩ hq fun b S3 io3 H3 q3 g3 r3 => ?_
    cases b with
    | true =>
      refine iteT (useE (de := ⟨l', noEx⟩) mk r3 ⟨en'.mono g3, fun _ _ _ _ _ _ _ z => z.elim⟩ q3 fun y S4 vy io4 H4 q4 g4 r4 ry => ?_)
      refine useE (de := ⟨l', noEx⟩) me r4 ⟨(en'.mono g3).mono g4, fun _ _ _ _ _ _ _ z => z.elim⟩ q4 fun z S5 vz io5 H5 ⟨acc, k, hk, h1, h2, h3⟩ g5 r5 rz => ?_
      have e5 : io5[S1.length]? = some D := g5.pre _ _ (g4.pre _ _ (g3.pre _ _ (g2.pre _ _ hio)))
      obtain ⟨D', e6, ws, hv, rws⟩ := r5.at h1
      rw [e5] at e6; cases e6
      obtain ⟨g6, r6⟩ := put_dic r5 e5 hv (pk_put (k := k) rz rws)
      exact ⟨ws, k, key_rv ry hk, hv, by rw [prr_len rws]; exact h2, io5, _, (((((g'.trans g2).trans g3).trans g4).trans g5).trans g6), e5, r6, h3⟩
    | false => exact iteF ⟨io3, S3, ((g'.trans g2).trans g3), g3.pre _ _ (g2.pre _ _ hio), r3, q3⟩
  · have e : i = xs.length := by omega
    subst e
    rw [List.drop_length] at h
    exact .inl ⟨it.stop io' H' S' g' r' h.1, h.2 _ io' H' (g1.trans g') r' (.loc hio)⟩
theorem fdc (hc : X.calm = true) (hN : X.N.Nodup) (hi : FI X W tg iter wi) (ok : BlkOk X.N X.env.scope scope own)
    (hg : ∀ (s : Shared) (H : Hp) (C : Addr) (cl : List (Str × Addr)) (fp : List Addr), PG (X.blk s H scope (compEnvC scope cl C X.env) fp) tg (T.tg X.K)) (ht : ∀ (s : Shared) (H : Hp) (C : Addr) (cl : List (Str × Addr)) (fp : List Addr), FTs (X.blk s H scope (compEnvC scope cl C X.env) fp) W0 ifs tt)
    (hk : ∀ (s : Shared) (H : Hp) (C : Addr) (cl : List (Str × Addr)) (fp : List Addr), FE (X.blk s H scope (compEnvC scope cl C X.env) fp) W0 kx tk)
    (he : ∀ (s : Shared) (H : Hp) (C : Addr) (cl : List (Str × Addr)) (fp : List Addr), FE (X.blk s H scope (compEnvC scope cl C X.env) fp) W0 vx tv) (hT : ∀ j ∈ T.js, j ∈ own.map (·.2) := by decide) (hs : ∀ x, foldedSetIterable iter X.env x = pure x := by intro _; rfl) :
    FE X W (.DictComp kx vx [⟨tg, iter, ifs, 0⟩] scope pos) (dDc wi T tt tk tv (own.map (·.2))) :=
  ⟨imE (pe_dc hc hN hi.pi ok hg (fun s H C cl fp => (ht s H C cl fp).pts) (fun s H C cl fp => (hk s H C cl fp).pe) (fun s H C cl fp => (he s H C cl fp).pe) hs) fun σ H Q q => dc_up (ht X.s_0 X.H_0 X.env.locals [] []).mo (hk X.s_0 X.H_0 X.env.locals [] []).mo (he X.s_0 X.H_0 X.env.locals [] []).mo hi.mo hT q,
   fun de S Q Q' i q => hi.mo _ _ _ _ (fun xs st S1 q1 => dc_mo (ht X.s_0 X.H_0 X.env.locals [] []).mo (hk X.s_0 X.H_0 X.env.locals [] []).mo (he X.s_0 X.H_0 X.env.locals [] []).mo (fun S h => i _ _ h) q1) q⟩
/-! ### d[k], k in d -/
def dDget (to ti : WE) : WE := fun de S Q => to de S fun d S1 => ti de S1 fun j S2 => match d with
  | .loc n => ∃ ks k v, S2[n]? = some (.dic ks) ∧ keyD j = some k ∧ valD ks k = some v ∧ Q v S2
  | _ => False
theorem fdget (hu : X.A.units + 1 < cLine) (ho : FE X W o to) (hi : FE X W e ta) (hs : NoSl e := by intro _ _; rfl) : FE X W (.Subscript o e pos) (dDget to ta) :=
  ⟨imE (pe_dget hu ho.pe hi.pe hs) fun σ H Q ⟨io, de, S, r, en, q⟩ => useE ho.mo r en q fun d S1 v io1 H1 q1 g1 r1 rv => useE hi.mo r1 (en.mono g1) q1 fun j S2 w io2 H2 q2 g2 r2 rj => by
      cases rv <;> first | exact (show False from q2).elim | skip
      rename_i n a e1
      obtain ⟨ks, k, y, h1, h2, h3, q3⟩ := q2
      obtain ⟨a', e2, vs, hv, rvs⟩ := r2.at h1
      rw [g2.pre _ _ e1] at e2; cases e2
      rcases pk_val (k := k) rvs with ⟨z, _⟩ | ⟨u, d', z1, z2, z3⟩
      · rw [z] at h3; cases h3
      · rw [z1] at h3; cases h3
        have ek := key_rv rj h2
        subst ek
        exact ⟨a, u, rfl, by rw [← z2]; exact DGet.k hv, here (g1.trans g2) r2 z3 q3⟩,
   fun de S Q Q' i q => ho.mo _ _ _ _ (fun d S1 q1 => hi.mo _ _ _ _ (fun j S2 q2 => by
      cases d <;> first | exact (show False from q2).elim | skip
      obtain ⟨ks, k, y, h1, h2, h3, q3⟩ := q2
      exact ⟨ks, k, y, h1, h2, h3, i _ _ q3⟩) q1) q⟩
def oDin (neg : Bool) : WO := fun j d S Q => match d with
  | .loc n => ∃ ks k, S[n]? = some (.dic ks) ∧ keyD j = some k ∧ Q (.bl (if neg then !(valD ks k).isSome else (valD ks k).isSome)) S
  | _ => False
end
end DL

namespace DL
open PySem L2
abbrev Ads := Str → Addr
def rz2 (f1 f2 : Str) : List Dv → List (Str × Dv) := fun ds => match ds with | [y, z] => [(f2, z), (f1, y)] | _ => []
def rz1 (f1 : Str) : List Dv → List (Str × Dv) := fun ds => match ds with | [y] => [(f1, y)] | _ => []
/-! ### what the top has left, by names -/
structure GV (K : PySem.W.Frag) (mg : Str → Option Value) (x : Str) (d : Dv) : Prop where
  at_ : ∃ v u, mg x = some u ∧ RelV v u ∧ Kv K v d
structure CV (K : PySem.W.Frag) (C : Addr) (f : Str) (d : Dv) : Prop where
  at_ : ∃ mc v u, ClX.CRead K C mc ∧ ClX.CVal K C mc f v u ∧ Kv K v d
structure MkAt (P : Program) (w : World) (K : PySem.W.Frag) (mg : Str → Option Value) (base : Heap) (x : Str) (C : Addr) (k : Nat) (ps : List Str) (sp : SpD) : Prop where
  at_ : ∃ f fd, Mk K C f ∧ FnD P w K mg base (L2.CX P w) k f fd ps sp ∧ mg x = some (.ref C) ∧ Binds K fd ps []
structure MethAt (P : Program) (w : World) (K : PySem.W.Frag) (mg : Str → Option Value) (base : Heap) (C : Addr) (m : Str) (k : Nat) (ps : List Str) (sp : SpD) : Prop where
  at_ : ∃ f fd, Meth K C m f ∧ FnD P w K mg base (L2.CX P w) k f fd ps sp ∧ Binds K fd ps []
structure PropAt (P : Program) (w : World) (K : PySem.W.Frag) (mg : Str → Option Value) (base : Heap) (C : Addr) (m : Str) (k : Nat) (ps : List Str) (sp : SpD) : Prop where
  at_ : ∃ q g fd, PropOf K C m q g ∧ FnD P w K mg base (L2.CX P w) k g fd ps sp ∧ Binds K fd ps []
structure Raise2 (P : Program) (w : World) (K : PySem.W.Frag) (mg : Str → Option Value) (base : Heap) (x : Str) (C : Addr) (f1 f2 : Str) : Prop where
  at_ : ∃ k fI fd x1 x2, k ≤ 3 ∧ OexC K C ∧ PySem.W.findIn K (.ref C) "__init__" = some (some (.ref fI)) ∧ PySem.W.typeIn K (.ref fI) = some (.type "function") ∧ FnOk P w K mg base (L2.CX P w) k fI fd (["self", x1, x2] : List Str) (spI2 C f1 f2) ∧ Binds K fd (["self", x1, x2] : List Str) [] ∧ mg x = some (.ref C)
structure Raise1 (P : Program) (w : World) (K : PySem.W.Frag) (mg : Str → Option Value) (base : Heap) (x : Str) (C : Addr) (f1 : Str) : Prop where
  at_ : ∃ k fI fd x1, k ≤ 3 ∧ OexC K C ∧ PySem.W.findIn K (.ref C) "__init__" = some (some (.ref fI)) ∧ PySem.W.typeIn K (.ref fI) = some (.type "function") ∧ FnOk P w K mg base (L2.CX P w) k fI fd (["self", x1] : List Str) (spI1 C f1) ∧ Binds K fd (["self", x1] : List Str) [] ∧ mg x = some (.ref C)
section
variable {X : Cx} {W : L2.WX} {e a b o : Expr} {ta tb to te : WE} {pos p apos : Pos} {es rest : List Expr} {t : WA} {x m f : Str} {C : Addr} {d : Dv} {k : Nat} {ps : List Str} {sp : SpD}
theorem fgv (h : GV X.K X.mg x d) (hg : Gl X x := by rfl) (hd : (x == ("__debug__" : Str)) = false := by decide) : FE X W (.Name x pos) (dC d) := by
  obtain ⟨v, u, m, r, kv⟩ := h.at_
  exact fg hg m r kv hd
theorem FE.imp {t t' : WE} (h : FE X W e t) (k : ∀ de S Q, t' de S Q → t de S Q) (mo : MonoE t') : FE X W e t' :=
  ⟨imE h.pe fun σ H Q ⟨io, de, S, r, en, q⟩ => ⟨io, de, S, r, en, k _ _ _ q⟩, mo⟩
theorem fcc (h : GV X.K X.mg x (.glo C)) (c : CV X.K C f d) (hg : Gl X x := by rfl) (hd : (x == ("__debug__" : Str)) = false := by decide) (hb : attributeBase (.Name x p) f X.env (eval (.Name x p) X.env) = eval (.Name x p) X.env := by rfl) : FE X W (.Attribute (.Name x p) f pos) (dC d) := by
  obtain ⟨mc, v, u, r, cv, kv⟩ := c.at_
  exact (fcon_ (fgv h hg hd) r cv kv hb).imp (fun de S Q q => ⟨rfl, q⟩) dC_mo
theorem fmk (c : MkAt X.prog X.w X.K X.mg X.base x C k ps sp) (tk : Takes X W) (hr : Room (k + 1) X.A) (ha : FA X W (e :: es) t) (hg : Gl X x := by rfl) (hdb : (x == ("__debug__" : Str)) = false := by decide)
    (he : starEach (e :: es) X.env = (false, eval e X.env) :: starEach es X.env := by rfl) (hpl : (backTo pos (starEach es X.env)).any (·.1) = false := by rfl) : FE X W (.Call (.Name x p) (e :: es) [] pos) (dMake C sp [] t) := by
  obtain ⟨f, fd, M, F, mg', b⟩ := c.at_
  exact fmake M F hr hg mg' b .nil .nil (psX tk) ha hdb he hpl
theorem fmt {pl : Sem Bool} (ho : FE X W o to) (c : Cls X.K C) (h : MethAt X.prog X.w X.K X.mg X.base C m k ps sp) (tk : Takes X W) (hr : Room k X.A) (ha : FA X W (e :: es) t)
    (hst : starEach (e :: es) X.env = (false, eval e X.env) :: starEach es X.env := by rfl) (hpl : (backTo pos (starEach es X.env)).any (·.1) = false := by rfl)
    (ht : eval (.Call (.Attribute o m apos) (e :: es) [] pos) X.env = (do
      let ov ← eval o X.env
      standAt apos.atName
      let (g, first) ← holding [ov] (getMethod ov m pl)
      callWith pos g first (backTo pos (starEach (e :: es) X.env)) (backToKw pos (keywordEach [] X.env))) := by rfl) : FE X W (.Call (.Attribute o m apos) (e :: es) [] pos) (dMeth C m sp [] to t) := by
  obtain ⟨f, fd, hm, F, b⟩ := h.at_
  exact fmeth ho c hm F hr b .nil .nil (psX tk) ha hst hpl ht
theorem fmt0 {pl : Sem Bool} (ho : FE X W o to) (c : Cls X.K C) (h : MethAt X.prog X.w X.K X.mg X.base C m k ps sp) (tk : Takes X W) (hr : Room k X.A)
    (ht : eval (.Call (.Attribute o m apos) [] [] pos) X.env = (do
      let ov ← eval o X.env
      standAt apos.atName
      let (g, first) ← holding [ov] (getMethod ov m pl)
      callWith pos g first (backTo pos (starEach [] X.env)) (backToKw pos (keywordEach [] X.env))) := by rfl) : FE X W (.Call (.Attribute o m apos) [] [] pos) (dMeth C m sp [] to aN) := by
  obtain ⟨f, fd, hm, F, b⟩ := h.at_
  exact fmeth0 ho c hm F hr b .nil .nil (psX tk) ht
theorem fpr (ho : FE X W o to) (c : Cls X.K C) (h : PropAt X.prog X.w X.K X.mg X.base C m k ps sp) (hr : Room (k + 1) X.A) (hab : attributeBase o m X.env (eval o X.env) = eval o X.env := by rfl) : FE X W (.Attribute o m pos) (dProp C sp to) := by
  obtain ⟨q, g, fd, hp, F, b⟩ := h.at_
  exact fprop ho c hp F hr b passL hab
theorem s_rz2 {f1 f2 : Str} (h : Raise2 X.prog X.w X.K X.mg X.base x C f1 f2) (hc : X.calm = true) (tk : Takes X W) (hr : Room 4 X.A) (ha : FA X W (e :: es) t) (hg : Gl X x := by rfl) (hdb : (x == ("__debug__" : Str)) = false := by decide)
    (he : starEach (e :: es) X.env = (false, eval e X.env) :: starEach es X.env := by rfl) (hpl : (backTo pos (starEach es X.env)).any (·.1) = false := by rfl) {rp : Pos} :
    FS X W (.Raise (some (.Call (.Name x p) (e :: es) [] pos)) none rp) (sRaise C 2 (rz2 f1 f2) t) := by
  obtain ⟨k, fI, fd, x1, x2, hk, T, iC, tI, F, b, m⟩ := h.at_
  exact s_raise2 hc tk T iC tI F (hr.mono (by omega)) b hg m ha hdb he hpl
theorem s_rz1 {f1 : Str} (h : Raise1 X.prog X.w X.K X.mg X.base x C f1) (hc : X.calm = true) (tk : Takes X W) (hr : Room 4 X.A) (ha : FA X W (e :: es) t) (hg : Gl X x := by rfl) (hdb : (x == ("__debug__" : Str)) = false := by decide)
    (he : starEach (e :: es) X.env = (false, eval e X.env) :: starEach es X.env := by rfl) (hpl : (backTo pos (starEach es X.env)).any (·.1) = false := by rfl) {rp : Pos} :
    FS X W (.Raise (some (.Call (.Name x p) (e :: es) [] pos)) none rp) (sRaise C 1 (rz1 f1) t) := by
  obtain ⟨k, fI, fd, x1, hk, T, iC, tI, F, b, m⟩ := h.at_
  exact s_raise1 hc tk T iC tI F (hr.mono (by omega)) b hg m ha hdb he hpl
end
/-- the same def as a method, an __init__: a body's promise at an address -/
structure MethDefAt (K : PySem.W.Frag) (C : Addr) (m qual : Str) (st : Stmt) (ps : List Str) : Prop where
  at_ : ∃ f fd, Fun K m qual st f fd ∧ Meth K C m f ∧ Binds K fd ps []
structure InitDefAt (K : PySem.W.Frag) (mg : Str → Option Value) (x : Str) (C : Addr) (qual : Str) (st : Stmt) (ps : List Str) : Prop where
  at_ : ∃ f fd, Fun K "__init__" qual st f fd ∧ Mk K C f ∧ mg x = some (.ref C) ∧ Binds K fd ps []
structure PropDefAt (K : PySem.W.Frag) (C : Addr) (m qual : Str) (st : Stmt) (ps : List Str) : Prop where
  at_ : ∃ q f fd, Fun K m qual st f fd ∧ PropOf K C m q f ∧ Binds K fd ps []
section
variable {P : Program} {w : World} {K : PySem.W.Frag} {mg : Str → Option Value} {base : Heap}
abbrev BodyAt (P : Program) (w : World) (K : PySem.W.Frag) (mg : Str → Option Value) (base : Heap) (N : List Str) (qual : Str) (st : Stmt) (k : Nat) (t : WS) : Prop :=
  ∀ (f : Addr) (cdv : Value) (A : Around) (outer : List Env) (s : Shared) (H : Hp) (E : XK), Room k (A.deeper (PyProof.Rows.envOfC qual (defScope st) s.heap.objs.size f cdv)) →
      Takes (cxOf (L2.CX P w) P w K mg base N qual (defScope st) f cdv A outer s H E) (Wof E) →
      PassesOwn (model P w) (A.deeper (PyProof.Rows.envOfC qual (defScope st) s.heap.objs.size f cdv)) (PyProof.Rows.envOfC qual (defScope st) s.heap.objs.size f cdv) (cxOf (L2.CX P w) P w K mg base N qual (defScope st) f cdv A outer s H E).xe →
      FSs (cxOf (L2.CX P w) P w K mg base N qual (defScope st) f cdv A outer s H E) (Wof E) (defBody st) t
theorem fnd_body {x qual : Str} {st : Stmt} {f : Addr} {fd : FuncData} {N ps : List Str} {k : Nat} {sp : SpD} {t : WS} (F : Fun K x qual st f fd) (S : FnScope N ps (defScope st)) (len : LenS sp ps.length) (mo : MonoS sp) (body : BodyAt P w K mg base N qual st k t)
    (read : ∀ ds S (Q : WQ) (E : ExD), sp ds S Q E → t (deFn Q E) (startD N ds) S) : FnD P w K mg base (L2.CX P w) (k + 1) f fd ps sp :=
  fn_def F S len mo (fun cdv A outer s H E hr => body f cdv A outer s H E hr (takes_of rfl rfl rfl rfl) (passes_of (X := cxOf (L2.CX P w) P w K mg base N qual (defScope st) f cdv A outer s H E) rfl)) read
theorem meth_def {C : Addr} {m qual : Str} {st : Stmt} {N ps : List Str} {k : Nat} {sp : SpD} {t : WS} (D : MethDefAt K C m qual st ps) (S : FnScope N ps (defScope st)) (len : LenS sp ps.length) (mo : MonoS sp) (body : BodyAt P w K mg base N qual st k t)
    (read : ∀ ds S (Q : WQ) (E : ExD), sp ds S Q E → t (deFn Q E) (startD N ds) S) : MethAt P w K mg base C m (k + 1) ps sp := by
  obtain ⟨f, fd, F, M, b⟩ := D.at_
  exact ⟨f, fd, M, fnd_body F S len mo body read, b⟩
theorem init_def {C : Addr} {x qual : Str} {st : Stmt} {N ps : List Str} {k : Nat} {sp : SpD} {t : WS} (D : InitDefAt K mg x C qual st ps) (S : FnScope N ps (defScope st)) (len : LenS sp ps.length) (mo : MonoS sp) (body : BodyAt P w K mg base N qual st k t)
    (read : ∀ ds S (Q : WQ) (E : ExD), sp ds S Q E → t (deFn Q E) (startD N ds) S) : MkAt P w K mg base x C (k + 1) ps sp := by
  obtain ⟨f, fd, F, M, m, b⟩ := D.at_
  exact ⟨f, fd, M, fnd_body F S len mo body read, m, b⟩
theorem prop_def {C : Addr} {m qual : Str} {st : Stmt} {N ps : List Str} {k : Nat} {sp : SpD} {t : WS} (D : PropDefAt K C m qual st ps) (S : FnScope N ps (defScope st)) (len : LenS sp ps.length) (mo : MonoS sp) (body : BodyAt P w K mg base N qual st k t)
    (read : ∀ ds S (Q : WQ) (E : ExD), sp ds S Q E → t (deFn Q E) (startD N ds) S) : PropAt P w K mg base C m (k + 1) ps sp := by
  obtain ⟨q, f, fd, F, M, b⟩ := D.at_
  exact ⟨q, f, fd, M, fnd_body F S len mo body read, b⟩
theorem call_def {x : Str} {st : Stmt} {N ps : List Str} {k : Nat} {sp : SpD} {t : WS} (D : DefAt K mg x st ps) (S : FnScope N ps (defScope st)) (len : LenS sp ps.length) (mo : MonoS sp) (body : BodyAt P w K mg base N x st k t)
    (read : ∀ ds S (Q : WQ) (E : ExD), sp ds S Q E → t (deFn Q E) (startD N ds) S) : Callee P w K mg base x (k + 1) ps sp := by
  obtain ⟨f, fd, F, m, kp, b⟩ := D.at_
  exact ⟨f, fd, fnd_body F S len mo body read, m, kp, b⟩
end
structure Blt (mg : Str → Option Value) : Prop where
  abs_ : mg "abs" = none
  all_ : mg "all" = none
  any_ : mg "any" = none
  bool_ : mg "bool" = none
  dict_ : mg "dict" = none
  enumerate_ : mg "enumerate" = none
  int_ : mg "int" = none
  isinstance_ : mg "isinstance" = none
  len_ : mg "len" = none
  list_ : mg "list" = none
  max_ : mg "max" = none
  min_ : mg "min" = none
  range_ : mg "range" = none
  reversed_ : mg "reversed" = none
  sorted_ : mg "sorted" = none
  str_ : mg "str" = none
  sum_ : mg "sum" = none
  tuple_ : mg "tuple" = none
  zip_ : mg "zip" = none
end DL

namespace L2
open PySem PySem.Spec PyProof.Rows
/-- three names at once, stored from the right -/
def tThr (i j k : Nat) (ta : TA) : TS := fun D σ H => ta σ H fun vs H1 => ∃ v w r, vs = [v, w, r] ∧ D.nx (((σ.set i (some v)).set j (some w)).set k (some r)) H1
theorem three_of {vs : V × V × V} {us : List Value} (r1 : Vals [vs.1, vs.2.1, vs.2.2] us) : ∃ u1 u2 u3, us = [u1, u2, u3] ∧ RelV vs.1 u1 ∧ RelV vs.2.1 u2 ∧ RelV vs.2.2 u3 := by
  cases r1 with
  | cons p q =>
    cases q with
    | cons p' q' =>
      cases q' with
      | cons p2 q2 =>
        cases q2
        exact ⟨_, _, _, rfl, p, p', p2⟩
theorem ps_thr {X : Cx} {pos : Pos} {i j k : Nat} {x y z : Str} {a b c : Expr} {ta : TA} {px py pz pt : Pos} {kt k2 pt2} (hc : X.calm = true) (hN : X.N.Nodup) (hi : X.N[i]? = some x) (hj : X.N[j]? = some y) (hk : X.N[k]? = some z) (hij : i ≠ j) (hik : i ≠ k) (hjk : j ≠ k)
    (hx : X.env.scope.names.lookup x = some .local) (hy : X.env.scope.names.lookup y = some .local) (hz : X.env.scope.names.lookup z = some .local) (ha : PA X [a, b, c] ta)
    (hw : swappedStores [.Tuple [.Name x px, .Name y py, .Name z pz] kt pt] (.Tuple [a, b, c] k2 pt2) X.env = pure (some [x, y, z]))
    (hs : swapsWithSole [.Tuple [.Name x px, .Name y py, .Name z pz] kt pt] (.Tuple [a, b, c] k2 pt2) pos.line X.env = pure false) :
    PS X (.Assign [.Tuple [.Name x px, .Name y py, .Name z pz] kt pt] (.Tuple [a, b, c] k2 pt2) pos) (tThr i j k ta) := by
  refine ⟨fun pins s σ H D I h => ?_⟩
  rw [exec_Assign_arm]
  refine wpAny_bind (wpAny_standAt ?_)
  rw [hs]
  refine wpAny_bind (wpAny_pure ?_)
  rw [if_neg (by decide)]
  refine wpAny_bind (Tuple_ (thn (ha.run _ pins s σ H _ I h) fun us s1 ⟨vs, H1, I1, r1, q1⟩ => ?_))
  obtain ⟨v, w, r, e1, q1⟩ := q1
  subst e1
  obtain ⟨u1, u2, u3, rfl, rv, rw', rr⟩ := three_of (vs := (v, w, r)) r1
  refine wpAny_newObj_type ?_ (by show 3 ≤ sizeLine; decide)
  have I2 : Inv X pins σ H1 { s1 with heap := s1.heap.push { cls := .type "tuple", data := .seq [u1, u2, u3].toArray } } := I1.kept (t' := s1.toks) fun b o e => Heap.get?_push_of_some _ e
  rw [hw]
  refine wpAny_bind (wpAny_pure ?_)
  show wpAny (model X.prog X.w) X.A (do rule "assign.swapped-stores"; let items ← unpackItems (.ref s1.heap.objs.size) 3 none; assignInOrder [fun v => bindName X.env z v, fun v => bindName X.env y v, fun v => bindName X.env x v] items.reverse; pure Flow.next) _ _ _
  refine wpAny_bind (wpAny_rule (wpAny_bind (unpackItems_tuple (items := #[u1, u2, u3]) (I1.ok.hd hc) (IsTup.new s1.heap _) fun h' hx' => ?_)))
  have I3 := I2.kept (h' := h') (t' := s1.toks) fun b o e => hx' b o (Nat.ne_of_lt (Heap.lt_size e)) e
  show wpAny _ _ (assignInOrder [fun v => bindName X.env z v, fun v => bindName X.env y v, fun v => bindName X.env x v] [u3, u2, u1] >>= fun _ => pure Flow.next) _ _ _
  refine wpAny_bind (assignInOrder_cons (wpAny_bindName (store_ok I3 hN hk (.inl hz) rr (fun s2 I4 => ?_) (.inr hz))))
  refine assignInOrder_cons (wpAny_bindName (store_ok I4 hN hj (.inl hy) rw' (fun s3 I5 => ?_) (.inr hy)))
  refine assignInOrder_cons (wpAny_bindName (store_ok I5 hN hi (.inl hx) rv (fun s4 I6 => assignInOrder_nil (wpAny_pure ?_)) (.inr hx)))
  rw [List.set_comm _ _ (Ne.symm hjk), List.set_comm _ _ (Ne.symm hik), List.set_comm _ _ (Ne.symm hij)] at I6
  exact ⟨_, H1, I6, q1⟩
end L2
namespace DL
open PySem L2
section
variable {X : Cx} {W : L2.WX} {pos : Pos} {x y z : Str} {i : Nat}
def sThr (i j k : Nat) (ta : WA) : WS := fun d l S => ta (deOf d l) S fun vs S' => match vs with | [v, w, r] => d.nx (((l.set i (some v)).set j (some w)).set k (some r)) S' | _ => False
theorem s_thr {j k : Nat} {a b c : Expr} {ta : WA} {px py pz pt : Pos} {kt k2 pt2} (hc : X.calm = true) (hN : X.N.Nodup) (hi : X.N[i]? = some x) (hj : X.N[j]? = some y) (hk : X.N[k]? = some z) (hij : i ≠ j) (hik : i ≠ k) (hjk : j ≠ k)
    (hx : X.env.scope.names.lookup x = some .local) (hy : X.env.scope.names.lookup y = some .local) (hz : X.env.scope.names.lookup z = some .local) (ha : FA X W [a, b, c] ta)
    (hw : swappedStores [.Tuple [.Name x px, .Name y py, .Name z pz] kt pt] (.Tuple [a, b, c] k2 pt2) X.env = pure (some [x, y, z]) := by rfl)
    (hs : swapsWithSole [.Tuple [.Name x px, .Name y py, .Name z pz] kt pt] (.Tuple [a, b, c] k2 pt2) pos.line X.env = pure false := by rfl) :
    FS X W (.Assign [.Tuple [.Name x px, .Name y py, .Name z pz] kt pt] (.Tuple [a, b, c] k2 pt2) pos) (sThr i j k ta) :=
  ⟨imS (ps_thr hc hN hi hj hk hij hik hjk hx hy hz ha.pa hw hs) fun D σ H ⟨io, l, S, d, r, en, kk, q⟩ => useA ha.mo r (en_of en kk) q fun vs S1 us io1 H1 q1 g1 r1 rvs => by
    match vs, rvs, q1 with
    | [v, w, u], .cons r1' (.cons r2' (.cons r3' .nil)), q1 => exact ⟨_, _, _, rfl, kk.nx _ _ _ io1 H1 q1 g1 r1 ((((en.mono g1).set i r1').set j r2').set k r3')⟩⟩
end
end DL

namespace DL
open PySem L2
def mtD (a : Addr) : Addr → Option Bool := fun C => if C = a then some true else none
theorem mtD_eq {a C : Addr} (h : mtD a C = some true) : a = C := by
  unfold mtD at h
  by_cases e : C = a
  · exact e.symm
  · rw [if_neg e] at h; cases h
def gRem : List Dv → List Dv → (List Dv → Dv → Prop) → Prop := fun xs ds Q => match ds with | [.str y] => ∃ ws : List Str, xs = ws.map .str ∧ y ∈ ws ∧ Q ((ws.erase y).map .str) .non | _ => False
end DL

namespace DL
open PySem L2
/-! ### sorted(xs, key=str), texts -/
def strLe (x y : Str) : Bool := decide (x.cps.toList ≤ y.cps.toList)
def sortT (ws : List Str) : List Str := ws.mergeSort strLe
def strIs (v : Value) (x : Str) : Prop := ∃ t, v = .str x t
theorem each_of_vals : ∀ {ws : List Str} {us : List Value}, Vals (ws.map V.str) us → PySem.W.EachIs strIs us ws
  | [], _, .nil => .nil
  | w :: ws, _, .cons r t => by
    obtain ⟨k, e⟩ := r
    exact .cons ⟨k, e⟩ (each_of_vals t)
theorem vals_of_each : ∀ {ws : List Str} {us : List Value}, PySem.W.EachIs strIs us ws → Vals (ws.map V.str) us
  | [], _, .nil => .nil
  | w :: ws, _, .cons ⟨k, e⟩ t => .cons ⟨k, e⟩ (vals_of_each t)
def rSortK (K : PySem.W.Frag) : List V → List V → Hp → VK → Prop := fun vs zs H Q => ∃ (a : Addr) (ws : List Str), vs = [V.ref a] ∧ zs = [V.ty "str"] ∧ SqL K H a (ws.map V.str) ∧
  ∀ p : Addr, H p = none → Q (.ref p) (upd H p (.lst ((sortT ws).map V.str)))
theorem key_ty (a : Addr) : Builtin.«list.sort» ⟨[.ref a], [(Str.ofString "key", .type "str")]⟩ = PyProof.Rows.ksk_tree a (.type "str") false := rfl
section
variable {X : Cx}
theorem cr_sortK (hu : X.A.units + 64 < cLine) : CallRK X (.builtin "sorted") [Str.ofString "key"] (rSortK X.K) := by
  intro pins s σ H vs zs us ws Q I r rz h
  obtain ⟨a, xs, rfl, rfl, hs, q⟩ := h
  obtain rfl := Vals.ref1 r
  obtain ⟨w1, rfl, e1⟩ := vals1 rz
  obtain rfl : w1 = Value.type "str" := e1
  obtain ⟨its, rv, hl, hz⟩ := I.list hs
  rw [List.length_map] at hz
  refine PySem.W.sorted_key_data (b := false) (R := strIs) (k := PyData.str) hl.isList (each_of_vals rv) ?_ ?_ hz ?_ (PyProof.Rows.ksk_s1 _ _) (fun _ => PyProof.Rows.ksk_l1 _ _) key_ty ?_ ?_
  · exact PySem.W.AllAlike.of fun _ _ => rfl
  · exact PySem.W.Sortable.others fun b => ⟨(by intro z; cases z), fun xs z => by cases z⟩
  · intro x _
    have : (PyData.str x).depth = 0 := rfl
    omega
  · rintro v x ⟨t, rfl⟩ _ h tk _
    exact PySem.P.str_of_str ⟨h, tk, rfl, fun _ _ e => e, .str x t⟩
  · intro out c h' tk kp fr hD hlen he
    have e : PySem.W.dataLe false (fun b : Str => PyData.str b) = strLe := PySem.W.dataLe_str (fun b => b)
    have he : PySem.W.EachIs strIs out (sortT xs) := by
      unfold sortT
      rw [← e]
      exact he
    have hl2 : ((sortT xs).map V.str).length ≤ sizeLine := by
      rw [List.length_map, ← he.length, hlen]; exact hz
    exact ⟨.ref _, upd H (s.heap.objs.size + 1) (.lst ((sortT xs).map V.str)), I.laid (t' := tk) kp (Nat.le_succ _) ⟨hl2, out, c, vals_of_each he, hD⟩, rfl, q _ (I.hok.fresh (Nat.le_succ _))⟩
variable {W : L2.WX} {a : Expr} {es : List Expr} {p p2 kp pos : Pos} {t : WA}
def fSortK : Dv → Store → WQ → Prop := fun d S Q => ∃ xs : List Str, locL S d (xs.map .str) ∧ Q (.loc S.length) (S ++ [.lst ((sortT xs).map .str)])
def oSortK : WCl := fun ds S Q => match ds with | [d] => fSortK d S Q | _ => False
theorem oSortK_mo {ds : List Dv} {S : Store} {Q Q' : WQ} (i : ∀ d S', Q d S' → Q' d S') (h : oSortK ds S Q) : oSortK ds S Q' := by
  match ds, h with
  | [d], ⟨xs, h1, q⟩ => exact ⟨xs, h1, i _ _ q⟩
theorem fsortK (hu : X.A.units + 64 < cLine) (hg : Gl X "sorted") (hm : X.mg "sorted" = none) (hg2 : Gl X "str") (hm2 : X.mg "str" = none) (ha : FA X W [a] t)
    (he : backTo pos (starEach [a] X.env) = (false, eval a X.env) :: backTo pos (starEach [] X.env) := by rfl) (hpl : (backTo pos (starEach [a] X.env)).any (·.1) = false := by rfl)
    (hall : (backToKw pos (keywordEach [⟨some "key", .Name "str" p2, kp⟩] X.env)).all (·.1.isSome) = true := by rfl) (hnone : (backToKw pos (keywordEach [⟨some "key", .Name "str" p2, kp⟩] X.env)).any (·.1.isNone) = false := by rfl) (hks : (backToKw pos (keywordEach [⟨some "key", .Name "str" p2, kp⟩] X.env)).filterMap (·.1) = [Str.ofString "key"] := by rfl) :
    FE X W (.Call (.Name "sorted" p) [a] [⟨some "key", .Name "str" p2, kp⟩] pos) (dCB oSortK t) :=
  ⟨imE (pe_callBK (cr_sortK hu) hg hm (by decide +kernel) ha.pa (pk_cons (pe_bltn (v := .ty "str") hg2 hm2 (by decide +kernel) rfl (by decide) (by decide)) pk_nil) (by decide) (by decide) he hpl hall hnone hks) fun σ H Q ⟨io, de, S, r, en, q⟩ =>
    useA ha.mo r en q fun ds S1 vs io1 H1 h g1 r1 rvs => by
      match ds, rvs, h with
      | [d], .cons rv .nil, ⟨xs, h1, q1⟩ =>
        obtain ⟨a, vs, rfl, sq, rvs⟩ := loc_at r1 rv h1
        rw [map_rv (fun _ _ => rv_str) rvs] at sq
        exact ⟨a, xs, rfl, rfl, sq, fun p hp => new_lst g1 r1 (rv_map (fun _ => .str) (sortT xs)) hp q1⟩,
   fun de S Q Q' i q => ha.mo _ _ _ _ (fun ds S1 q1 => oSortK_mo i q1) q⟩
/-! ### xs.remove(y), texts -/
def eqS (k : Str) (v : Value) : Bool := match v with
  | .str n _ => n == k
  | _ => false
theorem eqs_gives {k : Str} {t : Tok} : ∀ {us : List Value} {ns : List Str}, Vals (ns.map V.str) us → ∀ y ∈ us, MeetsSeq.EqGives y (.str k t) (eqS k y)
  | _, [], .nil => fun y hy => by cases hy
  | _, n :: ns, .cons ⟨t', e⟩ h => fun y hy => by
    rcases List.mem_cons.mp hy with e1 | e1
    · rw [e1, e]
      exact PyProof.Rows.eqGives_str n k t' t
    · exact eqs_gives h y e1
def rRemS : V → List V → Hp → VK → Prop := fun x xs H Q => ∃ (l : Addr) (ns : List Str) (k : Str), x = .ref l ∧ xs = [.str k] ∧ H l = some (.lst (ns.map V.str)) ∧ k ∈ ns ∧ Q .non (upd H l (.lst ((ns.erase k).map V.str)))
theorem erase_mapS : ∀ (l : List Str) (j : Nat), (l.map V.str).eraseIdx j = (l.eraseIdx j).map V.str
  | [], j => by simp
  | a :: r, 0 => by simp
  | a :: r, j + 1 => by
    have ih := erase_mapS r j
    simp [ih]
theorem get_vals : ∀ {ns : List Str} {us : List Value} {m : Nat} {k : Str}, Vals (ns.map V.str) us → ns[m]? = some k → ∃ t, us[m]? = some (.str k t)
  | [], _, _, _, .nil, e => by simp at e
  | n :: ns, _, 0, k, .cons ⟨t, e1⟩ _, e => by simp at e; subst e; exact ⟨t, by rw [e1]; rfl⟩
  | n :: ns, _, m + 1, k, .cons _ r, e => by
    obtain ⟨t, h⟩ := get_vals (m := m) r (by simpa using e)
    exact ⟨t, by simpa using h⟩
theorem mt_removeS : MtM X "list.remove" rRemS := by
  intro pins s σ H x xs v us Q I rx rxs h
  obtain ⟨l, ns, k, rfl, rfl, hH, hk, q⟩ := h
  cases rx
  obtain ⟨u, rfl, ru⟩ := rxs.one
  obtain ⟨t, rfl⟩ := ru
  obtain ⟨z, its, n, r, hl, e⟩ := I.lstM hH
  rw [List.length_map] at hl z
  have hj : ns.idxOf k < ns.length := List.idxOf_lt_length_of_mem hk
  have hjl : ns.idxOf k < its.toArray.size := by rw [List.size_toArray]; omega
  refine call_meets PySem.F.slot_list_remove ⟨_, e, rfl⟩ PySem.F.entry_list_remove (PySem.F.args_list_remove_2 _ _)
    (MeetsSeq.list_remove l its.toArray n (.str k t) (eqS k) (fun y hy => eqs_gives r y (by simpa using hy)) (ns.idxOf k) hjl ?_ ?_ (by rw [List.size_toArray]; omega)) ⟨e, ?_⟩
  · obtain ⟨tj, hjt⟩ := get_vals r (m := ns.idxOf k) (k := k) (by rw [List.getElem?_eq_getElem hj, List.getElem_idxOf])
    obtain ⟨h1, h2⟩ := List.getElem?_eq_some_iff.mp hjt
    have e1 : its.toArray[ns.idxOf k] = .str k tj := by simpa using h2
    rw [e1]
    exact beq_self_eq_true k
  · intro m hm hmj
    have hmn : m < ns.length := by omega
    obtain ⟨tm, hmt⟩ := get_vals r (List.getElem?_eq_getElem hmn)
    obtain ⟨h1, h2⟩ := List.getElem?_eq_some_iff.mp hmt
    have e1 : its.toArray[m] = .str ns[m] tm := by simpa using h2
    rw [e1]
    show (ns[m] == k) = false
    have := List.not_of_lt_findIdx (p := (· == k)) hmj
    simpa using this
  · have rr := r.eraseIdx (ns.idxOf k)
    rw [erase_mapS] at rr
    have q : Q .non (upd H l (.lst ((ns.eraseIdx (ns.idxOf k)).map V.str))) := by
      rw [← List.erase_eq_eraseIdx_of_idxOf rfl]; exact q
    refine ⟨.non, _, I.lset (its' := its.eraseIdx (ns.idxOf k)) (t' := s.toks) hH e ?_ rr ?_, rfl, q⟩
    · show its.toArray.eraseIdxIfInBounds (ns.idxOf k) = (its.eraseIdx (ns.idxOf k)).toArray
      rw [List.eraseIdxIfInBounds_toArray]
    · have z2 := len_erase ns (ns.idxOf k)
      rw [List.length_map]
      omega
variable {o e : Expr} {to : WE} {apos : Pos}
theorem fremove (ho : FE X W o to) (ha : FA X W [e] t) (hbase : attributeBase o ("remove" : Str) X.env (eval o X.env) = eval o X.env := by rfl)
    (hfew : ((backTo pos (starEach [e] X.env)).all (fun x => !x.1) && (backToKw pos (keywordEach [] X.env)).all (fun x => x.1.isSome) && decide ([e].length + ([] : List Keyword).length + (if ([] : List Keyword).isEmpty then 0 else 1) < 30)) = true := by rfl)
    (hline : (apos.endLine == pos.line) = true := by rfl) (hs : starEach [e] X.env = (false, eval e X.env) :: starEach [] X.env := by rfl) (hpl : (backTo pos (starEach [] X.env)).any (·.1) = false := by rfl) :
    FE X W (.Call (.Attribute o "remove" apos) [e] [] pos) (dLm gRem to t) :=
  ⟨imE (pe_bm PySem.F.plainAttrs_list PySem.F.slot_list_remove PySem.F.type_list_remove mt_removeS ho.pe ha.pa hbase hfew hline hs hpl) fun σ H Q ⟨io, de, S, r, en, q⟩ => useE ho.mo r en q fun d S1 v io1 H1 h g1 r1 rv => by
    cases rv <;> first | exact (show False from h).elim | skip
    rename_i n a e1
    obtain ⟨⟨xs0, h0⟩, h⟩ := h
    obtain ⟨a0, q0, vs0, ha0, rvs0⟩ := r1.at h0
    rw [e1] at q0; cases q0
    refine ⟨tyL ha0, useA ha.mo r1 (en.mono g1) h fun ds S2 ws io2 H2 ⟨xs, h1, h2⟩ g2 r2 rws => ?_⟩
    match ds, rws, h2 with
    | [.str y], .cons .str .nil, ⟨zs, e3, hy, q3⟩ =>
      subst e3
      obtain ⟨a', q2, vs, ha', rvs⟩ := r2.at h1
      rw [g2.pre _ _ e1] at q2; cases q2
      rw [map_rv (fun _ _ => rv_str) rvs] at ha'
      exact ⟨a, zs, y, rfl, rfl, ha', hy, here ((g1.trans g2).trans (ge_lst2 ha')) (put_lst r2 (g2.pre _ _ e1) ha' (rv_map (fun _ => .str) _)) .non q3⟩,
   fun de S Q Q' i q => ho.mo _ _ _ _ (fun d S1 q1 => by
    cases d <;> first | exact (show False from q1).elim | skip
    exact ⟨q1.1, ha.mo _ _ _ _ (fun ds S2 ⟨xs, h1, h2⟩ => ⟨xs, h1, by
      match ds, h2 with
      | [.str y], ⟨zs, e3, hy, q3⟩ => exact ⟨zs, e3, hy, i _ _ q3⟩⟩) q1.2⟩) q⟩
end
end DL

/-! Reading: what the denotations say, one step each. -/
namespace DL
open PySem
variable {de : DEnv} {S S' : Store} {Q : WQ} {QT : Bool → Store → Prop} {QA : List Dv → Store → Prop} {d : DE} {l : LocD} {te to ti ta tb : WE} {t u : WS} {c c1 c2 : WT} {w w1 : WA} {o : WO} {i j : Int} {n m k : Nat} {x y v : Dv} {xs ys : List Dv} {g : WG} {gs : WGs} {E : ExD}
-- statements
theorem r_seq (h : t { d with nx := u d } l S) : sSeq t u d l S := h
theorem r_set (h : te (deOf d l) S fun v S' => d.nx (l.set n (some v)) S') : sSet n te d l S := h
theorem r_asg (h : te (deOf d l) S fun v S' => g v d l S') : sAsg te g d l S := h
theorem r_par (h : w (deOf d l) S fun vs S' => match vs with | [v, w] => d.nx ((l.set n (some v)).set m (some w)) S' | _ => False) : sPar n m w d l S := h
theorem r_thr (h : w (deOf d l) S fun vs S' => match vs with | [v, w, r] => d.nx (((l.set n (some v)).set m (some w)).set k (some r)) S' | _ => False) : sThr n m k w d l S := h
theorem r_put (h : te (deOf d l) S fun v S1 => to (deOf d l) S1 fun o S2 => ti (deOf d l) S2 fun j S3 => match o, j with
  | .loc n, .int k => ∃ xs m, S3[n]? = some (.lst xs) ∧ L2.ixN xs.length k = some m ∧ d.nx l (S3.set n (.lst (xs.set m v)))
  | _, _ => False) : sPut te to ti d l S := h
theorem r_drop (h : te (deOf d l) S fun _ S' => d.nx l S') : sDrop te d l S := h
theorem r_ret (h : te (deOf d l) S d.rt) : sRet te d l S := h
theorem r_retN (h : d.rt .non S) : sRetN d l S := h
theorem r_if (h : c (deOf d l) S fun b S' => match b with | true => t d l S' | false => u d l S') : sIf c t u d l S := h
theorem r_nil (h : d.nx l S) : sNil d l S := h
theorem x_nil : sNil d l S = d.nx l S := rfl
-- an if whose test is known
theorem r_ifT (h : c (deOf d l) S fun b S' => b = true ∧ t d l S') (mo : MonoT c) : sIf c t u d l S := mo _ _ _ _ (fun b S' ⟨e, q⟩ => by subst e; exact q) h
theorem r_ifF (h : c (deOf d l) S fun b S' => b = false ∧ u d l S') (mo : MonoT c) : sIf c t u d l S := mo _ _ _ _ (fun b S' ⟨e, q⟩ => by subst e; exact q) h
-- expressions
theorem x_v : dV n de S Q = ∃ v, de.l[n]? = some (some v) ∧ Q v S := rfl
theorem x_c : dC v de S Q = Q v S := rfl
theorem x_op : dOp o ta tb de S Q = ta de S fun x S1 => tb de S1 fun y S2 => o x y S2 Q := rfl
theorem x_an : aN de S QA = QA [] S := rfl
theorem x_ac : aC ta w de S QA = ta de S fun d S1 => w de S1 fun ds S2 => QA (d :: ds) S2 := rfl
theorem x_as : aS ta w de S QA = ta de S fun d S1 => ∃ ys, seqOf S1 d ys ∧ w de S1 fun ds S2 => QA (ys ++ ds) S2 := rfl
theorem x_tup : dTup w de S Q = w de S fun ds S1 => ds.length ≤ sizeLine ∧ Q (.tup ds) S1 := rfl
theorem x_lst : dLst w de S Q = w de S fun ds S1 => ds.length ≤ sizeLine ∧ Q (.loc S1.length) (S1 ++ [.lst ds]) := rfl
theorem x_neg : dNeg ta de S Q = ta de S fun d S1 => match d with | .int i => Q (.int (-i)) S1 | _ => False := rfl
theorem x_cb {o : WCl} : dCB o w de S Q = w de S fun ds S1 => o ds S1 Q := rfl
theorem x_call {sp : SpD} : dCall sp [] w de S Q = w de S fun ds S1 => sp (ds ++ []) S1 Q de.ex := rfl
theorem x_tB : tB te de S QT = te de S fun d S1 => match d with | .bl k => QT k S1 | _ => False := rfl
theorem x_tTru : tTru te de S QT = te de S fun d S1 => ∃ k, truD S1 d k ∧ QT k S1 := rfl
theorem x_tNot : tNot c de S QT = c de S fun k S1 => QT (!k) S1 := rfl
theorem x_tAnd : tAnd c c1 de S QT = c de S fun k S1 => match k with | true => c1 de S1 QT | false => QT false S1 := rfl
theorem x_tOr : tOr c c1 de S QT = c de S fun k S1 => match k with | true => QT true S1 | false => c1 de S1 QT := rfl
theorem x_tYes : tYesD de S QT = QT true S := rfl
theorem x_not : dNot ta de S Q = ta de S fun d S1 => match d with | .bl k => Q (.bl (!k)) S1 | _ => False := rfl
theorem x_notT : dNotT ta de S Q = ta de S fun d S1 => ∃ k, truD S1 d k ∧ Q (.bl (!k)) S1 := rfl
theorem x_and : dAnd ta tb de S Q = ta de S fun d S1 => match d with | .bl true => tb de S1 Q | .bl false => Q (.bl false) S1 | _ => False := rfl
theorem x_or : dOr ta tb de S Q = ta de S fun d S1 => match d with | .bl true => Q (.bl true) S1 | .bl false => tb de S1 Q | _ => False := rfl
theorem x_if : dIf c ta tb de S Q = c de S fun k S1 => match k with | true => ta de S1 Q | false => tb de S1 Q := rfl
theorem x_ch {tr : WC} : dCh ta tr de S Q = ta de S fun x S1 => tr x de S1 Q := rfl
theorem x_cl : cLast o tb x de S Q = tb de S fun y S1 => o x y S1 Q := rfl
theorem x_cm {tr : WC} : cMore o tb tr x de S Q = tb de S fun y S1 => o x y S1 fun z S2 => match z with | .bl true => tr y de S2 Q | .bl false => Q (.bl false) S2 | _ => False := rfl
theorem x_sl {tl th : WP} : dSl ta tl th de S Q = ta de S fun d S1 => tl de S1 fun lo S2 => th de S2 fun hi S3 => match d with
  | .tup xs => Q (.tup (cutD xs lo hi)) S3
  | .loc n => ∃ xs, S3[n]? = some (.lst xs) ∧ Q (.loc S3.length) (S3 ++ [.lst (cutD xs lo hi)])
  | .frl xs => Q (.loc S3.length) (S3 ++ [.lst (cutD xs lo hi)])
  | _ => False := rfl
theorem x_pN {QP : Option Int → Store → Prop} : pN de S QP = QP none S := rfl
theorem x_pS {QP : Option Int → Store → Prop} : pS te de S QP = te de S fun d S1 => match d with | .int i => QP (some i) S1 | _ => False := rfl
theorem x_pop : dPop to de S Q = to de S fun d S1 => match d with
  | .loc n => ∃ xs y, S1[n]? = some (.lst xs) ∧ xs[xs.length - 1]? = some y ∧ Q y (S1.set n (.lst xs.dropLast))
  | _ => False := rfl
theorem x_lm {f : List Dv → List Dv → (List Dv → Dv → Prop) → Prop} : dLm f to w de S Q = to de S fun d S1 => match d with
  | .loc n => (∃ xs, S1[n]? = some (.lst xs)) ∧ w de S1 fun ds S2 => ∃ xs, S2[n]? = some (.lst xs) ∧ f xs ds fun ys d' => Q d' (S2.set n (.lst ys))
  | _ => False := rfl
theorem x_app {QL : List Dv → Dv → Prop} : gApp xs [v] QL = (xs.length < sizeLine ∧ QL (xs ++ [v]) .non) := rfl
theorem x_ext : dExt to w de S Q = to de S fun d S1 => match d with
  | .loc n => (∃ xs, S1[n]? = some (.lst xs)) ∧ w de S1 fun ds S2 => ∃ xs, S2[n]? = some (.lst xs) ∧ gExt S2 xs ds fun ys d' => Q d' (S2.set n (.lst ys))
  | _ => False := rfl
theorem x_gExt {QL : List Dv → Dv → Prop} : gExt S xs [.loc m] QL = ∃ zs, S[m]? = some (.lst zs) ∧ xs.length + zs.length ≤ sizeLine ∧ QL (xs ++ zs) .non := rfl
theorem x_isiT {Ts : List String} : dIsiT te Ts de S Q = te de S fun d S1 => ∃ t r, tyD S1 d t ∧ kitBs t Ts = some r ∧ Q (.bl r) S1 := rfl
theorem x_fld {C : Addr} {f : Str} : dFld C f to de S Q = to de S fun d S1 => match d with
  | .loc n => ∃ fs v, S1[n]? = some (.ins C fs) ∧ fs.lookup f = some v ∧ Q v S1
  | _ => False := rfl
-- operators by values
theorem o_addI : oAdd (.int i) (.int j) S Q = Q (.int (i + j)) S := rfl
theorem o_addS {a b : Str} : oAdd (.str a) (.str b) S Q = (a.length + b.length ≤ sizeLine ∧ Q (.str (a ++ b)) S) := rfl
theorem o_addT : oAdd (.tup xs) (.tup ys) S Q = (xs.length + ys.length ≤ sizeLine ∧ Q (.tup (xs ++ ys)) S) := rfl
theorem o_addL : oAdd (.loc m) (.loc n) S Q = ∃ xs ys, S[m]? = some (.lst xs) ∧ S[n]? = some (.lst ys) ∧ xs.length + ys.length ≤ sizeLine ∧ Q (.loc S.length) (S ++ [.lst (xs ++ ys)]) := rfl
theorem o_sub : oSub (.int i) (.int j) S Q = (True ∧ Q (.int (i - j)) S) := rfl
theorem o_mul : oMul (.int i) (.int j) S Q = (L2.CMul i j ∧ Q (.int (i * j)) S) := rfl
theorem o_mod : oMod (.int i) (.int j) S Q = (0 < j ∧ Q (.int (i % j)) S) := rfl
theorem o_div : oDiv (.int i) (.int j) S Q = (L2.CDivW i j ∧ Q (.int (i / j)) S) := rfl
theorem o_pow : oPow (.int i) (.int j) S Q = (L2.CPow i j ∧ Q (.int (i ^ j.toNat)) S) := rfl
theorem o_c {p : Int → Int → Bool} : oC p (.int i) (.int j) S Q = (True ∧ Q (.bl (p i j)) S) := rfl
theorem o_ixT : oIx (.tup xs) (.int i) S Q = ∃ d, L2.atI xs i = some d ∧ Q d S := rfl
theorem o_ixL : oIx (.loc n) (.int i) S Q = ∃ xs d, S[n]? = some (.lst xs) ∧ L2.atI xs i = some d ∧ Q d S := rfl
theorem o_ixF : oIx (.frl xs) (.int i) S Q = ∃ d, L2.atI xs i = some d ∧ Q d S := rfl
theorem o_ixS {z : Str} : oIx (.str z) (.int i) S Q = (z.length ≤ sizeLine ∧ ∃ c, L2.atI z.cps.toList i = some c ∧ Q (.str ⟨#[c]⟩) S) := rfl
theorem o_inT {neg : Bool} : oIn neg x (.tup ys) S Q = (flatD x = true ∧ ∃ zs, seqOf S (.tup ys) zs ∧ zs.all flatD = true ∧ Q (.bl (if neg then !inD x zs else inD x zs)) S) := rfl
theorem o_inL {neg : Bool} : oIn neg x (.loc n) S Q = (flatD x = true ∧ ∃ zs, seqOf S (.loc n) zs ∧ zs.all flatD = true ∧ Q (.bl (if neg then !inD x zs else inD x zs)) S) := rfl
theorem o_eqT : oEq (.tup xs) y S Q = eqX S (.tup xs) y fun b => Q (.bl b) S := rfl
theorem o_eqL : oEq (.loc n) y S Q = eqX S (.loc n) y fun b => Q (.bl b) S := rfl
theorem o_neT : oNe (.tup xs) y S Q = eqX S (.tup xs) y fun b => Q (.bl (!b)) S := rfl
theorem o_neL : oNe (.loc n) y S Q = eqX S (.loc n) y fun b => Q (.bl (!b)) S := rfl
theorem b_len {v : Dv} : oLen [v] S Q = ∃ n, lenD S v n ∧ Q (.int (n : Int)) S := rfl
theorem b_list : oList [v] S Q = ∃ ys, seqOf S v ys ∧ Q (.loc S.length) (S ++ [.lst ys]) := rfl
theorem b_tupl : oTupl [v] S Q = ∃ ys, seqOf S v ys ∧ Q (.tup ys) S := rfl
theorem b_abs : oAbs [.int i] S Q = Q (.int (if i < 0 then -i else i)) S := rfl
theorem b_intI : oInt [.int i] S Q = Q (.int i) S := rfl
theorem b_intB {k : Bool} : oInt [.bl k] S Q = Q (.int (if k then 1 else 0)) S := rfl
theorem b_max : oMax2 [.int i, .int j] S Q = Q (.int (if j > i then j else i)) S := rfl
theorem b_min : oMin2 [.int i, .int j] S Q = Q (.int (if j < i then j else i)) S := rfl
theorem b_isi {T : String} : oIsi [v, .ty T] S Q = ∃ t r, tyD S v t ∧ L2.kitB t T = some r ∧ Q (.bl r) S := rfl
theorem b_all : oAll [v] S Q = ∃ ns : List Bool, locL S v (ns.map .bl) ∧ Q (.bl (ns.all id)) S := rfl
theorem b_any : oAny [v] S Q = ∃ ns : List Bool, locL S v (ns.map .bl) ∧ Q (.bl (ns.any id)) S := rfl
theorem b_sum : oSum [v] S Q = ∃ ns : List Int, locL S v (ns.map .int) ∧ Q (.int ns.sum) S := rfl
theorem atN {α : Type} (xs : List α) (k : Nat) : L2.atI xs (k : Int) = xs[k]? := by
  unfold L2.atI L2.ixN
  rw [if_pos (by omega)]
  by_cases h : k < xs.length
  · rw [if_pos (by omega), Int.toNat_natCast]; rfl
  · rw [if_neg (by omega), List.getElem?_eq_none (by omega)]; rfl
theorem at0 {α : Type} (xs : List α) : L2.atI xs 0 = xs[0]? := atN xs 0
theorem at1 {α : Type} (xs : List α) : L2.atI xs 1 = xs[1]? := atN xs 1
theorem at2 {α : Type} (xs : List α) : L2.atI xs 2 = xs[2]? := atN xs 2
theorem atL {α : Type} (xs : List α) (h : xs ≠ []) : L2.atI xs (-1) = xs[xs.length - 1]? := by
  have hl : 0 < xs.length := List.length_pos_iff.mpr h
  unfold L2.atI L2.ixN
  rw [if_neg (by omega), if_pos (by omega), show (-1 + (xs.length : Int)).toNat = xs.length - 1 by omega]
  rfl
theorem ix0 {n : Nat} (h : 0 < n) : L2.ixN n 0 = some 0 := by unfold L2.ixN; rw [if_pos (by omega), if_pos (by omega)]; rfl
theorem ix1 {n : Nat} (h : 1 < n) : L2.ixN n 1 = some 1 := by unfold L2.ixN; rw [if_pos (by omega), if_pos (by omega)]; rfl
theorem ixk {n : Nat} (k : Nat) (h : k < n) : L2.ixN n (k : Int) = some k := by unfold L2.ixN; rw [if_pos (by omega), if_pos (by omega), Int.toNat_natCast]
end DL

/-! Reading: loops and comprehensions whose steps only let the store grow. -/
namespace DL
open PySem
theorem set_app {S T : Store} {n : Nat} {c : Cell} (h : S.length ≤ n) : (S ++ T).set n c = S ++ T.set (n - S.length) c := by
  rw [List.set_append_right _ _ h]
theorem get_set {S : Store} {n : Nat} {c d : Cell} (h : S[n]? = some d) : (S.set n c)[n]? = some c := List.getElem?_set_self (List.getElem?_eq_some_iff.mp h).1
theorem get_set_ne {S : Store} {n m : Nat} {c : Cell} (h : n ≠ m) : (S.set n c)[m]? = S[m]? := List.getElem?_set_ne h
theorem seq_app {S T : Store} {v : Dv} {xs : List Dv} (h : seqOf S v xs) : seqOf (S ++ T) v xs := by
  cases v <;> first | exact h | exact get_app h
theorem stay_app {S T : Store} {v : Dv} {xs : List Dv} (h : seqOf S v xs) : stayOf v xs (S ++ T) := by
  cases v <;> first | exact True.intro | exact get_app h
theorem x_iseq {te : WE} {de : DEnv} {S : Store} {Q : List Dv → (Store → Prop) → Store → Prop} : iSeq te de S Q = te de S fun v S' => ∃ xs, seqOf S' v xs ∧ Q xs (stayOf v xs) S' := rfl
theorem x_lc {wi : WI} {T : TgD} {tt : WT} {te : WE} {vs : List Nat} {de : DEnv} {S : Store} {Q : WQ} : dLc wi T tt te vs de S Q = wi de S fun xs stay S1 => lcGo T tt te stay S1.length (wipeD de.l vs) (Q (.loc S1.length)) xs (S1 ++ [.lst []]) := rfl
/-- a comprehension whose steps only let the store grow -/
theorem lc_run {T : TgD} {tt : WT} {te : WE} {stay : Store → Prop} {n0 : Nat} {l0 : LocD} {S : Store} {Q : Store → Prop} (p : Dv → Bool) (f : Dv → Dv) (hst : ∀ T', stay (S ++ T')) (hn : S.length ≤ n0) : ∀ (xs : List Dv)
    (h : ∀ x ∈ xs, ∀ (T' : Store) (R : Dv → Store → Prop) (R' : Store → Prop), (p x = true → ∀ T'', R (f x) (S ++ (T' ++ T''))) → (p x = false → ∀ T'', R' (S ++ (T' ++ T''))) →
      T.put x l0 fun l => tt ⟨l, noEx⟩ (S ++ T') fun b S3 => match b with | true => te ⟨l, noEx⟩ S3 R | false => R' S3)
    (acc : List Dv) (T' : Store), (S ++ T')[n0]? = some (.lst acc) → acc.length + xs.length ≤ sizeLine → (∀ T'', (S ++ T'')[n0]? = some (.lst (acc ++ (xs.filter p).map f)) → Q (S ++ T'')) → lcGo T tt te stay n0 l0 Q xs (S ++ T')
  | [], _, acc, T', ha, _, q => ⟨hst T', q T' (by simpa using ha)⟩
  | x :: xs, h, acc, T', ha, hz, q => by
    have hz : acc.length + (xs.length + 1) ≤ sizeLine := hz
    refine ⟨hst T', h x List.mem_cons_self T' _ _ (fun hp T'' => ?_) fun hp T'' => ?_⟩
    · have ha' : (S ++ (T' ++ T''))[n0]? = some (.lst acc) := by rw [← List.append_assoc]; exact get_app ha
      refine ⟨acc, ha', by omega, ?_⟩
      rw [set_app hn]
      refine lc_run p f hst hn xs (fun y hy => h y (List.mem_cons_of_mem _ hy)) (acc ++ [f x]) _ ?_ (by rw [List.length_append, List.length_singleton]; omega) fun T3 h3 => q T3 ?_
      · rw [← set_app hn]; exact get_set ha'
      · rw [h3, List.filter_cons_of_pos hp, List.map_cons, List.append_assoc]; rfl
    · have ha' : (S ++ (T' ++ T''))[n0]? = some (.lst acc) := by rw [← List.append_assoc]; exact get_app ha
      refine lc_run p f hst hn xs (fun y hy => h y (List.mem_cons_of_mem _ hy)) acc _ ha' (by omega) fun T3 h3 => q T3 ?_
      rw [h3, List.filter_cons_of_neg (by rw [hp]; decide)]
/-- [f(x) for x in xs if p(x)] over a list or tuple that stays -/
theorem lcs_run {T : TgD} {tt : WT} {te : WE} {vs : List Nat} {l : LocD} {ex : ExD} {S : Store} {Q : WQ} {v : Dv} {xs : List Dv} (p : Dv → Bool) (f : Dv → Dv) (hv : seqOf S v xs) (hz : xs.length ≤ sizeLine)
    (h : ∀ x ∈ xs, ∀ (T' : Store) (R : Dv → Store → Prop) (R' : Store → Prop), (p x = true → ∀ T'', R (f x) (S ++ (T' ++ T''))) → (p x = false → ∀ T'', R' (S ++ (T' ++ T''))) →
      T.put x (wipeD l vs) fun l => tt ⟨l, noEx⟩ (S ++ T') fun b S3 => match b with | true => te ⟨l, noEx⟩ S3 R | false => R' S3)
    (q : ∀ T' m, S.length ≤ m → (S ++ T')[m]? = some (.lst ((xs.filter p).map f)) → Q (.loc m) (S ++ T')) :
    ∃ xs, seqOf S v xs ∧ lcGo T tt te (stayOf v xs) S.length (wipeD l vs) (Q (.loc S.length)) xs (S ++ [.lst []]) :=
  ⟨xs, hv, lc_run p f (fun T' => stay_app hv) (Nat.le_refl _) xs h [] _ get_new (by rw [List.length_nil]; omega) fun T'' h' => q T'' _ (Nat.le_refl _) (by simpa using h')⟩
theorem filter_all {α : Type} : ∀ (xs : List α), xs.filter (fun _ => true) = xs
  | [] => rfl
  | x :: xs => by rw [List.filter_cons_of_pos rfl, filter_all xs]
/-- the same, over a list of encoded data -/
theorem lct_run {α : Type} (enc : α → Dv) {T : TgD} {tt : WT} {te : WE} {stay : Store → Prop} {n0 : Nat} {l0 : LocD} {S : Store} {Q : Store → Prop} (p : α → Bool) (f : α → Dv) (hst : ∀ T', stay (S ++ T')) (hn : S.length ≤ n0) : ∀ (xs : List α)
    (h : ∀ x ∈ xs, ∀ (T' : Store) (R : Dv → Store → Prop) (R' : Store → Prop), (p x = true → ∀ T'', R (f x) (S ++ (T' ++ T''))) → (p x = false → ∀ T'', R' (S ++ (T' ++ T''))) →
      T.put (enc x) l0 fun l => tt ⟨l, noEx⟩ (S ++ T') fun b S3 => match b with | true => te ⟨l, noEx⟩ S3 R | false => R' S3)
    (acc : List Dv) (T' : Store), (S ++ T')[n0]? = some (.lst acc) → acc.length + xs.length ≤ sizeLine → (∀ T'', (S ++ T'')[n0]? = some (.lst (acc ++ (xs.filter p).map f)) → Q (S ++ T'')) → lcGo T tt te stay n0 l0 Q (xs.map enc) (S ++ T')
  | [], _, acc, T', ha, _, q => ⟨hst T', q T' (by simpa using ha)⟩
  | x :: xs, h, acc, T', ha, hz, q => by
    have hz : acc.length + (xs.length + 1) ≤ sizeLine := hz
    refine ⟨hst T', h x List.mem_cons_self T' _ _ (fun hp T'' => ?_) fun hp T'' => ?_⟩
    · have ha' : (S ++ (T' ++ T''))[n0]? = some (.lst acc) := by rw [← List.append_assoc]; exact get_app ha
      refine ⟨acc, ha', by omega, ?_⟩
      rw [set_app hn]
      refine lct_run enc p f hst hn xs (fun y hy => h y (List.mem_cons_of_mem _ hy)) (acc ++ [f x]) _ ?_ (by rw [List.length_append, List.length_singleton]; omega) fun T3 h3 => q T3 ?_
      · rw [← set_app hn]; exact get_set ha'
      · rw [h3, List.filter_cons_of_pos hp, List.map_cons, List.append_assoc]; rfl
    · have ha' : (S ++ (T' ++ T''))[n0]? = some (.lst acc) := by rw [← List.append_assoc]; exact get_app ha
      refine lct_run enc p f hst hn xs (fun y hy => h y (List.mem_cons_of_mem _ hy)) acc _ ha' (by omega) fun T3 h3 => q T3 ?_
      rw [h3, List.filter_cons_of_neg (by rw [hp]; decide)]
/-- .. from the empty list, no test -/
theorem lcm_run {α : Type} (enc : α → Dv) {T : TgD} {te : WE} {stay : Store → Prop} {l0 : LocD} {S : Store} {Q : Store → Prop} (f : α → Dv) (hst : ∀ T', stay (S ++ T')) (xs : List α) (hz : xs.length ≤ sizeLine)
    (h : ∀ x ∈ xs, ∀ (T' : Store) (R : Dv → Store → Prop), (∀ T'', R (f x) (S ++ (T' ++ T''))) → T.put (enc x) l0 fun l => te ⟨l, noEx⟩ (S ++ T') R)
    (q : ∀ T'', (S ++ T'')[S.length]? = some (.lst (xs.map f)) → Q (S ++ T'')) : lcGo T tYesD te stay S.length l0 Q (xs.map enc) (S ++ [.lst []]) :=
  lct_run enc (fun _ => true) f hst (Nat.le_refl _) xs (fun x hx T' R R' k _ => put_mo (fun l' z => z) (h x hx T' R (k rfl))) [] _ get_new (by rw [List.length_nil]; omega) fun T'' h' => q T'' (by rw [filter_all] at h'; exact h')
/-- .. with a test -/
theorem lcf_run {α : Type} (enc : α → Dv) {T : TgD} {tt : WT} {te : WE} {stay : Store → Prop} {l0 : LocD} {S : Store} {Q : Store → Prop} (p : α → Bool) (f : α → Dv) (hst : ∀ T', stay (S ++ T')) (xs : List α) (hz : xs.length ≤ sizeLine)
    (h : ∀ x ∈ xs, ∀ (T' : Store) (R : Dv → Store → Prop) (R' : Store → Prop), (p x = true → ∀ T'', R (f x) (S ++ (T' ++ T''))) → (p x = false → ∀ T'', R' (S ++ (T' ++ T''))) →
      T.put (enc x) l0 fun l => tt ⟨l, noEx⟩ (S ++ T') fun b S3 => match b with | true => te ⟨l, noEx⟩ S3 R | false => R' S3)
    (q : ∀ T'', (S ++ T'')[S.length]? = some (.lst ((xs.filter p).map f)) → Q (S ++ T'')) : lcGo T tt te stay S.length l0 Q (xs.map enc) (S ++ [.lst []]) :=
  lct_run enc p f hst (Nat.le_refl _) xs h [] _ get_new (by rw [List.length_nil]; omega) fun T'' h' => q T'' (by simpa using h')
theorem map_blA {α : Type} (xs : List α) (b : α → Bool) : xs.map (fun x => Dv.bl (b x)) = (xs.map b).map .bl := by rw [List.map_map]; rfl
/-- all([b(x) for x in xs]) -/
theorem map_bl (xs : List Dv) (b : Dv → Bool) : xs.map (fun x => Dv.bl (b x)) = (xs.map b).map .bl := by rw [List.map_map]; rfl
theorem x_istr {te : WE} {de : DEnv} {S : Store} {Q : List Dv → (Store → Prop) → Store → Prop} : iStrD te de S Q = te de S fun v S' => match v with | .str z => Q (strD z) (fun _ => True) S' | _ => False := rfl
theorem x_ir1 {w : WA} {de : DEnv} {S : Store} {Q : List Dv → (Store → Prop) → Store → Prop} : iR1 w de S Q = w de S fun ds S' => match ds with | [.int j] => (-(2 ^ 62) ≤ j ∧ j < 2 ^ 62) ∧ Q (rngD 0 j.toNat) (fun _ => True) S' | _ => False := rfl
theorem x_ir2 {w : WA} {de : DEnv} {S : Store} {Q : List Dv → (Store → Prop) → Store → Prop} : iR2 w de S Q = w de S fun ds S' => match ds with | [.int i, .int j] => (-(2 ^ 62) ≤ i ∧ i < 2 ^ 62 ∧ -(2 ^ 62) ≤ j ∧ j < 2 ^ 62) ∧ Q (rngD i (j - i).toNat) (fun _ => True) S' | _ => False := rfl
theorem o_inS {c z : Str} {S : Store} {Q : WQ} : oIn false (.str c) (.str z) S Q = Q (.bl (!(Builtin.Str.occurrences z c 0 z.length 1).isEmpty)) S := rfl
/-- the type of plain data -/
def tyOf : Dv → String
  | .non => "NoneType" | .bl _ => "bool" | .int _ => "int" | .str _ => "str" | .tup _ => "tuple" | _ => ""
def isPure : Dv → Bool
  | .non => true | .bl _ => true | .int _ => true | .str _ => true | .tup _ => true | _ => false
theorem ty_pure {S : Store} {v : Dv} (h : isPure v = true) : tyD S v (tyOf v) := by
  cases v <;> first | rfl | cases h
theorem kb_NoneType_str : L2.kitB "NoneType" "str" = some false := by decide +kernel
theorem kb_bool_str : L2.kitB "bool" "str" = some false := by decide +kernel
theorem kb_int_str : L2.kitB "int" "str" = some false := by decide +kernel
theorem kb_str_str : L2.kitB "str" "str" = some true := by decide +kernel
theorem kb_tuple_str : L2.kitB "tuple" "str" = some false := by decide +kernel
theorem kb_list_str : L2.kitB "list" "str" = some false := by decide +kernel
theorem kb_dict_str : L2.kitB "dict" "str" = some false := by decide +kernel
theorem kb_NoneType_tuple : L2.kitB "NoneType" "tuple" = some false := by decide +kernel
theorem kb_bool_tuple : L2.kitB "bool" "tuple" = some false := by decide +kernel
theorem kb_int_tuple : L2.kitB "int" "tuple" = some false := by decide +kernel
theorem kb_str_tuple : L2.kitB "str" "tuple" = some false := by decide +kernel
theorem kb_tuple_tuple : L2.kitB "tuple" "tuple" = some true := by decide +kernel
theorem kb_list_tuple : L2.kitB "list" "tuple" = some false := by decide +kernel
theorem kb_dict_tuple : L2.kitB "dict" "tuple" = some false := by decide +kernel
theorem kb_NoneType_int : L2.kitB "NoneType" "int" = some false := by decide +kernel
theorem kb_bool_int : L2.kitB "bool" "int" = some true := by decide +kernel
theorem kb_int_int : L2.kitB "int" "int" = some true := by decide +kernel
theorem kb_str_int : L2.kitB "str" "int" = some false := by decide +kernel
theorem kb_tuple_int : L2.kitB "tuple" "int" = some false := by decide +kernel
theorem kb_list_int : L2.kitB "list" "int" = some false := by decide +kernel
theorem kb_dict_int : L2.kitB "dict" "int" = some false := by decide +kernel
theorem kb_NoneType_bool : L2.kitB "NoneType" "bool" = some false := by decide +kernel
theorem kb_bool_bool : L2.kitB "bool" "bool" = some true := by decide +kernel
theorem kb_int_bool : L2.kitB "int" "bool" = some false := by decide +kernel
theorem kb_str_bool : L2.kitB "str" "bool" = some false := by decide +kernel
theorem kb_tuple_bool : L2.kitB "tuple" "bool" = some false := by decide +kernel
theorem kb_list_bool : L2.kitB "list" "bool" = some false := by decide +kernel
theorem kb_dict_bool : L2.kitB "dict" "bool" = some false := by decide +kernel
theorem kb_NoneType_list : L2.kitB "NoneType" "list" = some false := by decide +kernel
theorem kb_bool_list : L2.kitB "bool" "list" = some false := by decide +kernel
theorem kb_int_list : L2.kitB "int" "list" = some false := by decide +kernel
theorem kb_str_list : L2.kitB "str" "list" = some false := by decide +kernel
theorem kb_tuple_list : L2.kitB "tuple" "list" = some false := by decide +kernel
theorem kb_list_list : L2.kitB "list" "list" = some true := by decide +kernel
theorem kb_dict_list : L2.kitB "dict" "list" = some false := by decide +kernel
theorem kb_NoneType_dict : L2.kitB "NoneType" "dict" = some false := by decide +kernel
theorem kb_bool_dict : L2.kitB "bool" "dict" = some false := by decide +kernel
theorem kb_int_dict : L2.kitB "int" "dict" = some false := by decide +kernel
theorem kb_str_dict : L2.kitB "str" "dict" = some false := by decide +kernel
theorem kb_tuple_dict : L2.kitB "tuple" "dict" = some false := by decide +kernel
theorem kb_list_dict : L2.kitB "list" "dict" = some false := by decide +kernel
theorem kb_dict_dict : L2.kitB "dict" "dict" = some true := by decide +kernel
def isStr : Dv → Bool | .str _ => true | _ => false
def isTup : Dv → Bool | .tup _ => true | _ => false
theorem kit_str {v : Dv} (h : isPure v = true) : L2.kitB (tyOf v) "str" = some (isStr v) := by
  cases v <;> first | exact kb_NoneType_str | exact kb_bool_str | exact kb_int_str | exact kb_str_str | exact kb_tuple_str | cases h
theorem kit_tup {v : Dv} (h : isPure v = true) : L2.kitB (tyOf v) "tuple" = some (isTup v) := by
  cases v <;> first | exact kb_NoneType_tuple | exact kb_bool_tuple | exact kb_int_tuple | exact kb_str_tuple | exact kb_tuple_tuple | cases h
/-- isinstance(v, str), plain data -/
theorem isi_str {S : Store} {Q : WQ} {v : Dv} (h : isPure v = true) (q : Q (.bl (isStr v)) S) : ∃ t r, tyD S v t ∧ L2.kitB t "str" = some r ∧ Q (.bl r) S := ⟨_, _, ty_pure h, kit_str h, q⟩
theorem isi_tup {S : Store} {Q : WQ} {v : Dv} (h : isPure v = true) (q : Q (.bl (isTup v)) S) : ∃ t r, tyD S v t ∧ L2.kitB t "tuple" = some r ∧ Q (.bl r) S := ⟨_, _, ty_pure h, kit_tup h, q⟩
end DL

/-! Reading statements by simp. -/
namespace DL
open PySem
variable {de : DEnv} {S S' : Store} {Q : WQ} {d : DE} {l : LocD} {te to ti ta tb : WE} {t u tb : WS} {c : WT} {w : WA} {i j : Int} {n m k : Nat} {x y v : Dv} {xs ys vs : List Dv} {g : WG} {gs : WGs} {wi : WI}
theorem x_seq : sSeq t u d l S = t { d with nx := u d } l S := rfl
theorem x_set : sSet n te d l S = te (deOf d l) S fun v S' => d.nx (l.set n (some v)) S' := rfl
theorem x_asg : sAsg te g d l S = te (deOf d l) S fun v S' => g v d l S' := rfl
theorem x_par : sPar n m w d l S = w (deOf d l) S fun vs S' => match vs with | [v, w] => d.nx ((l.set n (some v)).set m (some w)) S' | _ => False := rfl
theorem x_thr : sThr n m k w d l S = w (deOf d l) S fun vs S' => match vs with | [v, w, r] => d.nx (((l.set n (some v)).set m (some w)).set k (some r)) S' | _ => False := rfl
theorem x_put : sPut te to ti d l S = te (deOf d l) S fun v S1 => to (deOf d l) S1 fun o S2 => ti (deOf d l) S2 fun j S3 => match o, j with
  | .loc n, .int k => ∃ xs m, S3[n]? = some (.lst xs) ∧ L2.ixN xs.length k = some m ∧ d.nx l (S3.set n (.lst (xs.set m v)))
  | _, _ => False := rfl
theorem x_drop : sDrop te d l S = te (deOf d l) S fun _ S' => d.nx l S' := rfl
theorem x_ret : sRet te d l S = te (deOf d l) S d.rt := rfl
theorem x_retN : sRetN d l S = d.rt .non S := rfl
theorem x_sif : sIf c t u d l S = c (deOf d l) S fun b S' => match b with | true => t d l S' | false => u d l S' := rfl
theorem x_gN : gN n v d l S = d.nx (l.set n (some v)) S := rfl
theorem x_gT : gT gs (.tup xs) d l S = gs xs d l S := rfl
theorem x_gsN : gsN [] d l S = d.nx l S := rfl
theorem x_gsC : gsC g gs (v :: vs) d l S = g v { d with nx := gs vs d } l S := rfl
theorem x_for : sFor wi g t d l S = wi (deOf d l) S fun xs stay S' => forGo g t stay d xs l S' := rfl
theorem x_fldD {C : Addr} {f : Str} : sFldD C f to te d l S = te (deOf d l) S fun v S1 => to (deOf d l) S1 fun o S2 => match o with
  | .loc n => ∃ fs, S2[n]? = some (.ins C fs) ∧ fs.length < 1000 ∧ d.nx l (S2.set n (.ins C (putD f v fs)))
  | _ => False := rfl
theorem x_rz {C : Addr} {f : List Dv → List (Str × Dv)} : sRaise C n f w d l S = w (deOf d l) S fun ds S' => ds.length = n ∧ d.ex C (f ds) l S' := rfl
theorem x_rz2 {f1 f2 : Str} : rz2 f1 f2 [x, y] = [(f2, y), (f1, x)] := rfl
theorem x_mk {C : Addr} {sp : SpD} : dMake C sp [] w de S Q = w de S fun ds S1 => sp (.loc S1.length :: (ds ++ [])) (S1 ++ [.ins C []]) (fun d S2 => d = .non ∧ Q (.loc S1.length) S2) de.ex := rfl
theorem x_prop {C : Addr} {sp : SpD} : dProp C sp to de S Q = to de S fun d S1 => match d with
  | .loc n => ∃ fs, S1[n]? = some (.ins C fs) ∧ sp [.loc n] S1 Q (fun _ _ _ => False)
  | _ => False := rfl
theorem x_dc {T : TgD} {tt : WT} {tk tv : WE} {vs : List Nat} : dDc wi T tt tk tv vs de S Q = wi de S fun xs stay S1 => dcGo T tt tk tv stay S1.length (wipeD de.l vs) (Q (.loc S1.length)) xs (S1 ++ [.dic []]) := rfl
theorem f_nil {stay : Store → Prop} : forGo g t stay d [] l S = (stay S ∧ d.nx l S) := rfl
theorem f_cons {stay : Store → Prop} : forGo g t stay d (x :: xs) l S = (stay S ∧ g x { d with nx := t { d with nx := forGo g t stay d xs, ct := forGo g t stay d xs, bk := d.nx } } l S) := rfl
end DL

/-! Reading: equality, membership, cuts. -/
namespace DL
open PySem
section
variable {S : Store} {Q : WQ} {a b z : Str} {i j : Int} {x y : Dv} {xs ys : List Dv} {n : Nat}
theorem o_eqS : oEq (.str a) (.str b) S Q = Q (.bl (a == b)) S := rfl
theorem o_neS : oNe (.str a) (.str b) S Q = Q (.bl (!(a == b))) S := rfl
theorem o_eqI : oEq (.int i) (.int j) S Q = Q (.bl (i == j)) S := rfl
theorem o_neI : oNe (.int i) (.int j) S Q = Q (.bl (!(i == j))) S := rfl
theorem x_seqT : seqOf S (.tup xs) ys = (xs = ys) := rfl
theorem x_seqL : seqOf S (.loc n) ys = (S[n]? = some (.lst ys)) := rfl
theorem fl_s : flatD (.str a) = true := rfl
theorem in_any : inD x xs = xs.any fun y => eqD y x := rfl
theorem eq_ss : eqD (.str a) (.str b) = (a == b) := rfl
theorem eq_ii : eqD (.int i) (.int j) = (i == j) := rfl
theorem fl_i : flatD (.int i) = true := rfl
theorem cut1 : cutD (x :: xs) (some 1) none = xs := by
  show ((x :: xs).drop (min (Int.toNat 1) (xs.length + 1))).take (xs.length + 1 - min (Int.toNat 1) (xs.length + 1)) = xs
  rw [show min (Int.toNat 1) (xs.length + 1) = 1 by show min 1 _ = 1; omega, List.drop_one, List.tail_cons, Nat.add_sub_cancel, List.take_length]
theorem len_t : lenD S (.tup xs) n = (n = xs.length) := rfl
theorem len_f : lenD S (.frl xs) n = (n = xs.length) := rfl
theorem len_l {m : Nat} : lenD S (.loc m) n = ∃ xs, S[m]? = some (.lst xs) ∧ n = xs.length := rfl
theorem tru_t {k : Bool} : truD S (.tup xs) k = (k = !xs.isEmpty) := rfl
theorem tru_l {k : Bool} : truD S (.loc n) k = ∃ xs, S[n]? = some (.lst xs) ∧ k = !xs.isEmpty := rfl
theorem ite_ff {α : Type} {x y : α} : (if false = true then x else y) = y := rfl
theorem ite_tt {α : Type} {x y : α} : (if true = true then x else y) = x := rfl
end
theorem in_strs {a : Str} : ∀ ws : List Str, inD (.str a) (ws.map .str) = ws.contains a
  | [] => rfl
  | w :: ws => by
    have ih := in_strs (a := a) ws
    unfold inD at ih ⊢
    rw [List.map_cons, List.any_cons, ih, List.contains_cons]
    show ((w == a) || _) = ((a == w) || _)
    rw [show (w == a) = (a == w) from BEq.comm]
theorem flat_strs : ∀ ws : List Str, (ws.map Dv.str).all flatD = true
  | [] => rfl
  | w :: ws => by rw [List.map_cons, List.all_cons, flat_strs ws]; rfl
theorem strs_any {a : Str} {ws : List Str} : ((ws.map Dv.str).any fun y => eqD y (.str a)) = ws.contains a := in_strs ws
theorem strs_all {ws : List Str} : ((ws.map Dv.str).all flatD = true) = True := eq_true (flat_strs ws)
/-- a in a list or tuple of texts -/
theorem in_run {S : Store} {Q : WQ} {v : Dv} {a : Str} {ws : List Str} {neg : Bool} (h : seqOf S v (ws.map .str)) (q : Q (.bl (if neg then !ws.contains a else ws.contains a)) S) : oIn neg (.str a) v S Q := by
  have k : (flatD (.str a) = true ∧ ∃ ys, seqOf S v ys ∧ ys.all flatD = true ∧ Q (.bl (if neg then !inD (.str a) ys else inD (.str a) ys)) S) := ⟨rfl, _, h, flat_strs ws, by rw [in_strs]; exact q⟩
  cases v <;> first | exact k | exact (show False from h).elim
theorem sz0 : (0 ≤ sizeLine) = True := eq_true (by decide)
theorem sz1 : (0 + 1 ≤ sizeLine) = True := eq_true (by decide)
theorem sz2 : (0 + 1 + 1 ≤ sizeLine) = True := eq_true (by decide)
theorem sz3 : (0 + 1 + 1 + 1 ≤ sizeLine) = True := eq_true (by decide)
theorem sz4 : (0 + 1 + 1 + 1 + 1 ≤ sizeLine) = True := eq_true (by decide)
/-- promises: the arguments encode an a, the store only grows -/
def spT {α : Type} (enc : α → List Dv) (pre : α → Store → Prop) (out : α → Dv) : SpD := fun ds S Q _ => ∃ a, ds = enc a ∧ pre a S ∧ ∀ T, Q (out a) (S ++ T)
def spTL {α : Type} (enc : α → List Dv) (pre : α → Store → Prop) (out : α → List Dv) : SpD := fun ds S Q _ => ∃ a, ds = enc a ∧ pre a S ∧ ∀ T m, S.length ≤ m → (S ++ T)[m]? = some (.lst (out a)) → Q (.loc m) (S ++ T)
theorem spT_mo {α : Type} {enc : α → List Dv} {pre : α → Store → Prop} {out : α → Dv} : MonoS (spT enc pre out) := fun _ _ _ _ _ i ⟨a, h1, h2, h3⟩ => ⟨a, h1, h2, fun T => i _ _ (h3 T)⟩
theorem spTL_mo {α : Type} {enc : α → List Dv} {pre : α → Store → Prop} {out : α → List Dv} : MonoS (spTL enc pre out) := fun _ _ _ _ _ i ⟨a, h1, h2, h3⟩ => ⟨a, h1, h2, fun T m h k => i _ _ (h3 T m h k)⟩
theorem spT_len {α : Type} {enc : α → List Dv} {pre : α → Store → Prop} {out : α → Dv} {n : Nat} (h : ∀ a, (enc a).length = n) : LenS (spT enc pre out) n := fun _ _ _ _ ⟨a, e, _⟩ => by rw [e]; exact h a
theorem spTL_len {α : Type} {enc : α → List Dv} {pre : α → Store → Prop} {out : α → List Dv} {n : Nat} (h : ∀ a, (enc a).length = n) : LenS (spTL enc pre out) n := fun _ _ _ _ ⟨a, e, _⟩ => by rw [e]; exact h a
theorem spT.here {α : Type} {S : Store} {Q : WQ} {out : α → Dv} {a : α} (q : ∀ T, Q (out a) (S ++ T)) : Q (out a) S := by simpa using q []
end DL

/-! Reading: equality of lists and tuples of texts. -/
namespace DL
open PySem
def okS (xs : List Str) : Bool := xs.all PyData.strOk
def pyS (xs : List Str) : List PyData := xs.map .str
theorem pys_S {S : Store} : ∀ xs : List Str, Pys S (xs.map .str) (pyS xs)
  | [] => .nil
  | x :: xs => .cons .str (pys_S xs)
theorem lay_S : ∀ xs : List Str, okS xs = true → PyData.canLayAll0 (pyS xs) = true
  | [], _ => rfl
  | x :: xs, h => by
    unfold okS at h
    rw [List.all_cons, Bool.and_eq_true] at h
    show (PyData.strOk x && PyData.canLayAll0 (pyS xs)) = true
    rw [h.1, lay_S xs h.2]; rfl
theorem depth_S : ∀ xs : List Str, PyData.depthAll (pyS xs) ≤ 0
  | [] => Nat.le_refl _
  | x :: xs => by
    show max (PyData.depth (.str x)) (PyData.depthAll (pyS xs)) ≤ 0
    have := depth_S xs
    exact Nat.max_le.mpr ⟨Nat.le_refl _, this⟩
theorem eqv_S : ∀ xs ys : List Str, PyData.eqvAll (pyS xs) (pyS ys) = (xs == ys)
  | [], [] => rfl
  | [], _ :: _ => rfl
  | _ :: _, [] => rfl
  | x :: xs, y :: ys => by
    show ((x == y) && PyData.eqvAll (pyS xs) (pyS ys)) = ((x == y) && (xs == ys))
    rw [eqv_S xs ys]
theorem shaped_T {xs : List Str} (h : okS xs = true) : SeqAt.shaped (.tuple (pyS xs)) = true := by
  show (PyData.canLayAll0 (pyS xs) && decide (PyData.depthAll (pyS xs) + 1 ≤ 64)) = true
  rw [lay_S xs h, decide_eq_true (by have := depth_S xs; omega)]; rfl
theorem shaped_L {xs : List Str} (h : okS xs = true) : SeqAt.shaped (.list (pyS xs)) = true := by
  show (PyData.canLayAll0 (pyS xs) && decide (PyData.depthAll (pyS xs) + 1 ≤ 64)) = true
  rw [lay_S xs h, decide_eq_true (by have := depth_S xs; omega)]; rfl
theorem eqX_TT {S : Store} {xs ys : List Str} {Q : Bool → Prop} (hx : okS xs = true) (hy : okS ys = true) (q : Q (xs == ys)) : eqX S (.tup (xs.map .str)) (.tup (ys.map .str)) Q :=
  .inl ⟨.tuple (pyS xs), .tuple (pyS ys), .tup (pys_S xs), .tup (pys_S ys), shaped_T hx, shaped_T hy, by
    show Q (PyData.eqvAll (pyS xs) (pyS ys))
    rw [eqv_S]; exact q⟩
theorem eqX_LL {S : Store} {n m : Nat} {xs ys : List Str} {Q : Bool → Prop} (hn : S[n]? = some (.lst (xs.map .str))) (hm : S[m]? = some (.lst (ys.map .str))) (hx : okS xs = true) (hy : okS ys = true) (q : Q (xs == ys)) : eqX S (.loc n) (.loc m) Q :=
  .inl ⟨.list (pyS xs), .list (pyS ys), .lst hn (pys_S xs), .lst hm (pys_S ys), shaped_L hx, shaped_L hy, by
    show Q (PyData.eqvAll (pyS xs) (pyS ys))
    rw [eqv_S]; exact q⟩
theorem o_eqB {a b : Bool} {S : Store} {Q : WQ} : oEq (.bl a) (.bl b) S Q = Q (.bl (a == b)) S := rfl
theorem o_neB {a b : Bool} {S : Store} {Q : WQ} : oNe (.bl a) (.bl b) S Q = Q (.bl (!(a == b))) S := rfl
theorem lt_of_some {S : Store} {n : Nat} {c : Cell} (h : S[n]? = some c) : n < S.length := (List.getElem?_eq_some_iff.mp h).1
/-- all cells but those at X stay -/
def Kp (X : List Nat) (S S' : Store) : Prop := S.length ≤ S'.length ∧ ∀ n c, n ∉ X → S[n]? = some c → S'[n]? = some c
theorem Kp.refl {X : List Nat} {S : Store} : Kp X S S := ⟨Nat.le_refl _, fun _ _ _ h => h⟩
theorem Kp.trans {X : List Nat} {S S1 S2 : Store} (a : Kp X S S1) (b : Kp X S1 S2) : Kp X S S2 := ⟨Nat.le_trans a.1 b.1, fun n c h e => b.2 n c h (a.2 n c h e)⟩
theorem Kp.wide {X Y : List Nat} {S S' : Store} (h : ∀ n, n ∈ X → n < S.length → n ∈ Y) (a : Kp X S S') : Kp Y S S' := ⟨a.1, fun n c k e => a.2 n c (fun z => k (h n z (List.getElem?_eq_some_iff.mp e).1)) e⟩
theorem Kp.app {X : List Nat} {S T : Store} : Kp X S (S ++ T) := ⟨by rw [List.length_append]; omega, fun n c _ e => get_app e⟩
theorem Kp.set {X : List Nat} {S : Store} {p : Nat} {c : Cell} (h : p ∈ X) : Kp X S (S.set p c) := ⟨by rw [List.length_set]; omega, fun n d k e => by rw [get_set_ne (fun z => k (by rw [← z]; exact h))]; exact e⟩
end DL

namespace U
open PySem L2 DL
def den__law_source (A : Ads) : WS :=
  (sSeq (sSet 2 (dOp oAdd (dOp oMul (dC (.int 7)) (dCB oSum (aC (dSl (dV 0) pN (pS (dC (.int 63)))) aN))) (dV 1))) (sSeq (sIf (tB (dOp oLt (dV 1) (dCB oLen (aC (dV 0) aN)))) (sSet 2 (dOp oIx (dV 0) (dV 1))) sNil) (sSeq (sSet 3 (dCB oAbs (aC (dV 2) aN))) (sSeq (sSet 4 (dOp oAdd (dOp oAdd (dOp oAdd (dOp oMod (dCB oInt (aC (dV 3) aN)) (dC (.int 2147483629))) (dOp oMul (dOp oMul (dC (.int 7919)) (dV 1)) (dV 1))) (dOp oMul (dC (.int 31)) (dV 1))) (dC (.int 17)))) (sSeq (sSet 4 (dOp oMod (dCB oInt (aC (dOp oMul (dV 4) (dC (.int 48271))) aN)) (dC (.int 2147483647)))) (sRet (dLst (aC (dOp oMul (dV 3) (dCB oInt (aC (dOp oGe (dV 3) (dOp oPow (dC (.int 10)) (dC (.int 18)))) aN))) (aC (dOp oMod (dCB oInt (aC (dOp oMul (dV 4) (dV 4)) aN)) (dC (.int 2147483629))) aN)))))))))
def den__law_draw (A : Ads) : WS :=
  (sSeq (sIf (tB (dOp oGt (dOp oIx (dV 0) (dC (.int 0))) (dC (.int 0)))) (sSeq (sSet 2 (dOp oMod (dCB oInt (aC (dOp oIx (dV 0) (dC (.int 0))) aN)) (dV 1))) (sSeq (sPut (dOp oDiv (dOp oIx (dV 0) (dC (.int 0))) (dV 1)) (dV 0) (dC (.int 0))) (sRet (dV 2)))) sNil) (sSeq (sPut (dOp oMod (dCB oInt (aC (dOp oAdd (dOp oMul (dOp oIx (dV 0) (dC (.int 1))) (dC (.int 48271))) (dC (.int 11))) aN)) (dC (.int 2147483647))) (dV 0) (dC (.int 1))) (sRet (dOp oMod (dCB oInt (aC (dOp oDiv (dOp oMod (dOp oMul (dOp oIx (dV 0) (dC (.int 1))) (dOp oIx (dV 0) (dC (.int 1)))) (dC (.int 2147483629))) (dC (.int 16))) aN)) (dV 1)))))
def den__law_names (A : Ads) (sp__law_draw : SpD) : WS :=
  (sSeq (sSet 2 (dC (.str "abcdefghijklmnopqrstuvwxyz"))) (sSeq (sAsg (dTup (aC (dCall sp__law_draw [] (aC (dV 0) (aC (dC (.int 26)) aN))) (aC (dOp oAdd (dC (.int 1)) (dOp oMul (dC (.int 2)) (dCall sp__law_draw [] (aC (dV 0) (aC (dC (.int 6)) aN))))) aN))) (gT (gsC (gN 3) (gsC (gN 4) gsN)))) (sSeq (sSet 5 (dOp oIx (dLst (aC (dC (.str "")) (aC (dC (.str "q")) (aC (dC (.str "abcd")) (aC (dC (.str "abcdefg")) aN))))) (dCall sp__law_draw [] (aC (dV 0) (aC (dC (.int 4)) aN))))) (sRet (dLc (iR1 (aC (dV 1) aN)) (.nm 6) tYesD (dOp oAdd (dOp oIx (dV 2) (dOp oMod (dOp oAdd (dV 3) (dOp oMul (dV 4) (dV 6))) (dC (.int 26)))) (dV 5)) [6])))))
end U

namespace U
open PySem L2 DL
def den_conflicts (A : Ads) : WS :=
  (sSeq (sIf (tOr (tB (dOp oEq (dCB oLen (aC (dV 0) aN)) (dC (.int 1)))) (tOr (tB (dOp oEq (dCB oLen (aC (dV 1) aN)) (dC (.int 1)))) (tB (dOp oNe (dOp oIx (dV 0) (dC (.int 1))) (dOp oIx (dV 1) (dC (.int 1))))))) (sRet (dC (.bl false))) sNil) (sRet (dOr (dOp oNe (dOp oIx (dV 0) (dC (.int 0))) (dOp oIx (dV 1) (dC (.int 0)))) (dOp (oIn true) (dOp oIx (dV 0) (dC (.int 0))) (dTup (aC (dC (.str "read")) (aC (dC (.str "add")) aN)))))))
end U

namespace U
open PySem L2 DL
def den__law_due (A : Ads) : WS :=
  (sSeq (sIf (tOr (tB (dOp oEq (dSl (dV 0) (pS (dC (.int 1))) pN) (dTup aN))) (tOr (tB (dOp oEq (dSl (dV 1) (pS (dC (.int 1))) pN) (dTup aN))) (tB (dOp oNe (dSl (dV 0) (pS (dC (.int 1))) pN) (dSl (dV 1) (pS (dC (.int 1))) pN))))) (sRet (dC (.bl false))) sNil) (sRet (dAnd (dOp oNe (dLst (aC (dOp oIx (dV 0) (dC (.int 0))) (aC (dOp oIx (dV 1) (dC (.int 0))) aN))) (dLst (aC (dC (.str "read")) (aC (dC (.str "read")) aN)))) (dOp oNe (dLst (aC (dOp oIx (dV 0) (dC (.int 0))) (aC (dOp oIx (dV 1) (dC (.int 0))) aN))) (dLst (aC (dC (.str "add")) (aC (dC (.str "add")) aN)))))))
def den_law_l1 (A : Ads) (sp__law_due : SpD) (sp_conflicts : SpD) (sp__law_names : SpD) (sp__law_source : SpD) : WS :=
  (sSeq (sSet 9 (dCall sp_conflicts [] (aC (dV 7) (aC (dV 8) aN)))) (sIf (tOr (tNot (tB (dCB oIsi (aC (dV 9) (aC (dC (.ty "bool")) aN))))) (tOr (tB (dOp oNe (dV 9) (dCall sp__law_due [] (aC (dV 7) (aC (dV 8) aN))))) (tB (dOp oNe (dCall sp_conflicts [] (aC (dV 8) (aC (dV 7) aN))) (dV 9))))) (sRet (dC (.bl false))) sNil))
def den_law_l2 (A : Ads) (sp__law_due : SpD) (sp_conflicts : SpD) (sp__law_names : SpD) (sp__law_source : SpD) : WS :=
  (sFor (iSeq (dV 4)) (gN 8) (den_law_l1 A sp__law_due sp_conflicts sp__law_names sp__law_source))
def den_law_l3 (A : Ads) (sp__law_due : SpD) (sp_conflicts : SpD) (sp__law_names : SpD) (sp__law_source : SpD) : WS :=
  (sSet 4 (dOp oAdd (dV 4) (dLc (iSeq (dSl (dV 3) (pS (dC (.int 2))) pN)) (.nm 6) tYesD (dTup (aC (dV 5) (aC (dV 6) aN))) [6])))
def den_law_l4 (A : Ads) (sp__law_due : SpD) (sp_conflicts : SpD) (sp__law_names : SpD) (sp__law_source : SpD) : WS :=
  (sSet 4 (dOp oAdd (dV 4) (dLc (iSeq (dSl (dV 3) pN (pS (dC (.int 2))))) (.nm 6) tYesD (dTup (aC (dV 5) (aC (dV 6) aN))) [6])))
def den_law_l5 (A : Ads) (sp__law_due : SpD) (sp_conflicts : SpD) (sp__law_names : SpD) (sp__law_source : SpD) : WS :=
  (sSeq (sSet 2 (dCall sp__law_source [] (aC (dV 0) (aC (dV 1) aN)))) (sSeq (sSet 3 (dCall sp__law_names [] (aC (dV 2) (aC (dC (.int 4)) aN)))) (sSeq (sSet 4 (dLst (aC (dTup (aC (dC (.str "own")) aN)) aN))) (sSeq (sFor (iSeq (dLst (aC (dC (.str "read")) (aC (dC (.str "write")) (aC (dC (.str "add")) aN))))) (gN 5) (den_law_l4 A sp__law_due sp_conflicts sp__law_names sp__law_source)) (sSeq (sFor (iSeq (dLst (aC (dC (.str "take")) (aC (dC (.str "give")) aN)))) (gN 5) (den_law_l3 A sp__law_due sp_conflicts sp__law_names sp__law_source)) (sFor (iSeq (dV 4)) (gN 7) (den_law_l2 A sp__law_due sp_conflicts sp__law_names sp__law_source)))))))
def den_law (A : Ads) (sp__law_due : SpD) (sp_conflicts : SpD) (sp__law_names : SpD) (sp__law_source : SpD) : WS :=
  (sSeq (sFor (iR1 (aC (dCB oMax2 (aC (dC (.int 1)) (aC (dCB oMin2 (aC (dCB oLen (aC (dV 0) aN)) (aC (dC (.int 5)) aN))) aN))) aN)) (gN 1) (den_law_l5 A sp__law_due sp_conflicts sp__law_names sp__law_source)) (sRet (dC (.bl true))))
end U

namespace U
open PySem DL
/-! What all laws begin with. -/
def letS (c : Str) : Bool := !(Builtin.Str.occurrences "abcdefghijklmnopqrstuvwxyz" c 0 (Str.length "abcdefghijklmnopqrstuvwxyz") 1).isEmpty
def letD : Dv → Bool | .str c => letS c | _ => false
def nameS (z : Str) : Bool := decide (1 ≤ (z.length : Int)) && decide ((z.length : Int) ≤ 8) && (strD z).all letD
def nameD : Dv → Bool | .str z => nameS z | _ => false
/-- the source's list: two numbers -/
def Src (S : Store) (m : Nat) : Prop := ∃ a b : Int, S[m]? = some (.lst [.int a, .int b]) ∧ 0 ≤ a ∧ 0 ≤ b ∧ b < 2147483647
theorem Src.app {S T : Store} {m : Nat} (h : Src S m) : Src (S ++ T) m := by
  obtain ⟨a, b, h1, h2⟩ := h
  exact ⟨a, b, get_app h1, h2⟩
theorem Src.keep {S S' : Store} {m : Nat} {X : List Nat} (h : Src S m) (k : Kp X S S') (hm : m ∉ X) : Src S' m := by
  obtain ⟨a, b, h1, h2⟩ := h
  exact ⟨a, b, k.2 _ _ hm h1, h2⟩
def sp__law_draw : SpD := fun ds S Q _ => ∃ (m : Nat) (many : Int), ds = [.loc m, .int many] ∧ Src S m ∧ 0 < many ∧ many < 1000 ∧ ∀ S' (r : Int), Kp [m] S S' → Src S' m → 0 ≤ r → r < many → Q (.int r) S'
theorem sp__law_draw_mo : MonoS sp__law_draw := fun _ _ _ _ _ i ⟨m, k, h1, h2, h3, h4, q⟩ => ⟨m, k, h1, h2, h3, h4, fun S' r a b c d => i _ _ (q S' r a b c d)⟩
theorem sp__law_draw_len : LenS sp__law_draw 2 := fun _ _ _ _ ⟨m, k, h1, _⟩ => by rw [h1]; rfl
theorem read__law_draw (A : Ads) (ds : List Dv) (S : Store) (Q : WQ) (E : ExD) (h : sp__law_draw ds S Q E) : den__law_draw A (deFn Q E) (startD ["source", "many", "result"] ds) S := by
  obtain ⟨n, m, rfl, ⟨a, b, hS, ha, hb, hb2⟩, hm, hm2, q⟩ := h
  show den__law_draw A (deFn Q E) [some (.loc n), some (.int m), none] S
  have hu : n < S.length := lt_of_some hS
  refine r_seq (r_if ?_)
  simp only [DL.o_ixF, DL.len_f, DL.strs_any, DL.strs_all, DL.sz0, DL.sz1, DL.sz2, DL.sz3, DL.sz4, Bool.true_or, Bool.false_or, Bool.or_true, Bool.true_and, Bool.false_and, Bool.and_false, DL.o_eqS, DL.o_neS, DL.o_eqI, DL.o_neI, DL.x_seqT, DL.x_seqL, DL.fl_s, DL.fl_i, DL.in_any, DL.eq_ss, DL.eq_ii, DL.cut1, DL.len_t, DL.len_l, DL.tru_t, DL.tru_l, DL.ite_ff, DL.ite_tt, List.all_cons, List.all_nil, List.any_cons, List.any_nil, Bool.and_true, Bool.or_false, Bool.not_true, Bool.not_false, DL.x_iseq, DL.x_lc, DL.x_istr, DL.x_ir1, DL.x_ir2, DL.x_nil, DL.oGt, DL.oLt, DL.oLe, DL.oGe, Cell.lst.injEq, Cell.ins.injEq, Cell.dic.injEq, exists_and_left, exists_eq_left, Dv.int.injEq, List.length_set, DL.x_v, DL.x_c, DL.x_op, DL.x_an, DL.x_ac, DL.x_as, DL.x_tup, DL.x_lst, DL.x_neg, DL.x_cb, DL.x_call, DL.x_tB, DL.x_tTru, DL.x_tNot, DL.x_tAnd, DL.x_tOr, DL.x_tYes, DL.x_not, DL.x_notT, DL.x_and, DL.x_or, DL.x_if, DL.x_ch, DL.x_cl, DL.x_cm, DL.x_sl, DL.x_pN, DL.x_pS, DL.x_pop, DL.x_lm, DL.x_app, DL.x_ext, DL.x_gExt, DL.x_isiT, DL.x_fld, DL.o_addI, DL.o_addS, DL.o_addT, DL.o_addL, DL.o_sub, DL.o_mul, DL.o_mod, DL.o_div, DL.o_pow, DL.o_c, DL.o_ixT, DL.o_ixL, DL.o_ixS, DL.o_inT, DL.o_inL, DL.o_eqT, DL.o_eqL, DL.o_neT, DL.o_neL, DL.b_len, DL.b_list, DL.b_tupl, DL.b_abs, DL.b_intI, DL.b_intB, DL.b_max, DL.b_min, DL.b_isi, DL.b_all, DL.b_any, DL.b_sum, DL.at0, DL.at1, DL.at2, List.map_cons, List.map_nil, List.length_cons, List.length_nil, List.cons_append, List.nil_append, List.append_nil, List.getElem?_cons_zero, List.getElem?_cons_succ, List.set_cons_zero, List.set_cons_succ, Option.some.injEq, exists_eq_left', true_and, and_true, hS]
  by_cases h : 0 < a
  · simp only [h, decide_true]
    refine r_seq (r_set ?_)
    simp only [DL.o_ixF, DL.len_f, DL.strs_any, DL.strs_all, DL.sz0, DL.sz1, DL.sz2, DL.sz3, DL.sz4, Bool.true_or, Bool.false_or, Bool.or_true, Bool.true_and, Bool.false_and, Bool.and_false, DL.o_eqS, DL.o_neS, DL.o_eqI, DL.o_neI, DL.x_seqT, DL.x_seqL, DL.fl_s, DL.fl_i, DL.in_any, DL.eq_ss, DL.eq_ii, DL.cut1, DL.len_t, DL.len_l, DL.tru_t, DL.tru_l, DL.ite_ff, DL.ite_tt, List.all_cons, List.all_nil, List.any_cons, List.any_nil, Bool.and_true, Bool.or_false, Bool.not_true, Bool.not_false, DL.x_iseq, DL.x_lc, DL.x_istr, DL.x_ir1, DL.x_ir2, DL.x_nil, DL.oGt, DL.oLt, DL.oLe, DL.oGe, Cell.lst.injEq, Cell.ins.injEq, Cell.dic.injEq, exists_and_left, exists_eq_left, Dv.int.injEq, List.length_set, DL.x_v, DL.x_c, DL.x_op, DL.x_an, DL.x_ac, DL.x_as, DL.x_tup, DL.x_lst, DL.x_neg, DL.x_cb, DL.x_call, DL.x_tB, DL.x_tTru, DL.x_tNot, DL.x_tAnd, DL.x_tOr, DL.x_tYes, DL.x_not, DL.x_notT, DL.x_and, DL.x_or, DL.x_if, DL.x_ch, DL.x_cl, DL.x_cm, DL.x_sl, DL.x_pN, DL.x_pS, DL.x_pop, DL.x_lm, DL.x_app, DL.x_ext, DL.x_gExt, DL.x_isiT, DL.x_fld, DL.o_addI, DL.o_addS, DL.o_addT, DL.o_addL, DL.o_sub, DL.o_mul, DL.o_mod, DL.o_div, DL.o_pow, DL.o_c, DL.o_ixT, DL.o_ixL, DL.o_ixS, DL.o_inT, DL.o_inL, DL.o_eqT, DL.o_eqL, DL.o_neT, DL.o_neL, DL.b_len, DL.b_list, DL.b_tupl, DL.b_abs, DL.b_intI, DL.b_intB, DL.b_max, DL.b_min, DL.b_isi, DL.b_all, DL.b_any, DL.b_sum, DL.at0, DL.at1, DL.at2, List.map_cons, List.map_nil, List.length_cons, List.length_nil, List.cons_append, List.nil_append, List.append_nil, List.getElem?_cons_zero, List.getElem?_cons_succ, List.set_cons_zero, List.set_cons_succ, Option.some.injEq, exists_eq_left', true_and, and_true, hS]
    refine ⟨hm, r_seq (r_put ?_)⟩
    simp only [DL.o_ixF, DL.len_f, DL.strs_any, DL.strs_all, DL.sz0, DL.sz1, DL.sz2, DL.sz3, DL.sz4, Bool.true_or, Bool.false_or, Bool.or_true, Bool.true_and, Bool.false_and, Bool.and_false, DL.o_eqS, DL.o_neS, DL.o_eqI, DL.o_neI, DL.x_seqT, DL.x_seqL, DL.fl_s, DL.fl_i, DL.in_any, DL.eq_ss, DL.eq_ii, DL.cut1, DL.len_t, DL.len_l, DL.tru_t, DL.tru_l, DL.ite_ff, DL.ite_tt, List.all_cons, List.all_nil, List.any_cons, List.any_nil, Bool.and_true, Bool.or_false, Bool.not_true, Bool.not_false, DL.x_iseq, DL.x_lc, DL.x_istr, DL.x_ir1, DL.x_ir2, DL.x_nil, DL.oGt, DL.oLt, DL.oLe, DL.oGe, Cell.lst.injEq, Cell.ins.injEq, Cell.dic.injEq, exists_and_left, exists_eq_left, Dv.int.injEq, List.length_set, DL.x_v, DL.x_c, DL.x_op, DL.x_an, DL.x_ac, DL.x_as, DL.x_tup, DL.x_lst, DL.x_neg, DL.x_cb, DL.x_call, DL.x_tB, DL.x_tTru, DL.x_tNot, DL.x_tAnd, DL.x_tOr, DL.x_tYes, DL.x_not, DL.x_notT, DL.x_and, DL.x_or, DL.x_if, DL.x_ch, DL.x_cl, DL.x_cm, DL.x_sl, DL.x_pN, DL.x_pS, DL.x_pop, DL.x_lm, DL.x_app, DL.x_ext, DL.x_gExt, DL.x_isiT, DL.x_fld, DL.o_addI, DL.o_addS, DL.o_addT, DL.o_addL, DL.o_sub, DL.o_mul, DL.o_mod, DL.o_div, DL.o_pow, DL.o_c, DL.o_ixT, DL.o_ixL, DL.o_ixS, DL.o_inT, DL.o_inL, DL.o_eqT, DL.o_eqL, DL.o_neT, DL.o_neL, DL.b_len, DL.b_list, DL.b_tupl, DL.b_abs, DL.b_intI, DL.b_intB, DL.b_max, DL.b_min, DL.b_isi, DL.b_all, DL.b_any, DL.b_sum, DL.at0, DL.at1, DL.at2, List.map_cons, List.map_nil, List.length_cons, List.length_nil, List.cons_append, List.nil_append, List.append_nil, List.getElem?_cons_zero, List.getElem?_cons_succ, List.set_cons_zero, List.set_cons_succ, Option.some.injEq, exists_eq_left', true_and, and_true, hS, ix0 (show 0 < 2 by decide)]
    refine ⟨⟨hm, ?_⟩, r_ret ?_⟩
    · show m.natAbs.log2 < 9000
      exact Nat.lt_of_le_of_lt (Nat.log2_le_self _) (by omega)
    · simp only [DL.o_ixF, DL.len_f, DL.strs_any, DL.strs_all, DL.sz0, DL.sz1, DL.sz2, DL.sz3, DL.sz4, Bool.true_or, Bool.false_or, Bool.or_true, Bool.true_and, Bool.false_and, Bool.and_false, DL.o_eqS, DL.o_neS, DL.o_eqI, DL.o_neI, DL.x_seqT, DL.x_seqL, DL.fl_s, DL.fl_i, DL.in_any, DL.eq_ss, DL.eq_ii, DL.cut1, DL.len_t, DL.len_l, DL.tru_t, DL.tru_l, DL.ite_ff, DL.ite_tt, List.all_cons, List.all_nil, List.any_cons, List.any_nil, Bool.and_true, Bool.or_false, Bool.not_true, Bool.not_false, DL.x_iseq, DL.x_lc, DL.x_istr, DL.x_ir1, DL.x_ir2, DL.x_nil, DL.oGt, DL.oLt, DL.oLe, DL.oGe, Cell.lst.injEq, Cell.ins.injEq, Cell.dic.injEq, exists_and_left, exists_eq_left, Dv.int.injEq, List.length_set, DL.x_v, DL.x_c, DL.x_op, DL.x_an, DL.x_ac, DL.x_as, DL.x_tup, DL.x_lst, DL.x_neg, DL.x_cb, DL.x_call, DL.x_tB, DL.x_tTru, DL.x_tNot, DL.x_tAnd, DL.x_tOr, DL.x_tYes, DL.x_not, DL.x_notT, DL.x_and, DL.x_or, DL.x_if, DL.x_ch, DL.x_cl, DL.x_cm, DL.x_sl, DL.x_pN, DL.x_pS, DL.x_pop, DL.x_lm, DL.x_app, DL.x_ext, DL.x_gExt, DL.x_isiT, DL.x_fld, DL.o_addI, DL.o_addS, DL.o_addT, DL.o_addL, DL.o_sub, DL.o_mul, DL.o_mod, DL.o_div, DL.o_pow, DL.o_c, DL.o_ixT, DL.o_ixL, DL.o_ixS, DL.o_inT, DL.o_inL, DL.o_eqT, DL.o_eqL, DL.o_neT, DL.o_neL, DL.b_len, DL.b_list, DL.b_tupl, DL.b_abs, DL.b_intI, DL.b_intB, DL.b_max, DL.b_min, DL.b_isi, DL.b_all, DL.b_any, DL.b_sum, DL.at0, DL.at1, DL.at2, List.map_cons, List.map_nil, List.length_cons, List.length_nil, List.cons_append, List.nil_append, List.append_nil, List.getElem?_cons_zero, List.getElem?_cons_succ, List.set_cons_zero, List.set_cons_succ, Option.some.injEq, exists_eq_left', true_and, and_true]
      refine q _ _ (Kp.set (by simp)) ⟨a / m, b, get_set hS, Int.ediv_nonneg ha (Int.le_of_lt hm), hb, hb2⟩ (Int.emod_nonneg _ (by omega)) (Int.emod_lt_of_pos _ hm)
  · simp only [h, decide_false, DL.o_ixF, DL.len_f, DL.strs_any, DL.strs_all, DL.sz0, DL.sz1, DL.sz2, DL.sz3, DL.sz4, Bool.true_or, Bool.false_or, Bool.or_true, Bool.true_and, Bool.false_and, Bool.and_false, DL.o_eqS, DL.o_neS, DL.o_eqI, DL.o_neI, DL.x_seqT, DL.x_seqL, DL.fl_s, DL.fl_i, DL.in_any, DL.eq_ss, DL.eq_ii, DL.cut1, DL.len_t, DL.len_l, DL.tru_t, DL.tru_l, DL.ite_ff, DL.ite_tt, List.all_cons, List.all_nil, List.any_cons, List.any_nil, Bool.and_true, Bool.or_false, Bool.not_true, Bool.not_false, DL.x_iseq, DL.x_lc, DL.x_istr, DL.x_ir1, DL.x_ir2, DL.x_nil, DL.oGt, DL.oLt, DL.oLe, DL.oGe, Cell.lst.injEq, Cell.ins.injEq, Cell.dic.injEq, exists_and_left, exists_eq_left, Dv.int.injEq, List.length_set, DL.x_v, DL.x_c, DL.x_op, DL.x_an, DL.x_ac, DL.x_as, DL.x_tup, DL.x_lst, DL.x_neg, DL.x_cb, DL.x_call, DL.x_tB, DL.x_tTru, DL.x_tNot, DL.x_tAnd, DL.x_tOr, DL.x_tYes, DL.x_not, DL.x_notT, DL.x_and, DL.x_or, DL.x_if, DL.x_ch, DL.x_cl, DL.x_cm, DL.x_sl, DL.x_pN, DL.x_pS, DL.x_pop, DL.x_lm, DL.x_app, DL.x_ext, DL.x_gExt, DL.x_isiT, DL.x_fld, DL.o_addI, DL.o_addS, DL.o_addT, DL.o_addL, DL.o_sub, DL.o_mul, DL.o_mod, DL.o_div, DL.o_pow, DL.o_c, DL.o_ixT, DL.o_ixL, DL.o_ixS, DL.o_inT, DL.o_inL, DL.o_eqT, DL.o_eqL, DL.o_neT, DL.o_neL, DL.b_len, DL.b_list, DL.b_tupl, DL.b_abs, DL.b_intI, DL.b_intB, DL.b_max, DL.b_min, DL.b_isi, DL.b_all, DL.b_any, DL.b_sum, DL.at0, DL.at1, DL.at2, List.map_cons, List.map_nil, List.length_cons, List.length_nil, List.cons_append, List.nil_append, List.append_nil, List.getElem?_cons_zero, List.getElem?_cons_succ, List.set_cons_zero, List.set_cons_succ, Option.some.injEq, exists_eq_left', true_and, and_true]
    refine r_seq (r_put ?_)
    simp only [DL.o_ixF, DL.len_f, DL.strs_any, DL.strs_all, DL.sz0, DL.sz1, DL.sz2, DL.sz3, DL.sz4, Bool.true_or, Bool.false_or, Bool.or_true, Bool.true_and, Bool.false_and, Bool.and_false, DL.o_eqS, DL.o_neS, DL.o_eqI, DL.o_neI, DL.x_seqT, DL.x_seqL, DL.fl_s, DL.fl_i, DL.in_any, DL.eq_ss, DL.eq_ii, DL.cut1, DL.len_t, DL.len_l, DL.tru_t, DL.tru_l, DL.ite_ff, DL.ite_tt, List.all_cons, List.all_nil, List.any_cons, List.any_nil, Bool.and_true, Bool.or_false, Bool.not_true, Bool.not_false, DL.x_iseq, DL.x_lc, DL.x_istr, DL.x_ir1, DL.x_ir2, DL.x_nil, DL.oGt, DL.oLt, DL.oLe, DL.oGe, Cell.lst.injEq, Cell.ins.injEq, Cell.dic.injEq, exists_and_left, exists_eq_left, Dv.int.injEq, List.length_set, DL.x_v, DL.x_c, DL.x_op, DL.x_an, DL.x_ac, DL.x_as, DL.x_tup, DL.x_lst, DL.x_neg, DL.x_cb, DL.x_call, DL.x_tB, DL.x_tTru, DL.x_tNot, DL.x_tAnd, DL.x_tOr, DL.x_tYes, DL.x_not, DL.x_notT, DL.x_and, DL.x_or, DL.x_if, DL.x_ch, DL.x_cl, DL.x_cm, DL.x_sl, DL.x_pN, DL.x_pS, DL.x_pop, DL.x_lm, DL.x_app, DL.x_ext, DL.x_gExt, DL.x_isiT, DL.x_fld, DL.o_addI, DL.o_addS, DL.o_addT, DL.o_addL, DL.o_sub, DL.o_mul, DL.o_mod, DL.o_div, DL.o_pow, DL.o_c, DL.o_ixT, DL.o_ixL, DL.o_ixS, DL.o_inT, DL.o_inL, DL.o_eqT, DL.o_eqL, DL.o_neT, DL.o_neL, DL.b_len, DL.b_list, DL.b_tupl, DL.b_abs, DL.b_intI, DL.b_intB, DL.b_max, DL.b_min, DL.b_isi, DL.b_all, DL.b_any, DL.b_sum, DL.at0, DL.at1, DL.at2, List.map_cons, List.map_nil, List.length_cons, List.length_nil, List.cons_append, List.nil_append, List.append_nil, List.getElem?_cons_zero, List.getElem?_cons_succ, List.set_cons_zero, List.set_cons_succ, Option.some.injEq, exists_eq_left', true_and, and_true, hS, ix1 (show 1 < 2 by decide), List.getElem?_set_self hu]
    have hc : 0 ≤ (b * 48271 + 11) % 2147483647 := by omega
    have hc2 : (b * 48271 + 11) % 2147483647 < 2147483647 := by omega
    refine ⟨.inl ⟨by omega, by omega⟩, by decide, r_ret ?_⟩
    simp only [DL.o_ixF, DL.len_f, DL.strs_any, DL.strs_all, DL.sz0, DL.sz1, DL.sz2, DL.sz3, DL.sz4, Bool.true_or, Bool.false_or, Bool.or_true, Bool.true_and, Bool.false_and, Bool.and_false, DL.o_eqS, DL.o_neS, DL.o_eqI, DL.o_neI, DL.x_seqT, DL.x_seqL, DL.fl_s, DL.fl_i, DL.in_any, DL.eq_ss, DL.eq_ii, DL.cut1, DL.len_t, DL.len_l, DL.tru_t, DL.tru_l, DL.ite_ff, DL.ite_tt, List.all_cons, List.all_nil, List.any_cons, List.any_nil, Bool.and_true, Bool.or_false, Bool.not_true, Bool.not_false, DL.x_iseq, DL.x_lc, DL.x_istr, DL.x_ir1, DL.x_ir2, DL.x_nil, DL.oGt, DL.oLt, DL.oLe, DL.oGe, Cell.lst.injEq, Cell.ins.injEq, Cell.dic.injEq, exists_and_left, exists_eq_left, Dv.int.injEq, List.length_set, DL.x_v, DL.x_c, DL.x_op, DL.x_an, DL.x_ac, DL.x_as, DL.x_tup, DL.x_lst, DL.x_neg, DL.x_cb, DL.x_call, DL.x_tB, DL.x_tTru, DL.x_tNot, DL.x_tAnd, DL.x_tOr, DL.x_tYes, DL.x_not, DL.x_notT, DL.x_and, DL.x_or, DL.x_if, DL.x_ch, DL.x_cl, DL.x_cm, DL.x_sl, DL.x_pN, DL.x_pS, DL.x_pop, DL.x_lm, DL.x_app, DL.x_ext, DL.x_gExt, DL.x_isiT, DL.x_fld, DL.o_addI, DL.o_addS, DL.o_addT, DL.o_addL, DL.o_sub, DL.o_mul, DL.o_mod, DL.o_div, DL.o_pow, DL.o_c, DL.o_ixT, DL.o_ixL, DL.o_ixS, DL.o_inT, DL.o_inL, DL.o_eqT, DL.o_eqL, DL.o_neT, DL.o_neL, DL.b_len, DL.b_list, DL.b_tupl, DL.b_abs, DL.b_intI, DL.b_intB, DL.b_max, DL.b_min, DL.b_isi, DL.b_all, DL.b_any, DL.b_sum, DL.at0, DL.at1, DL.at2, List.map_cons, List.map_nil, List.length_cons, List.length_nil, List.cons_append, List.nil_append, List.append_nil, List.getElem?_cons_zero, List.getElem?_cons_succ, List.set_cons_zero, List.set_cons_succ, Option.some.injEq, exists_eq_left', true_and, and_true, List.getElem?_set_self hu]
    refine ⟨.inl ⟨by omega, by omega⟩, by decide, ⟨by decide, by decide +kernel⟩, hm, ?_⟩
    exact q _ _ (Kp.set (by simp)) ⟨a, _, get_set hS, ha, hc, hc2⟩ (Int.emod_nonneg _ (by omega)) (Int.emod_lt_of_pos _ hm)
def sp__law_source : SpD := fun ds S Q _ => ∃ (ns : List Int) (k : Nat), ds = [.frl (ns.map .int), .int k] ∧ k ≤ 10 ∧ ns.length ≤ 63 ∧ ∀ T m, S.length ≤ m → Src (S ++ T) m → Q (.loc m) (S ++ T)
theorem sp__law_source_mo : MonoS sp__law_source := fun _ _ _ _ _ i ⟨m, k, h1, h2, h3, q⟩ => ⟨m, k, h1, h2, h3, fun T m a b => i _ _ (q T m a b)⟩
theorem sp__law_source_len : LenS sp__law_source 2 := fun _ _ _ _ ⟨m, k, h1, _⟩ => by rw [h1]; rfl
theorem read__law_source (A : Ads) (ds : List Dv) (S : Store) (Q : WQ) (E : ExD) (h : sp__law_source ds S Q E) : den__law_source A (deFn Q E) (startD ["script", "k", "cell", "size", "mixed"] ds) S := by
  obtain ⟨ns, k, rfl, hk, hn, q⟩ := h
  show den__law_source A (deFn Q E) [some (.frl (ns.map .int)), some (.int k), none, none, none] S
  have hcut : cutD (ns.map Dv.int) none (some 63) = ns.map .int := by
    have h1 : HT.sIx (ns.map Dv.int).length (ns.map Dv.int).length (some ((63 : Nat) : Int)) = min 63 (ns.map Dv.int).length := HT.sIx_nat _ _ _
    have h2 : (ns.map Dv.int).length ≤ 63 := by rw [List.length_map]; exact hn
    unfold cutD
    rw [show ((some (63 : Int)) : Option Int) = some ((63 : Nat) : Int) from rfl, h1]
    show List.take (min 63 _ - 0) (List.drop 0 _) = _
    rw [List.drop_zero, Nat.sub_zero, Nat.min_eq_right h2, List.take_length]
  have big : ∀ c : Int, ∀ T : Store, (∀ T m, S.length ≤ m → Src (S ++ T) m → Q (.loc m) (S ++ T)) → True := fun _ _ _ => True.intro
  -- from the cell on
  have rest : ∀ (c : Int) (T : Store), sSeq (sSet 3 (dCB oAbs (aC (dV 2) aN))) (sSeq (sSet 4 (dOp oAdd (dOp oAdd (dOp oAdd (dOp oMod (dCB oInt (aC (dV 3) aN)) (dC (.int 2147483629))) (dOp oMul (dOp oMul (dC (.int 7919)) (dV 1)) (dV 1))) (dOp oMul (dC (.int 31)) (dV 1))) (dC (.int 17)))) (sSeq (sSet 4 (dOp oMod (dCB oInt (aC (dOp oMul (dV 4) (dC (.int 48271))) aN)) (dC (.int 2147483647)))) (sRet (dLst (aC (dOp oMul (dV 3) (dCB oInt (aC (dOp oGe (dV 3) (dOp oPow (dC (.int 10)) (dC (.int 18)))) aN))) (aC (dOp oMod (dCB oInt (aC (dOp oMul (dV 4) (dV 4)) aN)) (dC (.int 2147483629))) aN)))))) (deFn Q E) [some (.frl (ns.map .int)), some (.int k), some (.int c), none, none] (S ++ T) := fun c T => by
    simp only [DL.o_ixF, DL.len_f, DL.strs_any, DL.strs_all, DL.sz0, DL.sz1, DL.sz2, DL.sz3, DL.sz4, Bool.true_or, Bool.false_or, Bool.or_true, Bool.true_and, Bool.false_and, Bool.and_false, DL.o_eqS, DL.o_neS, DL.o_eqI, DL.o_neI, DL.x_seqT, DL.x_seqL, DL.fl_s, DL.fl_i, DL.in_any, DL.eq_ss, DL.eq_ii, DL.cut1, DL.len_t, DL.len_l, DL.tru_t, DL.tru_l, DL.ite_ff, DL.ite_tt, List.all_cons, List.all_nil, List.any_cons, List.any_nil, Bool.and_true, Bool.or_false, Bool.not_true, Bool.not_false, DL.x_iseq, DL.x_lc, DL.x_istr, DL.x_ir1, DL.x_ir2, DL.x_nil, DL.oGt, DL.oLt, DL.oLe, DL.oGe, Cell.lst.injEq, Cell.ins.injEq, Cell.dic.injEq, exists_and_left, exists_eq_left, Dv.int.injEq, List.length_set, DL.x_v, DL.x_c, DL.x_op, DL.x_an, DL.x_ac, DL.x_as, DL.x_tup, DL.x_lst, DL.x_neg, DL.x_cb, DL.x_call, DL.x_tB, DL.x_tTru, DL.x_tNot, DL.x_tAnd, DL.x_tOr, DL.x_tYes, DL.x_not, DL.x_notT, DL.x_and, DL.x_or, DL.x_if, DL.x_ch, DL.x_cl, DL.x_cm, DL.x_sl, DL.x_pN, DL.x_pS, DL.x_pop, DL.x_lm, DL.x_app, DL.x_ext, DL.x_gExt, DL.x_isiT, DL.x_fld, DL.o_addI, DL.o_addS, DL.o_addT, DL.o_addL, DL.o_sub, DL.o_mul, DL.o_mod, DL.o_div, DL.o_pow, DL.o_c, DL.o_ixT, DL.o_ixL, DL.o_ixS, DL.o_inT, DL.o_inL, DL.o_eqT, DL.o_eqL, DL.o_neT, DL.o_neL, DL.b_len, DL.b_list, DL.b_tupl, DL.b_abs, DL.b_intI, DL.b_intB, DL.b_max, DL.b_min, DL.b_isi, DL.b_all, DL.b_any, DL.b_sum, DL.at0, DL.at1, DL.at2, List.map_cons, List.map_nil, List.length_cons, List.length_nil, List.cons_append, List.nil_append, List.append_nil, List.getElem?_cons_zero, List.getElem?_cons_succ, List.set_cons_zero, List.set_cons_succ, Option.some.injEq, exists_eq_left', true_and, and_true, DL.x_seq, DL.x_set, DL.x_asg, DL.x_par, DL.x_thr, DL.x_put, DL.x_drop, DL.x_ret, DL.x_retN, DL.x_sif, DL.x_gN, DL.x_gT, DL.x_gsN, DL.x_gsC, DL.x_for, DL.x_fldD, DL.x_rz, DL.x_rz2, DL.x_mk, DL.x_prop, DL.x_dc, DL.f_nil, DL.f_cons]
    generalize hz : (if c < 0 then -c else c) = z
    have hz0 : 0 ≤ z := by rw [← hz]; split <;> omega
    have hr0 : 0 ≤ z % 2147483629 := by omega
    have hr1 : z % 2147483629 < 2147483629 := by omega
    have hk0 : 0 ≤ (7919 * (k : Int)) * k := Int.mul_nonneg (by omega) (by omega)
    have hk1 : (7919 * (k : Int)) * k ≤ 791900 := by
      have : (k : Int) * k ≤ 100 := by
        have := Nat.mul_le_mul hk hk
        exact_mod_cast this
      rw [Int.mul_assoc]
      omega
    refine ⟨by decide, .inl ⟨by decide, by decide⟩, .inr ⟨by omega, by omega⟩, .inl ⟨by decide, by decide⟩, .inr ⟨by decide, by decide⟩, by decide, ⟨by decide, by decide, by decide⟩, .inr ?_, ?_⟩
    · split <;> exact ⟨by decide, by decide⟩
    · generalize hw : (z % 2147483629 + 7919 * (k : Int) * k + 31 * k + 17) * 48271 % 2147483647 = w
      have hw0 : 0 ≤ w := by rw [← hw]; exact Int.emod_nonneg _ (by decide)
      have hw1 : w < 2147483647 := by rw [← hw]; exact Int.emod_lt_of_pos _ (by decide)
      refine ⟨.inl ⟨by omega, by omega⟩, by decide, ?_⟩
      rw [List.append_assoc]
      refine q _ _ (by rw [List.length_append]; omega) ⟨_, _, by rw [← List.append_assoc]; exact get_new, ?_, Int.emod_nonneg _ (by decide), ?_⟩
      · split
        · omega
        · omega
      · have := Int.emod_lt_of_pos (w * w) (show (0 : Int) < 2147483629 by decide)
        omega
  unfold den__law_source
  refine r_seq (r_set ?_)
  simp only [DL.o_ixF, DL.len_f, DL.strs_any, DL.strs_all, DL.sz0, DL.sz1, DL.sz2, DL.sz3, DL.sz4, Bool.true_or, Bool.false_or, Bool.or_true, Bool.true_and, Bool.false_and, Bool.and_false, DL.o_eqS, DL.o_neS, DL.o_eqI, DL.o_neI, DL.x_seqT, DL.x_seqL, DL.fl_s, DL.fl_i, DL.in_any, DL.eq_ss, DL.eq_ii, DL.cut1, DL.len_t, DL.len_l, DL.tru_t, DL.tru_l, DL.ite_ff, DL.ite_tt, List.all_cons, List.all_nil, List.any_cons, List.any_nil, Bool.and_true, Bool.or_false, Bool.not_true, Bool.not_false, DL.x_iseq, DL.x_lc, DL.x_istr, DL.x_ir1, DL.x_ir2, DL.x_nil, DL.oGt, DL.oLt, DL.oLe, DL.oGe, Cell.lst.injEq, Cell.ins.injEq, Cell.dic.injEq, exists_and_left, exists_eq_left, Dv.int.injEq, List.length_set, DL.x_v, DL.x_c, DL.x_op, DL.x_an, DL.x_ac, DL.x_as, DL.x_tup, DL.x_lst, DL.x_neg, DL.x_cb, DL.x_call, DL.x_tB, DL.x_tTru, DL.x_tNot, DL.x_tAnd, DL.x_tOr, DL.x_tYes, DL.x_not, DL.x_notT, DL.x_and, DL.x_or, DL.x_if, DL.x_ch, DL.x_cl, DL.x_cm, DL.x_sl, DL.x_pN, DL.x_pS, DL.x_pop, DL.x_lm, DL.x_app, DL.x_ext, DL.x_gExt, DL.x_isiT, DL.x_fld, DL.o_addI, DL.o_addS, DL.o_addT, DL.o_addL, DL.o_sub, DL.o_mul, DL.o_mod, DL.o_div, DL.o_pow, DL.o_c, DL.o_ixT, DL.o_ixL, DL.o_ixS, DL.o_inT, DL.o_inL, DL.o_eqT, DL.o_eqL, DL.o_neT, DL.o_neL, DL.b_len, DL.b_list, DL.b_tupl, DL.b_abs, DL.b_intI, DL.b_intB, DL.b_max, DL.b_min, DL.b_isi, DL.b_all, DL.b_any, DL.b_sum, DL.at0, DL.at1, DL.at2, List.map_cons, List.map_nil, List.length_cons, List.length_nil, List.cons_append, List.nil_append, List.append_nil, List.getElem?_cons_zero, List.getElem?_cons_succ, List.set_cons_zero, List.set_cons_succ, Option.some.injEq, exists_eq_left', true_and, and_true, hcut]
  refine ⟨ns, get_new, .inl ⟨by decide, by decide⟩, r_seq (r_if ?_)⟩
  simp only [DL.o_ixF, DL.len_f, DL.strs_any, DL.strs_all, DL.sz0, DL.sz1, DL.sz2, DL.sz3, DL.sz4, Bool.true_or, Bool.false_or, Bool.or_true, Bool.true_and, Bool.false_and, Bool.and_false, DL.o_eqS, DL.o_neS, DL.o_eqI, DL.o_neI, DL.x_seqT, DL.x_seqL, DL.fl_s, DL.fl_i, DL.in_any, DL.eq_ss, DL.eq_ii, DL.cut1, DL.len_t, DL.len_l, DL.tru_t, DL.tru_l, DL.ite_ff, DL.ite_tt, List.all_cons, List.all_nil, List.any_cons, List.any_nil, Bool.and_true, Bool.or_false, Bool.not_true, Bool.not_false, DL.x_iseq, DL.x_lc, DL.x_istr, DL.x_ir1, DL.x_ir2, DL.x_nil, DL.oGt, DL.oLt, DL.oLe, DL.oGe, Cell.lst.injEq, Cell.ins.injEq, Cell.dic.injEq, exists_and_left, exists_eq_left, Dv.int.injEq, List.length_set, DL.x_v, DL.x_c, DL.x_op, DL.x_an, DL.x_ac, DL.x_as, DL.x_tup, DL.x_lst, DL.x_neg, DL.x_cb, DL.x_call, DL.x_tB, DL.x_tTru, DL.x_tNot, DL.x_tAnd, DL.x_tOr, DL.x_tYes, DL.x_not, DL.x_notT, DL.x_and, DL.x_or, DL.x_if, DL.x_ch, DL.x_cl, DL.x_cm, DL.x_sl, DL.x_pN, DL.x_pS, DL.x_pop, DL.x_lm, DL.x_app, DL.x_ext, DL.x_gExt, DL.x_isiT, DL.x_fld, DL.o_addI, DL.o_addS, DL.o_addT, DL.o_addL, DL.o_sub, DL.o_mul, DL.o_mod, DL.o_div, DL.o_pow, DL.o_c, DL.o_ixT, DL.o_ixL, DL.o_ixS, DL.o_inT, DL.o_inL, DL.o_eqT, DL.o_eqL, DL.o_neT, DL.o_neL, DL.b_len, DL.b_list, DL.b_tupl, DL.b_abs, DL.b_intI, DL.b_intB, DL.b_max, DL.b_min, DL.b_isi, DL.b_all, DL.b_any, DL.b_sum, DL.at0, DL.at1, DL.at2, List.map_cons, List.map_nil, List.length_cons, List.length_nil, List.cons_append, List.nil_append, List.append_nil, List.getElem?_cons_zero, List.getElem?_cons_succ, List.set_cons_zero, List.set_cons_succ, Option.some.injEq, exists_eq_left', true_and, and_true, List.length_map]
  cases c : decide ((k : Int) < (ns.length : Int)) with
  | false =>
    simp only [DL.o_ixF, DL.len_f, DL.strs_any, DL.strs_all, DL.sz0, DL.sz1, DL.sz2, DL.sz3, DL.sz4, Bool.true_or, Bool.false_or, Bool.or_true, Bool.true_and, Bool.false_and, Bool.and_false, DL.o_eqS, DL.o_neS, DL.o_eqI, DL.o_neI, DL.x_seqT, DL.x_seqL, DL.fl_s, DL.fl_i, DL.in_any, DL.eq_ss, DL.eq_ii, DL.cut1, DL.len_t, DL.len_l, DL.tru_t, DL.tru_l, DL.ite_ff, DL.ite_tt, List.all_cons, List.all_nil, List.any_cons, List.any_nil, Bool.and_true, Bool.or_false, Bool.not_true, Bool.not_false, DL.x_iseq, DL.x_lc, DL.x_istr, DL.x_ir1, DL.x_ir2, DL.x_nil, DL.oGt, DL.oLt, DL.oLe, DL.oGe, Cell.lst.injEq, Cell.ins.injEq, Cell.dic.injEq, exists_and_left, exists_eq_left, Dv.int.injEq, List.length_set, DL.x_v, DL.x_c, DL.x_op, DL.x_an, DL.x_ac, DL.x_as, DL.x_tup, DL.x_lst, DL.x_neg, DL.x_cb, DL.x_call, DL.x_tB, DL.x_tTru, DL.x_tNot, DL.x_tAnd, DL.x_tOr, DL.x_tYes, DL.x_not, DL.x_notT, DL.x_and, DL.x_or, DL.x_if, DL.x_ch, DL.x_cl, DL.x_cm, DL.x_sl, DL.x_pN, DL.x_pS, DL.x_pop, DL.x_lm, DL.x_app, DL.x_ext, DL.x_gExt, DL.x_isiT, DL.x_fld, DL.o_addI, DL.o_addS, DL.o_addT, DL.o_addL, DL.o_sub, DL.o_mul, DL.o_mod, DL.o_div, DL.o_pow, DL.o_c, DL.o_ixT, DL.o_ixL, DL.o_ixS, DL.o_inT, DL.o_inL, DL.o_eqT, DL.o_eqL, DL.o_neT, DL.o_neL, DL.b_len, DL.b_list, DL.b_tupl, DL.b_abs, DL.b_intI, DL.b_intB, DL.b_max, DL.b_min, DL.b_isi, DL.b_all, DL.b_any, DL.b_sum, DL.at0, DL.at1, DL.at2, List.map_cons, List.map_nil, List.length_cons, List.length_nil, List.cons_append, List.nil_append, List.append_nil, List.getElem?_cons_zero, List.getElem?_cons_succ, List.set_cons_zero, List.set_cons_succ, Option.some.injEq, exists_eq_left', true_and, and_true]
    exact rest _ _
  | true =>
    have hk2 : k < ns.length := by have := of_decide_eq_true c; omega
    have hat : L2.atI (ns.map Dv.int) (k : Int) = some (.int ns[k]) := by
      rw [atN, List.getElem?_map, List.getElem?_eq_getElem hk2]; rfl
    refine r_set ?_
    simp only [DL.o_ixF, DL.len_f, DL.strs_any, DL.strs_all, DL.sz0, DL.sz1, DL.sz2, DL.sz3, DL.sz4, Bool.true_or, Bool.false_or, Bool.or_true, Bool.true_and, Bool.false_and, Bool.and_false, DL.o_eqS, DL.o_neS, DL.o_eqI, DL.o_neI, DL.x_seqT, DL.x_seqL, DL.fl_s, DL.fl_i, DL.in_any, DL.eq_ss, DL.eq_ii, DL.cut1, DL.len_t, DL.len_l, DL.tru_t, DL.tru_l, DL.ite_ff, DL.ite_tt, List.all_cons, List.all_nil, List.any_cons, List.any_nil, Bool.and_true, Bool.or_false, Bool.not_true, Bool.not_false, DL.x_iseq, DL.x_lc, DL.x_istr, DL.x_ir1, DL.x_ir2, DL.x_nil, DL.oGt, DL.oLt, DL.oLe, DL.oGe, Cell.lst.injEq, Cell.ins.injEq, Cell.dic.injEq, exists_and_left, exists_eq_left, Dv.int.injEq, List.length_set, DL.x_v, DL.x_c, DL.x_op, DL.x_an, DL.x_ac, DL.x_as, DL.x_tup, DL.x_lst, DL.x_neg, DL.x_cb, DL.x_call, DL.x_tB, DL.x_tTru, DL.x_tNot, DL.x_tAnd, DL.x_tOr, DL.x_tYes, DL.x_not, DL.x_notT, DL.x_and, DL.x_or, DL.x_if, DL.x_ch, DL.x_cl, DL.x_cm, DL.x_sl, DL.x_pN, DL.x_pS, DL.x_pop, DL.x_lm, DL.x_app, DL.x_ext, DL.x_gExt, DL.x_isiT, DL.x_fld, DL.o_addI, DL.o_addS, DL.o_addT, DL.o_addL, DL.o_sub, DL.o_mul, DL.o_mod, DL.o_div, DL.o_pow, DL.o_c, DL.o_ixT, DL.o_ixL, DL.o_ixS, DL.o_inT, DL.o_inL, DL.o_eqT, DL.o_eqL, DL.o_neT, DL.o_neL, DL.b_len, DL.b_list, DL.b_tupl, DL.b_abs, DL.b_intI, DL.b_intB, DL.b_max, DL.b_min, DL.b_isi, DL.b_all, DL.b_any, DL.b_sum, DL.at0, DL.at1, DL.at2, List.map_cons, List.map_nil, List.length_cons, List.length_nil, List.cons_append, List.nil_append, List.append_nil, List.getElem?_cons_zero, List.getElem?_cons_succ, List.set_cons_zero, List.set_cons_succ, Option.some.injEq, exists_eq_left', true_and, and_true, hat]
    exact rest _ _
/-! ### names -/
def letters : List Nat := [97, 98, 99, 100, 101, 102, 103, 104, 105, 106, 107, 108, 109, 110, 111, 112, 113, 114, 115, 116, 117, 118, 119, 120, 121, 122]
def tails : List Str := ["", "q", "abcd", "abcdefg"]
def signs : Str := "abcdefghijklmnopqrstuvwxyz"
def nameAt (o s t k : Nat) : Str := (⟨#[signs.cps.toList.getD ((o + s * k) % 26) 97]⟩ : Str) ++ tails.getD t ""
def namesOf (o s t n : Nat) : List Str := (List.range n).map (nameAt o s t)
def okC (z : Str) : Bool := z.cps.toList.all (· < 0x110000)
theorem strOk_of {z : Str} (h : okC z = true) : PyData.strOk z = true := by
  unfold okC at h
  rw [Array.all_toList] at h
  exact h
def oneN (i t : Nat) : Str := (⟨#[signs.cps.toList.getD i 97]⟩ : Str) ++ tails.getD t ""
theorem one_good : ∀ i < 26, ∀ t < 4, (nameS (oneN i t) && decide ((oneN i t).length ≤ 8) && okC (oneN i t)) = true := by decide +kernel
theorem idx_ne : ∀ s < 6, ∀ o < 26, ∀ k < 10, ∀ j < k, ((o + (1 + 2 * s) * j) % 26 == (o + (1 + 2 * s) * k) % 26) = false := by decide +kernel
theorem sign_inj : ∀ i < 26, ∀ j < 26, signs.cps.toList.getD i 97 = signs.cps.toList.getD j 97 → i = j := by decide +kernel
theorem name_one (o s t k : Nat) : nameAt o s t k = oneN ((o + s * k) % 26) t := rfl
theorem one_inj {i j t : Nat} (hi : i < 26) (hj : j < 26) (h : oneN i t = oneN j t) : i = j := by
  refine sign_inj i hi j hj ?_
  have h1 : (oneN i t).cps.toList.head? = (oneN j t).cps.toList.head? := by rw [h]
  have e : ∀ i, (oneN i t).cps.toList = signs.cps.toList.getD i 97 :: (tails.getD t "").cps.toList := fun i => by
    show (#[signs.cps.toList.getD i 97] ++ (tails.getD t "").cps).toList = _
    rw [Array.toList_append]
    rfl
  rw [e, e] at h1
  exact Option.some.inj h1
structure Nms (xs : List Str) : Prop where
  nd : xs.Nodup
  ok : ∀ z ∈ xs, nameS z = true ∧ z.length ≤ 8
  so : ∀ z ∈ xs, PyData.strOk z = true
theorem nms_of {o s t c : Nat} (ho : o < 26) (hs : s < 6) (ht : t < 4) (hc : c ≤ 10) : Nms (namesOf o (1 + 2 * s) t c) := by
  have g : ∀ z ∈ namesOf o (1 + 2 * s) t c, ∃ i, i < 26 ∧ z = oneN i t := fun z hz => by
    unfold namesOf at hz
    obtain ⟨k, hk, e⟩ := List.mem_map.mp hz
    exact ⟨_, Nat.mod_lt _ (by decide), e.symm⟩
  have g2 : ∀ z ∈ namesOf o (1 + 2 * s) t c, (nameS z = true ∧ z.length ≤ 8) ∧ okC z = true := fun z hz => by
    obtain ⟨i, hi, rfl⟩ := g z hz
    have := one_good i hi t ht
    rw [Bool.and_eq_true, Bool.and_eq_true, decide_eq_true_eq] at this
    exact this
  refine ⟨?_, fun z hz => (g2 z hz).1, fun z hz => strOk_of (g2 z hz).2⟩
  unfold namesOf
  show List.Pairwise _ _
  rw [List.pairwise_map]
  refine List.Pairwise.imp_of_mem (fun {a b} ha hb hlt => ?_) (List.pairwise_lt_range (n := c))
  have hb' : b < c := List.mem_range.mp hb
  intro e
  rw [name_one, name_one] at e
  have e2 := one_inj (Nat.mod_lt _ (by decide)) (Nat.mod_lt _ (by decide)) e
  have := idx_ne s hs o ho b (by omega) a hlt
  rw [e2] at this
  simp at this
def sp__law_names : SpD := fun ds S Q _ => ∃ (m c : Nat), ds = [.loc m, .int c] ∧ Src S m ∧ c ≤ 10 ∧ ∀ S' l xs, Kp [m] S S' → Src S' m → S.length ≤ l → S'[l]? = some (.lst (xs.map .str)) → xs.length = c → Nms xs → Q (.loc l) S'
theorem sp__law_names_mo : MonoS sp__law_names := fun _ _ _ _ _ i ⟨m, k, h1, h2, h3, q⟩ => ⟨m, k, h1, h2, h3, fun S' l xs a b c d e f => i _ _ (q S' l xs a b c d e f)⟩
theorem sp__law_names_len : LenS sp__law_names 2 := fun _ _ _ _ ⟨m, k, h1, _⟩ => by rw [h1]; rfl
theorem sign_at : ∀ i < 26, ∃ c, signs.cps.toList[i]? = some c ∧ signs.cps.toList.getD i 97 = c := fun i hi => by
  have hl : signs.cps.toList.length = 26 := by decide +kernel
  exact ⟨signs.cps.toList[i]'(by omega), List.getElem?_eq_getElem (by omega), by rw [List.getD_eq_getElem?_getD, List.getElem?_eq_getElem (by omega)]; rfl⟩
theorem tail_len : ∀ t < 4, (tails.getD t "").length ≤ 7 := by decide +kernel
theorem append_len (a b : Str) : (a ++ b).length = a.length + b.length := by
  show (a.cps ++ b.cps).size = a.cps.size + b.cps.size
  exact Array.size_append
theorem read__law_names (A : Ads) (ds : List Dv) (S : Store) (Q : WQ) (E : ExD) (h : sp__law_names ds S Q E) : den__law_names A sp__law_draw (deFn Q E) (startD ["source", "count", "signs", "origin", "step", "tail", "k"] ds) S := by
  obtain ⟨m, c, rfl, hS, hc, q⟩ := h
  show den__law_names A sp__law_draw (deFn Q E) [some (.loc m), some (.int c), none, none, none, none, none] S
  unfold den__law_names
  simp only [DL.o_ixF, DL.len_f, DL.strs_any, DL.strs_all, DL.sz0, DL.sz1, DL.sz2, DL.sz3, DL.sz4, Bool.true_or, Bool.false_or, Bool.or_true, Bool.true_and, Bool.false_and, Bool.and_false, DL.o_eqS, DL.o_neS, DL.o_eqI, DL.o_neI, DL.x_seqT, DL.x_seqL, DL.fl_s, DL.fl_i, DL.in_any, DL.eq_ss, DL.eq_ii, DL.cut1, DL.len_t, DL.len_l, DL.tru_t, DL.tru_l, DL.ite_ff, DL.ite_tt, List.all_cons, List.all_nil, List.any_cons, List.any_nil, Bool.and_true, Bool.or_false, Bool.not_true, Bool.not_false, DL.x_iseq, DL.x_lc, DL.x_istr, DL.x_ir1, DL.x_ir2, DL.x_nil, DL.oGt, DL.oLt, DL.oLe, DL.oGe, Cell.lst.injEq, Cell.ins.injEq, Cell.dic.injEq, exists_and_left, exists_eq_left, Dv.int.injEq, List.length_set, DL.x_v, DL.x_c, DL.x_op, DL.x_an, DL.x_ac, DL.x_as, DL.x_tup, DL.x_lst, DL.x_neg, DL.x_cb, DL.x_call, DL.x_tB, DL.x_tTru, DL.x_tNot, DL.x_tAnd, DL.x_tOr, DL.x_tYes, DL.x_not, DL.x_notT, DL.x_and, DL.x_or, DL.x_if, DL.x_ch, DL.x_cl, DL.x_cm, DL.x_sl, DL.x_pN, DL.x_pS, DL.x_pop, DL.x_lm, DL.x_app, DL.x_ext, DL.x_gExt, DL.x_isiT, DL.x_fld, DL.o_addI, DL.o_addS, DL.o_addT, DL.o_addL, DL.o_sub, DL.o_mul, DL.o_mod, DL.o_div, DL.o_pow, DL.o_c, DL.o_ixT, DL.o_ixL, DL.o_ixS, DL.o_inT, DL.o_inL, DL.o_eqT, DL.o_eqL, DL.o_neT, DL.o_neL, DL.b_len, DL.b_list, DL.b_tupl, DL.b_abs, DL.b_intI, DL.b_intB, DL.b_max, DL.b_min, DL.b_isi, DL.b_all, DL.b_any, DL.b_sum, DL.at0, DL.at1, DL.at2, List.map_cons, List.map_nil, List.length_cons, List.length_nil, List.cons_append, List.nil_append, List.append_nil, List.getElem?_cons_zero, List.getElem?_cons_succ, List.set_cons_zero, List.set_cons_succ, Option.some.injEq, exists_eq_left', true_and, and_true, DL.x_seq, DL.x_set, DL.x_asg, DL.x_par, DL.x_thr, DL.x_put, DL.x_drop, DL.x_ret, DL.x_retN, DL.x_sif, DL.x_gN, DL.x_gT, DL.x_gsN, DL.x_gsC, DL.x_for, DL.x_fldD, DL.x_rz, DL.x_rz2, DL.x_mk, DL.x_prop, DL.x_dc, DL.f_nil, DL.f_cons]
  refine ⟨m, 26, rfl, hS, by decide, by decide, fun S1 o k1 s1 o0 o1 => ?_⟩
  refine ⟨m, 6, rfl, s1, by decide, by decide, fun S2 s k2 s2 u0 u1 => ?_⟩
  simp only [DL.o_ixF, DL.len_f, DL.strs_any, DL.strs_all, DL.sz0, DL.sz1, DL.sz2, DL.sz3, DL.sz4, Bool.true_or, Bool.false_or, Bool.or_true, Bool.true_and, Bool.false_and, Bool.and_false, DL.o_eqS, DL.o_neS, DL.o_eqI, DL.o_neI, DL.x_seqT, DL.x_seqL, DL.fl_s, DL.fl_i, DL.in_any, DL.eq_ss, DL.eq_ii, DL.cut1, DL.len_t, DL.len_l, DL.tru_t, DL.tru_l, DL.ite_ff, DL.ite_tt, List.all_cons, List.all_nil, List.any_cons, List.any_nil, Bool.and_true, Bool.or_false, Bool.not_true, Bool.not_false, DL.x_iseq, DL.x_lc, DL.x_istr, DL.x_ir1, DL.x_ir2, DL.x_nil, DL.oGt, DL.oLt, DL.oLe, DL.oGe, Cell.lst.injEq, Cell.ins.injEq, Cell.dic.injEq, exists_and_left, exists_eq_left, Dv.int.injEq, List.length_set, DL.x_v, DL.x_c, DL.x_op, DL.x_an, DL.x_ac, DL.x_as, DL.x_tup, DL.x_lst, DL.x_neg, DL.x_cb, DL.x_call, DL.x_tB, DL.x_tTru, DL.x_tNot, DL.x_tAnd, DL.x_tOr, DL.x_tYes, DL.x_not, DL.x_notT, DL.x_and, DL.x_or, DL.x_if, DL.x_ch, DL.x_cl, DL.x_cm, DL.x_sl, DL.x_pN, DL.x_pS, DL.x_pop, DL.x_lm, DL.x_app, DL.x_ext, DL.x_gExt, DL.x_isiT, DL.x_fld, DL.o_addI, DL.o_addS, DL.o_addT, DL.o_addL, DL.o_sub, DL.o_mul, DL.o_mod, DL.o_div, DL.o_pow, DL.o_c, DL.o_ixT, DL.o_ixL, DL.o_ixS, DL.o_inT, DL.o_inL, DL.o_eqT, DL.o_eqL, DL.o_neT, DL.o_neL, DL.b_len, DL.b_list, DL.b_tupl, DL.b_abs, DL.b_intI, DL.b_intB, DL.b_max, DL.b_min, DL.b_isi, DL.b_all, DL.b_any, DL.b_sum, DL.at0, DL.at1, DL.at2, List.map_cons, List.map_nil, List.length_cons, List.length_nil, List.cons_append, List.nil_append, List.append_nil, List.getElem?_cons_zero, List.getElem?_cons_succ, List.set_cons_zero, List.set_cons_succ, Option.some.injEq, exists_eq_left', true_and, and_true, DL.x_seq, DL.x_set, DL.x_asg, DL.x_par, DL.x_thr, DL.x_put, DL.x_drop, DL.x_ret, DL.x_retN, DL.x_sif, DL.x_gN, DL.x_gT, DL.x_gsN, DL.x_gsC, DL.x_for, DL.x_fldD, DL.x_rz, DL.x_rz2, DL.x_mk, DL.x_prop, DL.x_dc, DL.f_nil, DL.f_cons]
  refine ⟨.inl ⟨by decide, by decide⟩, ?_⟩
  refine ⟨m, 4, rfl, s2.app, by decide, by decide, fun S3 t k3 s3 t0 t1 => ?_⟩
  have e3 := k3.2 _ _ (fun z => by rw [List.mem_singleton] at z; obtain ⟨a, b, z2, _⟩ := s2; have := lt_of_some z2; omega) (get_new (S := S2) (c := .lst [.str "", .str "q", .str "abcd", .str "abcdefg"]))
  obtain ⟨oN, rfl⟩ := Int.eq_ofNat_of_zero_le o0
  obtain ⟨sN, rfl⟩ := Int.eq_ofNat_of_zero_le u0
  obtain ⟨tN, rfl⟩ := Int.eq_ofNat_of_zero_le t0
  have ht : tN < 4 := by omega
  have hat : L2.atI [Dv.str "", .str "q", .str "abcd", .str "abcdefg"] (tN : Int) = some (.str (tails.getD tN "")) := by
    rw [atN]
    match tN, ht with
    | 0, _ => rfl
    | 1, _ => rfl
    | 2, _ => rfl
    | 3, _ => rfl
  simp only [DL.o_ixF, DL.len_f, DL.strs_any, DL.strs_all, DL.sz0, DL.sz1, DL.sz2, DL.sz3, DL.sz4, Bool.true_or, Bool.false_or, Bool.or_true, Bool.true_and, Bool.false_and, Bool.and_false, DL.o_eqS, DL.o_neS, DL.o_eqI, DL.o_neI, DL.x_seqT, DL.x_seqL, DL.fl_s, DL.fl_i, DL.in_any, DL.eq_ss, DL.eq_ii, DL.cut1, DL.len_t, DL.len_l, DL.tru_t, DL.tru_l, DL.ite_ff, DL.ite_tt, List.all_cons, List.all_nil, List.any_cons, List.any_nil, Bool.and_true, Bool.or_false, Bool.not_true, Bool.not_false, DL.x_iseq, DL.x_lc, DL.x_istr, DL.x_ir1, DL.x_ir2, DL.x_nil, DL.oGt, DL.oLt, DL.oLe, DL.oGe, Cell.lst.injEq, Cell.ins.injEq, Cell.dic.injEq, exists_and_left, exists_eq_left, Dv.int.injEq, List.length_set, DL.x_v, DL.x_c, DL.x_op, DL.x_an, DL.x_ac, DL.x_as, DL.x_tup, DL.x_lst, DL.x_neg, DL.x_cb, DL.x_call, DL.x_tB, DL.x_tTru, DL.x_tNot, DL.x_tAnd, DL.x_tOr, DL.x_tYes, DL.x_not, DL.x_notT, DL.x_and, DL.x_or, DL.x_if, DL.x_ch, DL.x_cl, DL.x_cm, DL.x_sl, DL.x_pN, DL.x_pS, DL.x_pop, DL.x_lm, DL.x_app, DL.x_ext, DL.x_gExt, DL.x_isiT, DL.x_fld, DL.o_addI, DL.o_addS, DL.o_addT, DL.o_addL, DL.o_sub, DL.o_mul, DL.o_mod, DL.o_div, DL.o_pow, DL.o_c, DL.o_ixT, DL.o_ixL, DL.o_ixS, DL.o_inT, DL.o_inL, DL.o_eqT, DL.o_eqL, DL.o_neT, DL.o_neL, DL.b_len, DL.b_list, DL.b_tupl, DL.b_abs, DL.b_intI, DL.b_intB, DL.b_max, DL.b_min, DL.b_isi, DL.b_all, DL.b_any, DL.b_sum, DL.at0, DL.at1, DL.at2, List.map_cons, List.map_nil, List.length_cons, List.length_nil, List.cons_append, List.nil_append, List.append_nil, List.getElem?_cons_zero, List.getElem?_cons_succ, List.set_cons_zero, List.set_cons_succ, Option.some.injEq, exists_eq_left', true_and, and_true, DL.x_seq, DL.x_set, DL.x_asg, DL.x_par, DL.x_thr, DL.x_put, DL.x_drop, DL.x_ret, DL.x_retN, DL.x_sif, DL.x_gN, DL.x_gT, DL.x_gsN, DL.x_gsC, DL.x_for, DL.x_fldD, DL.x_rz, DL.x_rz2, DL.x_mk, DL.x_prop, DL.x_dc, DL.f_nil, DL.f_cons, e3]
  refine ⟨.str (tails.getD tN ""), hat, ?_⟩
  refine ⟨⟨by omega, by omega⟩, ?_⟩
  have er : rngD 0 (Int.toNat (c : Int)) = (List.range c).map fun (k : Nat) => Dv.int (0 + (k : Int)) := by unfold rngD; rw [Int.toNat_natCast]
  rw [er]
  have kS : Kp [m] S S3 := ((k1.trans k2).trans Kp.app).trans k3
  refine lcm_run (fun k : Nat => Dv.int (0 + (k : Int))) (fun k => .str (nameAt oN (1 + 2 * sN) tN k)) (fun _ => True.intro) (List.range c) (by rw [List.length_range]; exact Nat.le_trans (by omega : c ≤ 10) (by decide)) (fun k hk T R h2 => ?_) fun T h2 => ?_
  · have hk3 : k < c := List.mem_range.mp hk
    simp only [TgD.put, wipeD, DL.o_ixF, DL.len_f, DL.strs_any, DL.strs_all, DL.sz0, DL.sz1, DL.sz2, DL.sz3, DL.sz4, Bool.true_or, Bool.false_or, Bool.or_true, Bool.true_and, Bool.false_and, Bool.and_false, DL.o_eqS, DL.o_neS, DL.o_eqI, DL.o_neI, DL.x_seqT, DL.x_seqL, DL.fl_s, DL.fl_i, DL.in_any, DL.eq_ss, DL.eq_ii, DL.cut1, DL.len_t, DL.len_l, DL.tru_t, DL.tru_l, DL.ite_ff, DL.ite_tt, List.all_cons, List.all_nil, List.any_cons, List.any_nil, Bool.and_true, Bool.or_false, Bool.not_true, Bool.not_false, DL.x_iseq, DL.x_lc, DL.x_istr, DL.x_ir1, DL.x_ir2, DL.x_nil, DL.oGt, DL.oLt, DL.oLe, DL.oGe, Cell.lst.injEq, Cell.ins.injEq, Cell.dic.injEq, exists_and_left, exists_eq_left, Dv.int.injEq, List.length_set, DL.x_v, DL.x_c, DL.x_op, DL.x_an, DL.x_ac, DL.x_as, DL.x_tup, DL.x_lst, DL.x_neg, DL.x_cb, DL.x_call, DL.x_tB, DL.x_tTru, DL.x_tNot, DL.x_tAnd, DL.x_tOr, DL.x_tYes, DL.x_not, DL.x_notT, DL.x_and, DL.x_or, DL.x_if, DL.x_ch, DL.x_cl, DL.x_cm, DL.x_sl, DL.x_pN, DL.x_pS, DL.x_pop, DL.x_lm, DL.x_app, DL.x_ext, DL.x_gExt, DL.x_isiT, DL.x_fld, DL.o_addI, DL.o_addS, DL.o_addT, DL.o_addL, DL.o_sub, DL.o_mul, DL.o_mod, DL.o_div, DL.o_pow, DL.o_c, DL.o_ixT, DL.o_ixL, DL.o_ixS, DL.o_inT, DL.o_inL, DL.o_eqT, DL.o_eqL, DL.o_neT, DL.o_neL, DL.b_len, DL.b_list, DL.b_tupl, DL.b_abs, DL.b_intI, DL.b_intB, DL.b_max, DL.b_min, DL.b_isi, DL.b_all, DL.b_any, DL.b_sum, DL.at0, DL.at1, DL.at2, List.map_cons, List.map_nil, List.length_cons, List.length_nil, List.cons_append, List.nil_append, List.append_nil, List.getElem?_cons_zero, List.getElem?_cons_succ, List.set_cons_zero, List.set_cons_succ, Option.some.injEq, exists_eq_left', true_and, and_true, DL.x_seq, DL.x_set, DL.x_asg, DL.x_par, DL.x_thr, DL.x_put, DL.x_drop, DL.x_ret, DL.x_retN, DL.x_sif, DL.x_gN, DL.x_gT, DL.x_gsN, DL.x_gsC, DL.x_for, DL.x_fldD, DL.x_rz, DL.x_rz2, DL.x_mk, DL.x_prop, DL.x_dc, DL.f_nil, DL.f_cons]
    refine ⟨.inr ⟨by omega, by omega⟩, by decide, by decide +kernel, ?_⟩
    have ei : ((oN : Int) + (1 + 2 * (sN : Int)) * (0 + (k : Int))) % 26 = (((oN + (1 + 2 * sN) * k) % 26 : Nat) : Int) := by
      rw [Int.zero_add]
      push_cast
      rfl
    have hi : (oN + (1 + 2 * sN) * k) % 26 < 26 := Nat.mod_lt _ (by decide)
    obtain ⟨cc, c1, c2⟩ := sign_at _ hi
    have hx : L2.atI (Str.cps "abcdefghijklmnopqrstuvwxyz").toList (((oN : Int) + (1 + 2 * (sN : Int)) * (0 + (k : Int))) % 26) = some cc := by
      rw [ei, atN]
      exact c1
    refine ⟨cc, hx, ?_⟩
    have htl := tail_len tN ht
    refine ⟨Nat.le_trans (show 1 + (tails.getD tN "").length ≤ 8 by omega) (by decide), ?_⟩
    have := h2 []
    rw [List.append_nil] at this
    unfold nameAt at this
    rw [c2] at this
    exact this
  · have hx : (List.range c).map (fun k => Dv.str (nameAt oN (1 + 2 * sN) tN k)) = (namesOf oN (1 + 2 * sN) tN c).map .str := by
      unfold namesOf
      rw [List.map_map]
      rfl
    rw [hx] at h2
    exact q _ _ _ (kS.trans Kp.app) s3.app kS.1 h2 (by unfold namesOf; rw [List.length_map, List.length_range]) (nms_of (by omega) (by omega) ht hc)
/-! ### the law -/
def sp_law : SpD := fun ds S Q _ => ∃ ns : List Int, ds = [.frl (ns.map .int)] ∧ ns.length ≤ 63 ∧ ∀ S', Q (.bl true) S'
theorem sp_law_mo : MonoS sp_law := fun _ _ _ _ _ i ⟨ns, h1, h2, q⟩ => ⟨ns, h1, h2, fun S' => i _ _ (q S')⟩
theorem sp_law_len : LenS sp_law 1 := fun _ _ _ _ ⟨ns, h1, _⟩ => by rw [h1]; rfl
theorem ints_rv {K : PySem.W.Frag} {io : List Addr} {H : L2.Hp} : ∀ ns : List Int, RVs K io H (ns.map L2.V.int) (ns.map Dv.int)
  | [] => .nil
  | n :: ns => .cons .int (ints_rv ns)
theorem law_up {K : PySem.W.Frag} {H : L2.Hp} {a : Addr} {ns : List Int} (hl : ns.length ≤ 63) (hO : L2.Only H) (hS : L2.SqL K H a (ns.map L2.V.int)) : upSp K sp_law [.ref a] H (fun v _ => v = .bl true) fun _ _ _ => False := by
  have sf : SqF K H a (ns.map L2.V.int) := by
    rcases hS with (h | h) | h
    · rcases hO a with z | ⟨o, xs, z⟩
      · rw [z] at h; cases h
      · rw [z] at h; cases h
    · exact .inl h
    · exact .inr h
  refine ⟨[], [.frl (ns.map .int)], [], fun _ _ _ => False, ⟨rfl, List.nodup_nil, fun n b c e _ => by cases e⟩, .cons (.frl sf (ints_rv ns)) .nil, fun _ _ _ _ _ _ _ z => z.elim, ns, rfl, hl, fun S' v io' H' g r rv => ?_⟩
  cases rv
  rfl
/-- how many turns a law takes: max(1, min(len(script), m)) -/
theorem turns (m : Nat) (hm : 1 ≤ m) (L : Nat) : ∃ c : Nat, c ≤ m ∧ (if (if (m : Int) < (L : Int) then (m : Int) else L) > 1 then (if (m : Int) < (L : Int) then (m : Int) else L) else 1) = (c : Int) := by
  by_cases h5 : (m : Int) < (L : Int)
  · rw [if_pos h5]
    by_cases h1 : (m : Int) > 1
    · rw [if_pos h1]; exact ⟨m, Nat.le_refl _, rfl⟩
    · rw [if_neg h1]; exact ⟨1, hm, rfl⟩
  · rw [if_neg h5]
    by_cases h1 : (L : Int) > 1
    · rw [if_pos h1]; exact ⟨L, by omega, rfl⟩
    · rw [if_neg h1]; exact ⟨1, hm, rfl⟩
end U

namespace U
open PySem DL
/-! ### conflicts -/
/-- a step: its word, its object -/
abbrev Stp := Str × Option Str
def dvS : Stp → Dv
  | (w, none) => .tup [.str w]
  | (w, some o) => .tup [.str w, .str o]
def conf : Stp → Stp → Bool
  | (w, some a), (v, some b) => (a == b) && (!(w == v) || (!(("read" : Str) == w) && !(("add" : Str) == w)))
  | _, _ => false
def sp_conflicts : SpD := fun ds S Q _ => ∃ a b : Stp, ds = [dvS a, dvS b] ∧ ∀ T, Q (.bl (conf a b)) (S ++ T)
theorem sp_conflicts_mo : MonoS sp_conflicts := fun _ _ _ _ _ i ⟨a, b, h1, q⟩ => ⟨a, b, h1, fun T => i _ _ (q T)⟩
theorem sp_conflicts_len : LenS sp_conflicts 2 := fun _ _ _ _ ⟨a, b, h1, _⟩ => by rw [h1]; rfl
theorem read_conflicts (A : Ads) (ds : List Dv) (S : Store) (Q : WQ) (E : ExD) (h : sp_conflicts ds S Q E) : den_conflicts A (deFn Q E) (startD ["one", "other"] ds) S := by
  obtain ⟨⟨w, a⟩, ⟨v, b⟩, rfl, q⟩ := h
  have q0 : Q (.bl (conf (w, a) (v, b))) S := by simpa using q []
  show den_conflicts A (deFn Q E) [some (dvS (w, a)), some (dvS (v, b))] S
  unfold den_conflicts
  cases a with
  | none => simp only [DL.o_ixF, DL.len_f, DL.strs_any, DL.strs_all, DL.sz0, DL.sz1, DL.sz2, DL.sz3, DL.sz4, Bool.true_or, Bool.false_or, Bool.or_true, Bool.true_and, Bool.false_and, Bool.and_false, DL.o_eqS, DL.o_neS, DL.o_eqI, DL.o_neI, DL.x_seqT, DL.x_seqL, DL.fl_s, DL.fl_i, DL.in_any, DL.eq_ss, DL.eq_ii, DL.cut1, DL.len_t, DL.len_l, DL.tru_t, DL.tru_l, DL.ite_ff, DL.ite_tt, List.all_cons, List.all_nil, List.any_cons, List.any_nil, Bool.and_true, Bool.or_false, Bool.not_true, Bool.not_false, DL.x_iseq, DL.x_lc, DL.x_istr, DL.x_ir1, DL.x_ir2, DL.x_nil, DL.oGt, DL.oLt, DL.oLe, DL.oGe, Cell.lst.injEq, Cell.ins.injEq, Cell.dic.injEq, exists_and_left, exists_eq_left, Dv.int.injEq, List.length_set, DL.x_v, DL.x_c, DL.x_op, DL.x_an, DL.x_ac, DL.x_as, DL.x_tup, DL.x_lst, DL.x_neg, DL.x_cb, DL.x_call, DL.x_tB, DL.x_tTru, DL.x_tNot, DL.x_tAnd, DL.x_tOr, DL.x_tYes, DL.x_not, DL.x_notT, DL.x_and, DL.x_or, DL.x_if, DL.x_ch, DL.x_cl, DL.x_cm, DL.x_sl, DL.x_pN, DL.x_pS, DL.x_pop, DL.x_lm, DL.x_app, DL.x_ext, DL.x_gExt, DL.x_isiT, DL.x_fld, DL.o_addI, DL.o_addS, DL.o_addT, DL.o_addL, DL.o_sub, DL.o_mul, DL.o_mod, DL.o_div, DL.o_pow, DL.o_c, DL.o_ixT, DL.o_ixL, DL.o_ixS, DL.o_inT, DL.o_inL, DL.o_eqT, DL.o_eqL, DL.o_neT, DL.o_neL, DL.b_len, DL.b_list, DL.b_tupl, DL.b_abs, DL.b_intI, DL.b_intB, DL.b_max, DL.b_min, DL.b_isi, DL.b_all, DL.b_any, DL.b_sum, DL.at0, DL.at1, DL.at2, List.map_cons, List.map_nil, List.length_cons, List.length_nil, List.cons_append, List.nil_append, List.append_nil, List.getElem?_cons_zero, List.getElem?_cons_succ, List.set_cons_zero, List.set_cons_succ, Option.some.injEq, exists_eq_left', true_and, and_true, DL.x_seq, DL.x_set, DL.x_asg, DL.x_par, DL.x_thr, DL.x_put, DL.x_drop, DL.x_ret, DL.x_retN, DL.x_sif, DL.x_gN, DL.x_gT, DL.x_gsN, DL.x_gsC, DL.x_for, DL.x_fldD, DL.x_rz, DL.x_rz2, DL.x_mk, DL.x_prop, DL.x_dc, DL.f_nil, DL.f_cons, dvS]; exact q0
  | some a =>
    cases b with
    | none => simp only [DL.o_ixF, DL.len_f, DL.strs_any, DL.strs_all, DL.sz0, DL.sz1, DL.sz2, DL.sz3, DL.sz4, Bool.true_or, Bool.false_or, Bool.or_true, Bool.true_and, Bool.false_and, Bool.and_false, DL.o_eqS, DL.o_neS, DL.o_eqI, DL.o_neI, DL.x_seqT, DL.x_seqL, DL.fl_s, DL.fl_i, DL.in_any, DL.eq_ss, DL.eq_ii, DL.cut1, DL.len_t, DL.len_l, DL.tru_t, DL.tru_l, DL.ite_ff, DL.ite_tt, List.all_cons, List.all_nil, List.any_cons, List.any_nil, Bool.and_true, Bool.or_false, Bool.not_true, Bool.not_false, DL.x_iseq, DL.x_lc, DL.x_istr, DL.x_ir1, DL.x_ir2, DL.x_nil, DL.oGt, DL.oLt, DL.oLe, DL.oGe, Cell.lst.injEq, Cell.ins.injEq, Cell.dic.injEq, exists_and_left, exists_eq_left, Dv.int.injEq, List.length_set, DL.x_v, DL.x_c, DL.x_op, DL.x_an, DL.x_ac, DL.x_as, DL.x_tup, DL.x_lst, DL.x_neg, DL.x_cb, DL.x_call, DL.x_tB, DL.x_tTru, DL.x_tNot, DL.x_tAnd, DL.x_tOr, DL.x_tYes, DL.x_not, DL.x_notT, DL.x_and, DL.x_or, DL.x_if, DL.x_ch, DL.x_cl, DL.x_cm, DL.x_sl, DL.x_pN, DL.x_pS, DL.x_pop, DL.x_lm, DL.x_app, DL.x_ext, DL.x_gExt, DL.x_isiT, DL.x_fld, DL.o_addI, DL.o_addS, DL.o_addT, DL.o_addL, DL.o_sub, DL.o_mul, DL.o_mod, DL.o_div, DL.o_pow, DL.o_c, DL.o_ixT, DL.o_ixL, DL.o_ixS, DL.o_inT, DL.o_inL, DL.o_eqT, DL.o_eqL, DL.o_neT, DL.o_neL, DL.b_len, DL.b_list, DL.b_tupl, DL.b_abs, DL.b_intI, DL.b_intB, DL.b_max, DL.b_min, DL.b_isi, DL.b_all, DL.b_any, DL.b_sum, DL.at0, DL.at1, DL.at2, List.map_cons, List.map_nil, List.length_cons, List.length_nil, List.cons_append, List.nil_append, List.append_nil, List.getElem?_cons_zero, List.getElem?_cons_succ, List.set_cons_zero, List.set_cons_succ, Option.some.injEq, exists_eq_left', true_and, and_true, DL.x_seq, DL.x_set, DL.x_asg, DL.x_par, DL.x_thr, DL.x_put, DL.x_drop, DL.x_ret, DL.x_retN, DL.x_sif, DL.x_gN, DL.x_gT, DL.x_gsN, DL.x_gsC, DL.x_for, DL.x_fldD, DL.x_rz, DL.x_rz2, DL.x_mk, DL.x_prop, DL.x_dc, DL.f_nil, DL.f_cons, dvS]; exact q0
    | some b =>
      simp only [DL.o_ixF, DL.len_f, DL.strs_any, DL.strs_all, DL.sz0, DL.sz1, DL.sz2, DL.sz3, DL.sz4, Bool.true_or, Bool.false_or, Bool.or_true, Bool.true_and, Bool.false_and, Bool.and_false, DL.o_eqS, DL.o_neS, DL.o_eqI, DL.o_neI, DL.x_seqT, DL.x_seqL, DL.fl_s, DL.fl_i, DL.in_any, DL.eq_ss, DL.eq_ii, DL.cut1, DL.len_t, DL.len_l, DL.tru_t, DL.tru_l, DL.ite_ff, DL.ite_tt, List.all_cons, List.all_nil, List.any_cons, List.any_nil, Bool.and_true, Bool.or_false, Bool.not_true, Bool.not_false, DL.x_iseq, DL.x_lc, DL.x_istr, DL.x_ir1, DL.x_ir2, DL.x_nil, DL.oGt, DL.oLt, DL.oLe, DL.oGe, Cell.lst.injEq, Cell.ins.injEq, Cell.dic.injEq, exists_and_left, exists_eq_left, Dv.int.injEq, List.length_set, DL.x_v, DL.x_c, DL.x_op, DL.x_an, DL.x_ac, DL.x_as, DL.x_tup, DL.x_lst, DL.x_neg, DL.x_cb, DL.x_call, DL.x_tB, DL.x_tTru, DL.x_tNot, DL.x_tAnd, DL.x_tOr, DL.x_tYes, DL.x_not, DL.x_notT, DL.x_and, DL.x_or, DL.x_if, DL.x_ch, DL.x_cl, DL.x_cm, DL.x_sl, DL.x_pN, DL.x_pS, DL.x_pop, DL.x_lm, DL.x_app, DL.x_ext, DL.x_gExt, DL.x_isiT, DL.x_fld, DL.o_addI, DL.o_addS, DL.o_addT, DL.o_addL, DL.o_sub, DL.o_mul, DL.o_mod, DL.o_div, DL.o_pow, DL.o_c, DL.o_ixT, DL.o_ixL, DL.o_ixS, DL.o_inT, DL.o_inL, DL.o_eqT, DL.o_eqL, DL.o_neT, DL.o_neL, DL.b_len, DL.b_list, DL.b_tupl, DL.b_abs, DL.b_intI, DL.b_intB, DL.b_max, DL.b_min, DL.b_isi, DL.b_all, DL.b_any, DL.b_sum, DL.at0, DL.at1, DL.at2, List.map_cons, List.map_nil, List.length_cons, List.length_nil, List.cons_append, List.nil_append, List.append_nil, List.getElem?_cons_zero, List.getElem?_cons_succ, List.set_cons_zero, List.set_cons_succ, Option.some.injEq, exists_eq_left', true_and, and_true, DL.x_seq, DL.x_set, DL.x_asg, DL.x_par, DL.x_thr, DL.x_put, DL.x_drop, DL.x_ret, DL.x_retN, DL.x_sif, DL.x_gN, DL.x_gT, DL.x_gsN, DL.x_gsC, DL.x_for, DL.x_fldD, DL.x_rz, DL.x_rz2, DL.x_mk, DL.x_prop, DL.x_dc, DL.f_nil, DL.f_cons, dvS]
      cases h1 : (a == b) with
      | false =>
        simp only [conf, h1, Bool.false_and] at q0
        simp [h1]
        exact q0
      | true =>
        simp only [conf, h1, Bool.true_and] at q0
        cases h2 : (w == v) with
        | false => simp only [h2, Bool.not_false, Bool.true_or] at q0; simp [h1, h2]; exact q0
        | true =>
          simp only [h2, Bool.not_true, Bool.false_or] at q0
          simp [h1, h2]
          exact q0
end U

namespace U
open PySem DL
def okStp : Stp → Bool
  | (w, none) => PyData.strOk w
  | (w, some o) => PyData.strOk w && PyData.strOk o
def sp__law_due : SpD := fun ds S Q _ => ∃ a b : Stp, ds = [dvS a, dvS b] ∧ okStp a = true ∧ okStp b = true ∧ ∀ T, Q (.bl (conf a b)) (S ++ T)
theorem sp__law_due_mo : MonoS sp__law_due := fun _ _ _ _ _ i ⟨a, b, h1, h2, h3, q⟩ => ⟨a, b, h1, h2, h3, fun T => i _ _ (q T)⟩
theorem sp__law_due_len : LenS sp__law_due 2 := fun _ _ _ _ ⟨a, b, h1, _⟩ => by rw [h1]; rfl
theorem both_eq (w v : Str) : ((!([w, v] == (["read", "read"] : List Str))) && !([w, v] == (["add", "add"] : List Str))) = (!(w == v) || (!(("read" : Str) == w) && !(("add" : Str) == w))) := by
  have e : ∀ x : Str, ([w, v] == [x, x]) = ((w == x) && (v == x)) := fun x => by
    show ((w == x) && ((v == x) && true)) = _
    rw [Bool.and_true]
  rw [e, e]
  have c : ∀ x : Str, (x == w) = (w == x) := fun x => BEq.comm
  rw [c, c]
  by_cases h1 : w = v
  · subst h1
    rw [beq_self_eq_true]
    cases (w == ("read" : Str)) <;> cases (w == ("add" : Str)) <;> rfl
  · have h1' : (w == v) = false := by simpa using h1
    rw [h1']
    have f : ∀ x : Str, ((w == x) && (v == x)) = false := fun x => by
      cases e1 : (w == x) with
      | false => rfl
      | true =>
        cases e2 : (v == x) with
        | false => rfl
        | true =>
          have a1 : w = x := by simpa using e1
          have a2 : v = x := by simpa using e2
          exact absurd (a1.trans a2.symm) h1
    rw [f, f]
    rfl
theorem read__law_due (A : Ads) (ds : List Dv) (S : Store) (Q : WQ) (E : ExD) (h : sp__law_due ds S Q E) : den__law_due A (deFn Q E) (startD ["one", "other"] ds) S := by
  obtain ⟨⟨w, a⟩, ⟨v, b⟩, rfl, ha, hb, q⟩ := h
  have q0 : Q (.bl (conf (w, a) (v, b))) S := by simpa using q []
  show den__law_due A (deFn Q E) [some (dvS (w, a)), some (dvS (v, b))] S
  unfold den__law_due
  cases a with
  | none =>
    simp only [DL.o_ixF, DL.len_f, DL.strs_any, DL.strs_all, DL.sz0, DL.sz1, DL.sz2, DL.sz3, DL.sz4, Bool.true_or, Bool.false_or, Bool.or_true, Bool.true_and, Bool.false_and, Bool.and_false, DL.o_eqS, DL.o_neS, DL.o_eqI, DL.o_neI, DL.x_seqT, DL.x_seqL, DL.fl_s, DL.fl_i, DL.in_any, DL.eq_ss, DL.eq_ii, DL.cut1, DL.len_t, DL.len_l, DL.tru_t, DL.tru_l, DL.ite_ff, DL.ite_tt, List.all_cons, List.all_nil, List.any_cons, List.any_nil, Bool.and_true, Bool.or_false, Bool.not_true, Bool.not_false, DL.x_iseq, DL.x_lc, DL.x_istr, DL.x_ir1, DL.x_ir2, DL.x_nil, DL.oGt, DL.oLt, DL.oLe, DL.oGe, Cell.lst.injEq, Cell.ins.injEq, Cell.dic.injEq, exists_and_left, exists_eq_left, Dv.int.injEq, List.length_set, DL.x_v, DL.x_c, DL.x_op, DL.x_an, DL.x_ac, DL.x_as, DL.x_tup, DL.x_lst, DL.x_neg, DL.x_cb, DL.x_call, DL.x_tB, DL.x_tTru, DL.x_tNot, DL.x_tAnd, DL.x_tOr, DL.x_tYes, DL.x_not, DL.x_notT, DL.x_and, DL.x_or, DL.x_if, DL.x_ch, DL.x_cl, DL.x_cm, DL.x_sl, DL.x_pN, DL.x_pS, DL.x_pop, DL.x_lm, DL.x_app, DL.x_ext, DL.x_gExt, DL.x_isiT, DL.x_fld, DL.o_addI, DL.o_addS, DL.o_addT, DL.o_addL, DL.o_sub, DL.o_mul, DL.o_mod, DL.o_div, DL.o_pow, DL.o_c, DL.o_ixT, DL.o_ixL, DL.o_ixS, DL.o_inT, DL.o_inL, DL.o_eqT, DL.o_eqL, DL.o_neT, DL.o_neL, DL.b_len, DL.b_list, DL.b_tupl, DL.b_abs, DL.b_intI, DL.b_intB, DL.b_max, DL.b_min, DL.b_isi, DL.b_all, DL.b_any, DL.b_sum, DL.at0, DL.at1, DL.at2, List.map_cons, List.map_nil, List.length_cons, List.length_nil, List.cons_append, List.nil_append, List.append_nil, List.getElem?_cons_zero, List.getElem?_cons_succ, List.set_cons_zero, List.set_cons_succ, Option.some.injEq, exists_eq_left', true_and, and_true, DL.x_seq, DL.x_set, DL.x_asg, DL.x_par, DL.x_thr, DL.x_put, DL.x_drop, DL.x_ret, DL.x_retN, DL.x_sif, DL.x_gN, DL.x_gT, DL.x_gsN, DL.x_gsC, DL.x_for, DL.x_fldD, DL.x_rz, DL.x_rz2, DL.x_mk, DL.x_prop, DL.x_dc, DL.f_nil, DL.f_cons, dvS]
    exact eqX_TT (xs := []) (ys := []) rfl rfl q0
  | some a =>
    have ha' : PyData.strOk w = true ∧ PyData.strOk a = true := by simpa [okStp] using ha
    simp only [DL.o_ixF, DL.len_f, DL.strs_any, DL.strs_all, DL.sz0, DL.sz1, DL.sz2, DL.sz3, DL.sz4, Bool.true_or, Bool.false_or, Bool.or_true, Bool.true_and, Bool.false_and, Bool.and_false, DL.o_eqS, DL.o_neS, DL.o_eqI, DL.o_neI, DL.x_seqT, DL.x_seqL, DL.fl_s, DL.fl_i, DL.in_any, DL.eq_ss, DL.eq_ii, DL.cut1, DL.len_t, DL.len_l, DL.tru_t, DL.tru_l, DL.ite_ff, DL.ite_tt, List.all_cons, List.all_nil, List.any_cons, List.any_nil, Bool.and_true, Bool.or_false, Bool.not_true, Bool.not_false, DL.x_iseq, DL.x_lc, DL.x_istr, DL.x_ir1, DL.x_ir2, DL.x_nil, DL.oGt, DL.oLt, DL.oLe, DL.oGe, Cell.lst.injEq, Cell.ins.injEq, Cell.dic.injEq, exists_and_left, exists_eq_left, Dv.int.injEq, List.length_set, DL.x_v, DL.x_c, DL.x_op, DL.x_an, DL.x_ac, DL.x_as, DL.x_tup, DL.x_lst, DL.x_neg, DL.x_cb, DL.x_call, DL.x_tB, DL.x_tTru, DL.x_tNot, DL.x_tAnd, DL.x_tOr, DL.x_tYes, DL.x_not, DL.x_notT, DL.x_and, DL.x_or, DL.x_if, DL.x_ch, DL.x_cl, DL.x_cm, DL.x_sl, DL.x_pN, DL.x_pS, DL.x_pop, DL.x_lm, DL.x_app, DL.x_ext, DL.x_gExt, DL.x_isiT, DL.x_fld, DL.o_addI, DL.o_addS, DL.o_addT, DL.o_addL, DL.o_sub, DL.o_mul, DL.o_mod, DL.o_div, DL.o_pow, DL.o_c, DL.o_ixT, DL.o_ixL, DL.o_ixS, DL.o_inT, DL.o_inL, DL.o_eqT, DL.o_eqL, DL.o_neT, DL.o_neL, DL.b_len, DL.b_list, DL.b_tupl, DL.b_abs, DL.b_intI, DL.b_intB, DL.b_max, DL.b_min, DL.b_isi, DL.b_all, DL.b_any, DL.b_sum, DL.at0, DL.at1, DL.at2, List.map_cons, List.map_nil, List.length_cons, List.length_nil, List.cons_append, List.nil_append, List.append_nil, List.getElem?_cons_zero, List.getElem?_cons_succ, List.set_cons_zero, List.set_cons_succ, Option.some.injEq, exists_eq_left', true_and, and_true, DL.x_seq, DL.x_set, DL.x_asg, DL.x_par, DL.x_thr, DL.x_put, DL.x_drop, DL.x_ret, DL.x_retN, DL.x_sif, DL.x_gN, DL.x_gT, DL.x_gsN, DL.x_gsC, DL.x_for, DL.x_fldD, DL.x_rz, DL.x_rz2, DL.x_mk, DL.x_prop, DL.x_dc, DL.f_nil, DL.f_cons, dvS]
    refine eqX_TT (xs := [a]) (ys := []) (by simp [okS, ha'.2]) rfl ?_
    cases b with
    | none =>
      simp only [DL.o_ixF, DL.len_f, DL.strs_any, DL.strs_all, DL.sz0, DL.sz1, DL.sz2, DL.sz3, DL.sz4, Bool.true_or, Bool.false_or, Bool.or_true, Bool.true_and, Bool.false_and, Bool.and_false, DL.o_eqS, DL.o_neS, DL.o_eqI, DL.o_neI, DL.x_seqT, DL.x_seqL, DL.fl_s, DL.fl_i, DL.in_any, DL.eq_ss, DL.eq_ii, DL.cut1, DL.len_t, DL.len_l, DL.tru_t, DL.tru_l, DL.ite_ff, DL.ite_tt, List.all_cons, List.all_nil, List.any_cons, List.any_nil, Bool.and_true, Bool.or_false, Bool.not_true, Bool.not_false, DL.x_iseq, DL.x_lc, DL.x_istr, DL.x_ir1, DL.x_ir2, DL.x_nil, DL.oGt, DL.oLt, DL.oLe, DL.oGe, Cell.lst.injEq, Cell.ins.injEq, Cell.dic.injEq, exists_and_left, exists_eq_left, Dv.int.injEq, List.length_set, DL.x_v, DL.x_c, DL.x_op, DL.x_an, DL.x_ac, DL.x_as, DL.x_tup, DL.x_lst, DL.x_neg, DL.x_cb, DL.x_call, DL.x_tB, DL.x_tTru, DL.x_tNot, DL.x_tAnd, DL.x_tOr, DL.x_tYes, DL.x_not, DL.x_notT, DL.x_and, DL.x_or, DL.x_if, DL.x_ch, DL.x_cl, DL.x_cm, DL.x_sl, DL.x_pN, DL.x_pS, DL.x_pop, DL.x_lm, DL.x_app, DL.x_ext, DL.x_gExt, DL.x_isiT, DL.x_fld, DL.o_addI, DL.o_addS, DL.o_addT, DL.o_addL, DL.o_sub, DL.o_mul, DL.o_mod, DL.o_div, DL.o_pow, DL.o_c, DL.o_ixT, DL.o_ixL, DL.o_ixS, DL.o_inT, DL.o_inL, DL.o_eqT, DL.o_eqL, DL.o_neT, DL.o_neL, DL.b_len, DL.b_list, DL.b_tupl, DL.b_abs, DL.b_intI, DL.b_intB, DL.b_max, DL.b_min, DL.b_isi, DL.b_all, DL.b_any, DL.b_sum, DL.at0, DL.at1, DL.at2, List.map_cons, List.map_nil, List.length_cons, List.length_nil, List.cons_append, List.nil_append, List.append_nil, List.getElem?_cons_zero, List.getElem?_cons_succ, List.set_cons_zero, List.set_cons_succ, Option.some.injEq, exists_eq_left', true_and, and_true, DL.x_seq, DL.x_set, DL.x_asg, DL.x_par, DL.x_thr, DL.x_put, DL.x_drop, DL.x_ret, DL.x_retN, DL.x_sif, DL.x_gN, DL.x_gT, DL.x_gsN, DL.x_gsC, DL.x_for, DL.x_fldD, DL.x_rz, DL.x_rz2, DL.x_mk, DL.x_prop, DL.x_dc, DL.f_nil, DL.f_cons, dvS]
      exact eqX_TT (xs := []) (ys := []) rfl rfl q0
    | some b =>
      have hb' : PyData.strOk v = true ∧ PyData.strOk b = true := by simpa [okStp] using hb
      simp only [DL.o_ixF, DL.len_f, DL.strs_any, DL.strs_all, DL.sz0, DL.sz1, DL.sz2, DL.sz3, DL.sz4, Bool.true_or, Bool.false_or, Bool.or_true, Bool.true_and, Bool.false_and, Bool.and_false, DL.o_eqS, DL.o_neS, DL.o_eqI, DL.o_neI, DL.x_seqT, DL.x_seqL, DL.fl_s, DL.fl_i, DL.in_any, DL.eq_ss, DL.eq_ii, DL.cut1, DL.len_t, DL.len_l, DL.tru_t, DL.tru_l, DL.ite_ff, DL.ite_tt, List.all_cons, List.all_nil, List.any_cons, List.any_nil, Bool.and_true, Bool.or_false, Bool.not_true, Bool.not_false, DL.x_iseq, DL.x_lc, DL.x_istr, DL.x_ir1, DL.x_ir2, DL.x_nil, DL.oGt, DL.oLt, DL.oLe, DL.oGe, Cell.lst.injEq, Cell.ins.injEq, Cell.dic.injEq, exists_and_left, exists_eq_left, Dv.int.injEq, List.length_set, DL.x_v, DL.x_c, DL.x_op, DL.x_an, DL.x_ac, DL.x_as, DL.x_tup, DL.x_lst, DL.x_neg, DL.x_cb, DL.x_call, DL.x_tB, DL.x_tTru, DL.x_tNot, DL.x_tAnd, DL.x_tOr, DL.x_tYes, DL.x_not, DL.x_notT, DL.x_and, DL.x_or, DL.x_if, DL.x_ch, DL.x_cl, DL.x_cm, DL.x_sl, DL.x_pN, DL.x_pS, DL.x_pop, DL.x_lm, DL.x_app, DL.x_ext, DL.x_gExt, DL.x_isiT, DL.x_fld, DL.o_addI, DL.o_addS, DL.o_addT, DL.o_addL, DL.o_sub, DL.o_mul, DL.o_mod, DL.o_div, DL.o_pow, DL.o_c, DL.o_ixT, DL.o_ixL, DL.o_ixS, DL.o_inT, DL.o_inL, DL.o_eqT, DL.o_eqL, DL.o_neT, DL.o_neL, DL.b_len, DL.b_list, DL.b_tupl, DL.b_abs, DL.b_intI, DL.b_intB, DL.b_max, DL.b_min, DL.b_isi, DL.b_all, DL.b_any, DL.b_sum, DL.at0, DL.at1, DL.at2, List.map_cons, List.map_nil, List.length_cons, List.length_nil, List.cons_append, List.nil_append, List.append_nil, List.getElem?_cons_zero, List.getElem?_cons_succ, List.set_cons_zero, List.set_cons_succ, Option.some.injEq, exists_eq_left', true_and, and_true, DL.x_seq, DL.x_set, DL.x_asg, DL.x_par, DL.x_thr, DL.x_put, DL.x_drop, DL.x_ret, DL.x_retN, DL.x_sif, DL.x_gN, DL.x_gT, DL.x_gsN, DL.x_gsC, DL.x_for, DL.x_fldD, DL.x_rz, DL.x_rz2, DL.x_mk, DL.x_prop, DL.x_dc, DL.f_nil, DL.f_cons, dvS]
      refine eqX_TT (xs := [b]) (ys := []) (by simp [okS, hb'.2]) rfl ?_
      refine eqX_TT (xs := [a]) (ys := [b]) (by simp [okS, ha'.2]) (by simp [okS, hb'.2]) ?_
      have ee : ([a] == [b]) = (a == b) := by
        show ((a == b) && true) = _
        rw [Bool.and_true]
      rw [ee]
      cases h1 : (a == b) with
      | false =>
        simp only [conf, h1, Bool.false_and] at q0
        exact q0
      | true =>
        have hE := both_eq w v
        simp only [conf, h1, Bool.true_and] at q
        rw [← hE] at q
        simp only [DL.o_ixF, DL.len_f, DL.strs_any, DL.strs_all, DL.sz0, DL.sz1, DL.sz2, DL.sz3, DL.sz4, Bool.true_or, Bool.false_or, Bool.or_true, Bool.true_and, Bool.false_and, Bool.and_false, DL.o_eqS, DL.o_neS, DL.o_eqI, DL.o_neI, DL.x_seqT, DL.x_seqL, DL.fl_s, DL.fl_i, DL.in_any, DL.eq_ss, DL.eq_ii, DL.cut1, DL.len_t, DL.len_l, DL.tru_t, DL.tru_l, DL.ite_ff, DL.ite_tt, List.all_cons, List.all_nil, List.any_cons, List.any_nil, Bool.and_true, Bool.or_false, Bool.not_true, Bool.not_false, DL.x_iseq, DL.x_lc, DL.x_istr, DL.x_ir1, DL.x_ir2, DL.x_nil, DL.oGt, DL.oLt, DL.oLe, DL.oGe, Cell.lst.injEq, Cell.ins.injEq, Cell.dic.injEq, exists_and_left, exists_eq_left, Dv.int.injEq, List.length_set, DL.x_v, DL.x_c, DL.x_op, DL.x_an, DL.x_ac, DL.x_as, DL.x_tup, DL.x_lst, DL.x_neg, DL.x_cb, DL.x_call, DL.x_tB, DL.x_tTru, DL.x_tNot, DL.x_tAnd, DL.x_tOr, DL.x_tYes, DL.x_not, DL.x_notT, DL.x_and, DL.x_or, DL.x_if, DL.x_ch, DL.x_cl, DL.x_cm, DL.x_sl, DL.x_pN, DL.x_pS, DL.x_pop, DL.x_lm, DL.x_app, DL.x_ext, DL.x_gExt, DL.x_isiT, DL.x_fld, DL.o_addI, DL.o_addS, DL.o_addT, DL.o_addL, DL.o_sub, DL.o_mul, DL.o_mod, DL.o_div, DL.o_pow, DL.o_c, DL.o_ixT, DL.o_ixL, DL.o_ixS, DL.o_inT, DL.o_inL, DL.o_eqT, DL.o_eqL, DL.o_neT, DL.o_neL, DL.b_len, DL.b_list, DL.b_tupl, DL.b_abs, DL.b_intI, DL.b_intB, DL.b_max, DL.b_min, DL.b_isi, DL.b_all, DL.b_any, DL.b_sum, DL.at0, DL.at1, DL.at2, List.map_cons, List.map_nil, List.length_cons, List.length_nil, List.cons_append, List.nil_append, List.append_nil, List.getElem?_cons_zero, List.getElem?_cons_succ, List.set_cons_zero, List.set_cons_succ, Option.some.injEq, exists_eq_left', true_and, and_true, DL.x_seq, DL.x_set, DL.x_asg, DL.x_par, DL.x_thr, DL.x_put, DL.x_drop, DL.x_ret, DL.x_retN, DL.x_sif, DL.x_gN, DL.x_gT, DL.x_gsN, DL.x_gsC, DL.x_for, DL.x_fldD, DL.x_rz, DL.x_rz2, DL.x_mk, DL.x_prop, DL.x_dc, DL.f_nil, DL.f_cons]
        have r1 : okS ["read", "read"] = true := by decide +kernel
        have r2 : okS ["add", "add"] = true := by decide +kernel
        have wv : okS [w, v] = true := by simp [okS, ha'.1, hb'.1]
        refine eqX_LL (xs := [w, v]) (ys := ["read", "read"]) (get_app get_new) get_new wv r1 ?_
        cases h2 : ([w, v] == (["read", "read"] : List Str)) with
        | true =>
          rw [h2] at q
          simp only [Bool.not_true, Bool.false_and] at q
          simp only [Bool.not_true]
          have := q [.lst [.str w, .str v], .lst [.str "read", .str "read"]]
          simpa using this
        | false =>
          rw [h2] at q
          simp only [Bool.not_false, Bool.true_and] at q
          simp only [Bool.not_false]
          refine eqX_LL (xs := [w, v]) (ys := ["add", "add"]) (get_app get_new) get_new wv r2 ?_
          rw [List.append_assoc, List.append_assoc, List.append_assoc]
          exact q _
end U

namespace U
open PySem DL
theorem cut_pre {a b c d : Dv} : cutD [a, b, c, d] none (some 2) = [a, b] := rfl
theorem cut_suf {a b c d : Dv} : cutD [a, b, c, d] (some 2) none = [c, d] := rfl
theorem step_l4 (A : Ads) (p1 p2 p3 p4 : SpD) (D : DE) (x0 x1 x2 x6 x7 x8 x9 : Option Dv) (nm st : Nat) (w z0 z1 z2 z3 : Str) (ss : List Stp) (S : Store) (hnm : S[nm]? = some (.lst [.str z0, .str z1, .str z2, .str z3])) (hst : S[st]? = some (.lst (ss.map dvS))) (hz : ss.length ≤ 20)
    (k : ∀ T m x6, (S ++ T)[m]? = some (.lst ((ss ++ [(w, some z0), (w, some z1)]).map dvS)) → D.nx [x0, x1, x2, some (.loc nm), some (.loc m), some (.str w), x6, x7, x8, x9] (S ++ T)) :
    den_law_l4 A p1 p2 p3 p4 D [x0, x1, x2, some (.loc nm), some (.loc st), some (.str w), x6, x7, x8, x9] S := by
  unfold den_law_l4
  simp only [DL.o_ixF, DL.len_f, DL.strs_any, DL.strs_all, DL.sz0, DL.sz1, DL.sz2, DL.sz3, DL.sz4, Bool.true_or, Bool.false_or, Bool.or_true, Bool.true_and, Bool.false_and, Bool.and_false, DL.o_eqS, DL.o_neS, DL.o_eqI, DL.o_neI, DL.x_seqT, DL.x_seqL, DL.fl_s, DL.fl_i, DL.in_any, DL.eq_ss, DL.eq_ii, DL.cut1, DL.len_t, DL.len_l, DL.tru_t, DL.tru_l, DL.ite_ff, DL.ite_tt, List.all_cons, List.all_nil, List.any_cons, List.any_nil, Bool.and_true, Bool.or_false, Bool.not_true, Bool.not_false, DL.x_iseq, DL.x_lc, DL.x_istr, DL.x_ir1, DL.x_ir2, DL.x_nil, DL.oGt, DL.oLt, DL.oLe, DL.oGe, Cell.lst.injEq, Cell.ins.injEq, Cell.dic.injEq, exists_and_left, exists_eq_left, Dv.int.injEq, List.length_set, DL.x_v, DL.x_c, DL.x_op, DL.x_an, DL.x_ac, DL.x_as, DL.x_tup, DL.x_lst, DL.x_neg, DL.x_cb, DL.x_call, DL.x_tB, DL.x_tTru, DL.x_tNot, DL.x_tAnd, DL.x_tOr, DL.x_tYes, DL.x_not, DL.x_notT, DL.x_and, DL.x_or, DL.x_if, DL.x_ch, DL.x_cl, DL.x_cm, DL.x_sl, DL.x_pN, DL.x_pS, DL.x_pop, DL.x_lm, DL.x_app, DL.x_ext, DL.x_gExt, DL.x_isiT, DL.x_fld, DL.o_addI, DL.o_addS, DL.o_addT, DL.o_addL, DL.o_sub, DL.o_mul, DL.o_mod, DL.o_div, DL.o_pow, DL.o_c, DL.o_ixT, DL.o_ixL, DL.o_ixS, DL.o_inT, DL.o_inL, DL.o_eqT, DL.o_eqL, DL.o_neT, DL.o_neL, DL.b_len, DL.b_list, DL.b_tupl, DL.b_abs, DL.b_intI, DL.b_intB, DL.b_max, DL.b_min, DL.b_isi, DL.b_all, DL.b_any, DL.b_sum, DL.at0, DL.at1, DL.at2, List.map_cons, List.map_nil, List.length_cons, List.length_nil, List.cons_append, List.nil_append, List.append_nil, List.getElem?_cons_zero, List.getElem?_cons_succ, List.set_cons_zero, List.set_cons_succ, Option.some.injEq, exists_eq_left', true_and, and_true, DL.x_seq, DL.x_set, DL.x_asg, DL.x_par, DL.x_thr, DL.x_put, DL.x_drop, DL.x_ret, DL.x_retN, DL.x_sif, DL.x_gN, DL.x_gT, DL.x_gsN, DL.x_gsC, DL.x_for, DL.x_fldD, DL.x_rz, DL.x_rz2, DL.x_mk, DL.x_prop, DL.x_dc, DL.f_nil, DL.f_cons, hnm, cut_pre]
  refine ⟨_, get_new, lcm_run (fun z : Str => .str z) (fun z => dvS (w, some z)) (fun T => get_app get_new) [z0, z1] (by show 2 ≤ sizeLine; decide) (fun x hx T R h => ?_) fun T h => ?_⟩
  · simp only [TgD.put, wipeD, DL.o_ixF, DL.len_f, DL.strs_any, DL.strs_all, DL.sz0, DL.sz1, DL.sz2, DL.sz3, DL.sz4, Bool.true_or, Bool.false_or, Bool.or_true, Bool.true_and, Bool.false_and, Bool.and_false, DL.o_eqS, DL.o_neS, DL.o_eqI, DL.o_neI, DL.x_seqT, DL.x_seqL, DL.fl_s, DL.fl_i, DL.in_any, DL.eq_ss, DL.eq_ii, DL.cut1, DL.len_t, DL.len_l, DL.tru_t, DL.tru_l, DL.ite_ff, DL.ite_tt, List.all_cons, List.all_nil, List.any_cons, List.any_nil, Bool.and_true, Bool.or_false, Bool.not_true, Bool.not_false, DL.x_iseq, DL.x_lc, DL.x_istr, DL.x_ir1, DL.x_ir2, DL.x_nil, DL.oGt, DL.oLt, DL.oLe, DL.oGe, Cell.lst.injEq, Cell.ins.injEq, Cell.dic.injEq, exists_and_left, exists_eq_left, Dv.int.injEq, List.length_set, DL.x_v, DL.x_c, DL.x_op, DL.x_an, DL.x_ac, DL.x_as, DL.x_tup, DL.x_lst, DL.x_neg, DL.x_cb, DL.x_call, DL.x_tB, DL.x_tTru, DL.x_tNot, DL.x_tAnd, DL.x_tOr, DL.x_tYes, DL.x_not, DL.x_notT, DL.x_and, DL.x_or, DL.x_if, DL.x_ch, DL.x_cl, DL.x_cm, DL.x_sl, DL.x_pN, DL.x_pS, DL.x_pop, DL.x_lm, DL.x_app, DL.x_ext, DL.x_gExt, DL.x_isiT, DL.x_fld, DL.o_addI, DL.o_addS, DL.o_addT, DL.o_addL, DL.o_sub, DL.o_mul, DL.o_mod, DL.o_div, DL.o_pow, DL.o_c, DL.o_ixT, DL.o_ixL, DL.o_ixS, DL.o_inT, DL.o_inL, DL.o_eqT, DL.o_eqL, DL.o_neT, DL.o_neL, DL.b_len, DL.b_list, DL.b_tupl, DL.b_abs, DL.b_intI, DL.b_intB, DL.b_max, DL.b_min, DL.b_isi, DL.b_all, DL.b_any, DL.b_sum, DL.at0, DL.at1, DL.at2, List.map_cons, List.map_nil, List.length_cons, List.length_nil, List.cons_append, List.nil_append, List.append_nil, List.getElem?_cons_zero, List.getElem?_cons_succ, List.set_cons_zero, List.set_cons_succ, Option.some.injEq, exists_eq_left', true_and, and_true, DL.x_seq, DL.x_set, DL.x_asg, DL.x_par, DL.x_thr, DL.x_put, DL.x_drop, DL.x_ret, DL.x_retN, DL.x_sif, DL.x_gN, DL.x_gT, DL.x_gsN, DL.x_gsC, DL.x_for, DL.x_fldD, DL.x_rz, DL.x_rz2, DL.x_mk, DL.x_prop, DL.x_dc, DL.f_nil, DL.f_cons]
    have := h []
    rw [List.append_nil] at this
    exact this
  · refine ⟨ss.map dvS, ?_, _, h, ?_, ?_⟩
    · rw [List.append_assoc]; exact get_app hst
    · rw [List.length_map, List.length_map]; exact Nat.le_trans (show ss.length + 2 ≤ 22 by omega) (by decide)
    · have q := k ([Cell.lst [Dv.str z0, Dv.str z1]] ++ (T ++ [Cell.lst (ss.map dvS ++ [dvS (w, some z0), dvS (w, some z1)])])) _ x6 (by
        rw [← List.append_assoc, ← List.append_assoc, List.map_append]
        exact get_new)
      rw [← List.append_assoc, ← List.append_assoc] at q
      exact q
theorem step_l3 (A : Ads) (p1 p2 p3 p4 : SpD) (D : DE) (x0 x1 x2 x6 x7 x8 x9 : Option Dv) (nm st : Nat) (w z0 z1 z2 z3 : Str) (ss : List Stp) (S : Store) (hnm : S[nm]? = some (.lst [.str z0, .str z1, .str z2, .str z3])) (hst : S[st]? = some (.lst (ss.map dvS))) (hz : ss.length ≤ 20)
    (k : ∀ T m x6, (S ++ T)[m]? = some (.lst ((ss ++ [(w, some z2), (w, some z3)]).map dvS)) → D.nx [x0, x1, x2, some (.loc nm), some (.loc m), some (.str w), x6, x7, x8, x9] (S ++ T)) :
    den_law_l3 A p1 p2 p3 p4 D [x0, x1, x2, some (.loc nm), some (.loc st), some (.str w), x6, x7, x8, x9] S := by
  unfold den_law_l3
  simp only [DL.o_ixF, DL.len_f, DL.strs_any, DL.strs_all, DL.sz0, DL.sz1, DL.sz2, DL.sz3, DL.sz4, Bool.true_or, Bool.false_or, Bool.or_true, Bool.true_and, Bool.false_and, Bool.and_false, DL.o_eqS, DL.o_neS, DL.o_eqI, DL.o_neI, DL.x_seqT, DL.x_seqL, DL.fl_s, DL.fl_i, DL.in_any, DL.eq_ss, DL.eq_ii, DL.cut1, DL.len_t, DL.len_l, DL.tru_t, DL.tru_l, DL.ite_ff, DL.ite_tt, List.all_cons, List.all_nil, List.any_cons, List.any_nil, Bool.and_true, Bool.or_false, Bool.not_true, Bool.not_false, DL.x_iseq, DL.x_lc, DL.x_istr, DL.x_ir1, DL.x_ir2, DL.x_nil, DL.oGt, DL.oLt, DL.oLe, DL.oGe, Cell.lst.injEq, Cell.ins.injEq, Cell.dic.injEq, exists_and_left, exists_eq_left, Dv.int.injEq, List.length_set, DL.x_v, DL.x_c, DL.x_op, DL.x_an, DL.x_ac, DL.x_as, DL.x_tup, DL.x_lst, DL.x_neg, DL.x_cb, DL.x_call, DL.x_tB, DL.x_tTru, DL.x_tNot, DL.x_tAnd, DL.x_tOr, DL.x_tYes, DL.x_not, DL.x_notT, DL.x_and, DL.x_or, DL.x_if, DL.x_ch, DL.x_cl, DL.x_cm, DL.x_sl, DL.x_pN, DL.x_pS, DL.x_pop, DL.x_lm, DL.x_app, DL.x_ext, DL.x_gExt, DL.x_isiT, DL.x_fld, DL.o_addI, DL.o_addS, DL.o_addT, DL.o_addL, DL.o_sub, DL.o_mul, DL.o_mod, DL.o_div, DL.o_pow, DL.o_c, DL.o_ixT, DL.o_ixL, DL.o_ixS, DL.o_inT, DL.o_inL, DL.o_eqT, DL.o_eqL, DL.o_neT, DL.o_neL, DL.b_len, DL.b_list, DL.b_tupl, DL.b_abs, DL.b_intI, DL.b_intB, DL.b_max, DL.b_min, DL.b_isi, DL.b_all, DL.b_any, DL.b_sum, DL.at0, DL.at1, DL.at2, List.map_cons, List.map_nil, List.length_cons, List.length_nil, List.cons_append, List.nil_append, List.append_nil, List.getElem?_cons_zero, List.getElem?_cons_succ, List.set_cons_zero, List.set_cons_succ, Option.some.injEq, exists_eq_left', true_and, and_true, DL.x_seq, DL.x_set, DL.x_asg, DL.x_par, DL.x_thr, DL.x_put, DL.x_drop, DL.x_ret, DL.x_retN, DL.x_sif, DL.x_gN, DL.x_gT, DL.x_gsN, DL.x_gsC, DL.x_for, DL.x_fldD, DL.x_rz, DL.x_rz2, DL.x_mk, DL.x_prop, DL.x_dc, DL.f_nil, DL.f_cons, hnm, cut_suf]
  refine ⟨_, get_new, lcm_run (fun z : Str => .str z) (fun z => dvS (w, some z)) (fun T => get_app get_new) [z2, z3] (by show 2 ≤ sizeLine; decide) (fun x hx T R h => ?_) fun T h => ?_⟩
  · simp only [TgD.put, wipeD, DL.o_ixF, DL.len_f, DL.strs_any, DL.strs_all, DL.sz0, DL.sz1, DL.sz2, DL.sz3, DL.sz4, Bool.true_or, Bool.false_or, Bool.or_true, Bool.true_and, Bool.false_and, Bool.and_false, DL.o_eqS, DL.o_neS, DL.o_eqI, DL.o_neI, DL.x_seqT, DL.x_seqL, DL.fl_s, DL.fl_i, DL.in_any, DL.eq_ss, DL.eq_ii, DL.cut1, DL.len_t, DL.len_l, DL.tru_t, DL.tru_l, DL.ite_ff, DL.ite_tt, List.all_cons, List.all_nil, List.any_cons, List.any_nil, Bool.and_true, Bool.or_false, Bool.not_true, Bool.not_false, DL.x_iseq, DL.x_lc, DL.x_istr, DL.x_ir1, DL.x_ir2, DL.x_nil, DL.oGt, DL.oLt, DL.oLe, DL.oGe, Cell.lst.injEq, Cell.ins.injEq, Cell.dic.injEq, exists_and_left, exists_eq_left, Dv.int.injEq, List.length_set, DL.x_v, DL.x_c, DL.x_op, DL.x_an, DL.x_ac, DL.x_as, DL.x_tup, DL.x_lst, DL.x_neg, DL.x_cb, DL.x_call, DL.x_tB, DL.x_tTru, DL.x_tNot, DL.x_tAnd, DL.x_tOr, DL.x_tYes, DL.x_not, DL.x_notT, DL.x_and, DL.x_or, DL.x_if, DL.x_ch, DL.x_cl, DL.x_cm, DL.x_sl, DL.x_pN, DL.x_pS, DL.x_pop, DL.x_lm, DL.x_app, DL.x_ext, DL.x_gExt, DL.x_isiT, DL.x_fld, DL.o_addI, DL.o_addS, DL.o_addT, DL.o_addL, DL.o_sub, DL.o_mul, DL.o_mod, DL.o_div, DL.o_pow, DL.o_c, DL.o_ixT, DL.o_ixL, DL.o_ixS, DL.o_inT, DL.o_inL, DL.o_eqT, DL.o_eqL, DL.o_neT, DL.o_neL, DL.b_len, DL.b_list, DL.b_tupl, DL.b_abs, DL.b_intI, DL.b_intB, DL.b_max, DL.b_min, DL.b_isi, DL.b_all, DL.b_any, DL.b_sum, DL.at0, DL.at1, DL.at2, List.map_cons, List.map_nil, List.length_cons, List.length_nil, List.cons_append, List.nil_append, List.append_nil, List.getElem?_cons_zero, List.getElem?_cons_succ, List.set_cons_zero, List.set_cons_succ, Option.some.injEq, exists_eq_left', true_and, and_true, DL.x_seq, DL.x_set, DL.x_asg, DL.x_par, DL.x_thr, DL.x_put, DL.x_drop, DL.x_ret, DL.x_retN, DL.x_sif, DL.x_gN, DL.x_gT, DL.x_gsN, DL.x_gsC, DL.x_for, DL.x_fldD, DL.x_rz, DL.x_rz2, DL.x_mk, DL.x_prop, DL.x_dc, DL.f_nil, DL.f_cons]
    have := h []
    rw [List.append_nil] at this
    exact this
  · refine ⟨ss.map dvS, ?_, _, h, ?_, ?_⟩
    · rw [List.append_assoc]; exact get_app hst
    · rw [List.length_map, List.length_map]; exact Nat.le_trans (show ss.length + 2 ≤ 22 by omega) (by decide)
    · have q := k ([Cell.lst [Dv.str z2, Dv.str z3]] ++ (T ++ [Cell.lst (ss.map dvS ++ [dvS (w, some z2), dvS (w, some z3)])])) _ x6 (by
        rw [← List.append_assoc, ← List.append_assoc, List.map_append]
        exact get_new)
      rw [← List.append_assoc, ← List.append_assoc] at q
      exact q

/-- one pair of steps -/
theorem pair_l1 (A : Ads) (p3 p4 : SpD) (D : DE) (x0 x1 x2 x3 x4 x5 x6 x9 : Option Dv) (a b : Stp) (S : Store) (ha : okStp a = true) (hb : okStp b = true) (k : ∀ T x9, D.nx [x0, x1, x2, x3, x4, x5, x6, some (dvS a), some (dvS b), x9] (S ++ T)) :
    den_law_l1 A sp__law_due sp_conflicts p3 p4 D [x0, x1, x2, x3, x4, x5, x6, some (dvS a), some (dvS b), x9] S := by
  unfold den_law_l1
  simp only [DL.o_ixF, DL.len_f, DL.strs_any, DL.strs_all, DL.sz0, DL.sz1, DL.sz2, DL.sz3, DL.sz4, Bool.true_or, Bool.false_or, Bool.or_true, Bool.true_and, Bool.false_and, Bool.and_false, DL.o_eqS, DL.o_neS, DL.o_eqI, DL.o_neI, DL.x_seqT, DL.x_seqL, DL.fl_s, DL.fl_i, DL.in_any, DL.eq_ss, DL.eq_ii, DL.cut1, DL.len_t, DL.len_l, DL.tru_t, DL.tru_l, DL.ite_ff, DL.ite_tt, List.all_cons, List.all_nil, List.any_cons, List.any_nil, Bool.and_true, Bool.or_false, Bool.not_true, Bool.not_false, DL.x_iseq, DL.x_lc, DL.x_istr, DL.x_ir1, DL.x_ir2, DL.x_nil, DL.oGt, DL.oLt, DL.oLe, DL.oGe, Cell.lst.injEq, Cell.ins.injEq, Cell.dic.injEq, exists_and_left, exists_eq_left, Dv.int.injEq, List.length_set, DL.x_v, DL.x_c, DL.x_op, DL.x_an, DL.x_ac, DL.x_as, DL.x_tup, DL.x_lst, DL.x_neg, DL.x_cb, DL.x_call, DL.x_tB, DL.x_tTru, DL.x_tNot, DL.x_tAnd, DL.x_tOr, DL.x_tYes, DL.x_not, DL.x_notT, DL.x_and, DL.x_or, DL.x_if, DL.x_ch, DL.x_cl, DL.x_cm, DL.x_sl, DL.x_pN, DL.x_pS, DL.x_pop, DL.x_lm, DL.x_app, DL.x_ext, DL.x_gExt, DL.x_isiT, DL.x_fld, DL.o_addI, DL.o_addS, DL.o_addT, DL.o_addL, DL.o_sub, DL.o_mul, DL.o_mod, DL.o_div, DL.o_pow, DL.o_c, DL.o_ixT, DL.o_ixL, DL.o_ixS, DL.o_inT, DL.o_inL, DL.o_eqT, DL.o_eqL, DL.o_neT, DL.o_neL, DL.b_len, DL.b_list, DL.b_tupl, DL.b_abs, DL.b_intI, DL.b_intB, DL.b_max, DL.b_min, DL.b_isi, DL.b_all, DL.b_any, DL.b_sum, DL.at0, DL.at1, DL.at2, List.map_cons, List.map_nil, List.length_cons, List.length_nil, List.cons_append, List.nil_append, List.append_nil, List.getElem?_cons_zero, List.getElem?_cons_succ, List.set_cons_zero, List.set_cons_succ, Option.some.injEq, exists_eq_left', true_and, and_true, DL.x_seq, DL.x_set, DL.x_asg, DL.x_par, DL.x_thr, DL.x_put, DL.x_drop, DL.x_ret, DL.x_retN, DL.x_sif, DL.x_gN, DL.x_gT, DL.x_gsN, DL.x_gsC, DL.x_for, DL.x_fldD, DL.x_rz, DL.x_rz2, DL.x_mk, DL.x_prop, DL.x_dc, DL.f_nil, DL.f_cons]
  refine ⟨a, b, rfl, fun T => ?_⟩
  refine ⟨"bool", rfl, true, kb_bool_bool, ?_⟩
  refine ⟨a, b, rfl, ha, hb, fun T2 => ?_⟩
  simp only [o_neB, beq_self_eq_true, DL.o_ixF, DL.len_f, DL.strs_any, DL.strs_all, DL.sz0, DL.sz1, DL.sz2, DL.sz3, DL.sz4, Bool.true_or, Bool.false_or, Bool.or_true, Bool.true_and, Bool.false_and, Bool.and_false, DL.o_eqS, DL.o_neS, DL.o_eqI, DL.o_neI, DL.x_seqT, DL.x_seqL, DL.fl_s, DL.fl_i, DL.in_any, DL.eq_ss, DL.eq_ii, DL.cut1, DL.len_t, DL.len_l, DL.tru_t, DL.tru_l, DL.ite_ff, DL.ite_tt, List.all_cons, List.all_nil, List.any_cons, List.any_nil, Bool.and_true, Bool.or_false, Bool.not_true, Bool.not_false, DL.x_iseq, DL.x_lc, DL.x_istr, DL.x_ir1, DL.x_ir2, DL.x_nil, DL.oGt, DL.oLt, DL.oLe, DL.oGe, Cell.lst.injEq, Cell.ins.injEq, Cell.dic.injEq, exists_and_left, exists_eq_left, Dv.int.injEq, List.length_set, DL.x_v, DL.x_c, DL.x_op, DL.x_an, DL.x_ac, DL.x_as, DL.x_tup, DL.x_lst, DL.x_neg, DL.x_cb, DL.x_call, DL.x_tB, DL.x_tTru, DL.x_tNot, DL.x_tAnd, DL.x_tOr, DL.x_tYes, DL.x_not, DL.x_notT, DL.x_and, DL.x_or, DL.x_if, DL.x_ch, DL.x_cl, DL.x_cm, DL.x_sl, DL.x_pN, DL.x_pS, DL.x_pop, DL.x_lm, DL.x_app, DL.x_ext, DL.x_gExt, DL.x_isiT, DL.x_fld, DL.o_addI, DL.o_addS, DL.o_addT, DL.o_addL, DL.o_sub, DL.o_mul, DL.o_mod, DL.o_div, DL.o_pow, DL.o_c, DL.o_ixT, DL.o_ixL, DL.o_ixS, DL.o_inT, DL.o_inL, DL.o_eqT, DL.o_eqL, DL.o_neT, DL.o_neL, DL.b_len, DL.b_list, DL.b_tupl, DL.b_abs, DL.b_intI, DL.b_intB, DL.b_max, DL.b_min, DL.b_isi, DL.b_all, DL.b_any, DL.b_sum, DL.at0, DL.at1, DL.at2, List.map_cons, List.map_nil, List.length_cons, List.length_nil, List.cons_append, List.nil_append, List.append_nil, List.getElem?_cons_zero, List.getElem?_cons_succ, List.set_cons_zero, List.set_cons_succ, Option.some.injEq, exists_eq_left', true_and, and_true]
  refine ⟨b, a, rfl, fun T3 => ?_⟩
  have e : conf b a = conf a b := by
    obtain ⟨w, x⟩ := a
    obtain ⟨v, y⟩ := b
    cases x with
    | none => cases y <;> rfl
    | some x =>
      cases y with
      | none => rfl
      | some y =>
        simp only [conf]
        rw [show (y == x) = (x == y) from BEq.comm, show (v == w) = (w == v) from BEq.comm]
        by_cases h : w = v
        · rw [h]
        · have h' : (w == v) = false := by simpa using h
          rw [h']
          rfl
  rw [e]
  dsimp only
  rw [o_neB, beq_self_eq_true]
  simp only [Bool.not_true]
  rw [List.append_assoc, List.append_assoc]
  exact k _ _
theorem loop_l1 (A : Ads) (p3 p4 : SpD) (D : DE) (x0 x1 x2 x3 x4 x5 x6 : Option Dv) (a : Stp) (ha : okStp a = true) (S0 : Store) (stay : Store → Prop) (hst : ∀ T, stay (S0 ++ T))
    (k : ∀ T x8 x9, D.nx [x0, x1, x2, x3, x4, x5, x6, some (dvS a), x8, x9] (S0 ++ T)) : ∀ (rest : List Stp) (T : Store) (x8 x9 : Option Dv), (∀ b ∈ rest, okStp b = true) →
    forGo (gN 8) (den_law_l1 A sp__law_due sp_conflicts p3 p4) stay D (rest.map dvS) [x0, x1, x2, x3, x4, x5, x6, some (dvS a), x8, x9] (S0 ++ T)
  | [], T, x8, x9, _ => ⟨hst T, k T x8 x9⟩
  | b :: rest, T, x8, x9, h => by
    have IH := loop_l1 A p3 p4 D x0 x1 x2 x3 x4 x5 x6 a ha S0 stay hst k rest
    rw [List.map_cons, f_cons]
    refine ⟨hst T, ?_⟩
    simp only [DL.o_ixF, DL.len_f, DL.strs_any, DL.strs_all, DL.sz0, DL.sz1, DL.sz2, DL.sz3, DL.sz4, Bool.true_or, Bool.false_or, Bool.or_true, Bool.true_and, Bool.false_and, Bool.and_false, DL.o_eqS, DL.o_neS, DL.o_eqI, DL.o_neI, DL.x_seqT, DL.x_seqL, DL.fl_s, DL.fl_i, DL.in_any, DL.eq_ss, DL.eq_ii, DL.cut1, DL.len_t, DL.len_l, DL.tru_t, DL.tru_l, DL.ite_ff, DL.ite_tt, List.all_cons, List.all_nil, List.any_cons, List.any_nil, Bool.and_true, Bool.or_false, Bool.not_true, Bool.not_false, DL.x_iseq, DL.x_lc, DL.x_istr, DL.x_ir1, DL.x_ir2, DL.x_nil, DL.oGt, DL.oLt, DL.oLe, DL.oGe, Cell.lst.injEq, Cell.ins.injEq, Cell.dic.injEq, exists_and_left, exists_eq_left, Dv.int.injEq, List.length_set, DL.x_v, DL.x_c, DL.x_op, DL.x_an, DL.x_ac, DL.x_as, DL.x_tup, DL.x_lst, DL.x_neg, DL.x_cb, DL.x_call, DL.x_tB, DL.x_tTru, DL.x_tNot, DL.x_tAnd, DL.x_tOr, DL.x_tYes, DL.x_not, DL.x_notT, DL.x_and, DL.x_or, DL.x_if, DL.x_ch, DL.x_cl, DL.x_cm, DL.x_sl, DL.x_pN, DL.x_pS, DL.x_pop, DL.x_lm, DL.x_app, DL.x_ext, DL.x_gExt, DL.x_isiT, DL.x_fld, DL.o_addI, DL.o_addS, DL.o_addT, DL.o_addL, DL.o_sub, DL.o_mul, DL.o_mod, DL.o_div, DL.o_pow, DL.o_c, DL.o_ixT, DL.o_ixL, DL.o_ixS, DL.o_inT, DL.o_inL, DL.o_eqT, DL.o_eqL, DL.o_neT, DL.o_neL, DL.b_len, DL.b_list, DL.b_tupl, DL.b_abs, DL.b_intI, DL.b_intB, DL.b_max, DL.b_min, DL.b_isi, DL.b_all, DL.b_any, DL.b_sum, DL.at0, DL.at1, DL.at2, List.map_cons, List.map_nil, List.length_cons, List.length_nil, List.cons_append, List.nil_append, List.append_nil, List.getElem?_cons_zero, List.getElem?_cons_succ, List.set_cons_zero, List.set_cons_succ, Option.some.injEq, exists_eq_left', true_and, and_true, DL.x_seq, DL.x_set, DL.x_asg, DL.x_par, DL.x_thr, DL.x_put, DL.x_drop, DL.x_ret, DL.x_retN, DL.x_sif, DL.x_gN, DL.x_gT, DL.x_gsN, DL.x_gsC, DL.x_for, DL.x_fldD, DL.x_rz, DL.x_rz2, DL.x_mk, DL.x_prop, DL.x_dc, DL.f_nil, DL.f_cons]
    refine pair_l1 A p3 p4 _ x0 x1 x2 x3 x4 x5 x6 x9 a b _ ha (h b List.mem_cons_self) fun T2 y9 => ?_
    rw [List.append_assoc]
    exact IH _ _ _ fun c hc => h c (List.mem_cons_of_mem _ hc)
theorem loop_l1' (A : Ads) (p3 p4 : SpD) (D : DE) (x0 x1 x2 x3 x4 x5 x6 x8 x9 : Option Dv) (a : Stp) (ha : okStp a = true) (S0 : Store) (stay : Store → Prop) (hst : ∀ T, stay (S0 ++ T)) (ss : List Stp) (h : ∀ b ∈ ss, okStp b = true)
    (k : ∀ T x8 x9, D.nx [x0, x1, x2, x3, x4, x5, x6, some (dvS a), x8, x9] (S0 ++ T)) :
    forGo (gN 8) (den_law_l1 A sp__law_due sp_conflicts p3 p4) stay D (ss.map dvS) [x0, x1, x2, x3, x4, x5, x6, some (dvS a), x8, x9] S0 := by
  have := loop_l1 A p3 p4 D x0 x1 x2 x3 x4 x5 x6 a ha S0 stay hst k ss [] x8 x9 h
  rw [List.append_nil] at this
  exact this
theorem loop_l2 (A : Ads) (p3 p4 : SpD) (D : DE) (x0 x1 x2 x3 x5 x6 : Option Dv) (st : Nat) (ss : List Stp) (hss : ∀ b ∈ ss, okStp b = true) (S0 : Store) (hS : S0[st]? = some (.lst (ss.map dvS)))
    (k : ∀ T x7 x8 x9, D.nx [x0, x1, x2, x3, some (.loc st), x5, x6, x7, x8, x9] (S0 ++ T)) : ∀ (rest : List Stp) (T : Store) (x7 x8 x9 : Option Dv), (∀ b ∈ rest, okStp b = true) →
    forGo (gN 7) (den_law_l2 A sp__law_due sp_conflicts p3 p4) (fun S => S[st]? = some (.lst (ss.map dvS))) D (rest.map dvS) [x0, x1, x2, x3, some (.loc st), x5, x6, x7, x8, x9] (S0 ++ T)
  | [], T, x7, x8, x9, _ => ⟨get_app hS, k T x7 x8 x9⟩
  | a :: rest, T, x7, x8, x9, h => by
    have IH := loop_l2 A p3 p4 D x0 x1 x2 x3 x5 x6 st ss hss S0 hS k rest
    rw [List.map_cons, f_cons]
    refine ⟨get_app hS, ?_⟩
    simp only [den_law_l2, DL.o_ixF, DL.len_f, DL.strs_any, DL.strs_all, DL.sz0, DL.sz1, DL.sz2, DL.sz3, DL.sz4, Bool.true_or, Bool.false_or, Bool.or_true, Bool.true_and, Bool.false_and, Bool.and_false, DL.o_eqS, DL.o_neS, DL.o_eqI, DL.o_neI, DL.x_seqT, DL.x_seqL, DL.fl_s, DL.fl_i, DL.in_any, DL.eq_ss, DL.eq_ii, DL.cut1, DL.len_t, DL.len_l, DL.tru_t, DL.tru_l, DL.ite_ff, DL.ite_tt, List.all_cons, List.all_nil, List.any_cons, List.any_nil, Bool.and_true, Bool.or_false, Bool.not_true, Bool.not_false, DL.x_iseq, DL.x_lc, DL.x_istr, DL.x_ir1, DL.x_ir2, DL.x_nil, DL.oGt, DL.oLt, DL.oLe, DL.oGe, Cell.lst.injEq, Cell.ins.injEq, Cell.dic.injEq, exists_and_left, exists_eq_left, Dv.int.injEq, List.length_set, DL.x_v, DL.x_c, DL.x_op, DL.x_an, DL.x_ac, DL.x_as, DL.x_tup, DL.x_lst, DL.x_neg, DL.x_cb, DL.x_call, DL.x_tB, DL.x_tTru, DL.x_tNot, DL.x_tAnd, DL.x_tOr, DL.x_tYes, DL.x_not, DL.x_notT, DL.x_and, DL.x_or, DL.x_if, DL.x_ch, DL.x_cl, DL.x_cm, DL.x_sl, DL.x_pN, DL.x_pS, DL.x_pop, DL.x_lm, DL.x_app, DL.x_ext, DL.x_gExt, DL.x_isiT, DL.x_fld, DL.o_addI, DL.o_addS, DL.o_addT, DL.o_addL, DL.o_sub, DL.o_mul, DL.o_mod, DL.o_div, DL.o_pow, DL.o_c, DL.o_ixT, DL.o_ixL, DL.o_ixS, DL.o_inT, DL.o_inL, DL.o_eqT, DL.o_eqL, DL.o_neT, DL.o_neL, DL.b_len, DL.b_list, DL.b_tupl, DL.b_abs, DL.b_intI, DL.b_intB, DL.b_max, DL.b_min, DL.b_isi, DL.b_all, DL.b_any, DL.b_sum, DL.at0, DL.at1, DL.at2, List.map_cons, List.map_nil, List.length_cons, List.length_nil, List.cons_append, List.nil_append, List.append_nil, List.getElem?_cons_zero, List.getElem?_cons_succ, List.set_cons_zero, List.set_cons_succ, Option.some.injEq, exists_eq_left', true_and, and_true, DL.x_seq, DL.x_set, DL.x_asg, DL.x_par, DL.x_thr, DL.x_put, DL.x_drop, DL.x_ret, DL.x_retN, DL.x_sif, DL.x_gN, DL.x_gT, DL.x_gsN, DL.x_gsC, DL.x_for, DL.x_fldD, DL.x_rz, DL.x_rz2, DL.x_mk, DL.x_prop, DL.x_dc, DL.f_nil, DL.f_cons]
    refine ⟨_, get_app hS, ?_⟩
    refine loop_l1' A p3 p4 _ x0 x1 x2 x3 (some (.loc st)) x5 x6 x8 x9 a (h a List.mem_cons_self) (S0 ++ T) (stayOf (.loc st) (ss.map dvS)) (fun T2 => get_app (get_app hS)) ss hss fun T2 y8 y9 => ?_
    rw [List.append_assoc]
    exact IH _ _ _ _ fun c hc => h c (List.mem_cons_of_mem _ hc)
theorem loop_l2' (A : Ads) (p3 p4 : SpD) (D : DE) (x0 x1 x2 x3 x5 x6 x7 x8 x9 : Option Dv) (st : Nat) (ss : List Stp) (hss : ∀ b ∈ ss, okStp b = true) (S0 : Store) (hS : S0[st]? = some (.lst (ss.map dvS)))
    (k : ∀ T x7 x8 x9, D.nx [x0, x1, x2, x3, some (.loc st), x5, x6, x7, x8, x9] (S0 ++ T)) :
    forGo (gN 7) (den_law_l2 A sp__law_due sp_conflicts p3 p4) (fun S => S[st]? = some (.lst (ss.map dvS))) D (ss.map dvS) [x0, x1, x2, x3, some (.loc st), x5, x6, x7, x8, x9] S0 := by
  have := loop_l2 A p3 p4 D x0 x1 x2 x3 x5 x6 st ss hss S0 hS k ss [] x7 x8 x9 hss
  rw [List.append_nil] at this
  exact this
/-- the steps that the law takes -/
def stepsOf (z0 z1 z2 z3 : Str) : List Stp := [("own", none), ("read", some z0), ("read", some z1), ("write", some z0), ("write", some z1), ("add", some z0), ("add", some z1), ("take", some z2), ("take", some z3), ("give", some z2), ("give", some z3)]
theorem steps_ok {z0 z1 z2 z3 : Str} (h0 : PyData.strOk z0 = true) (h1 : PyData.strOk z1 = true) (h2 : PyData.strOk z2 = true) (h3 : PyData.strOk z3 = true) : ∀ b ∈ stepsOf z0 z1 z2 z3, okStp b = true := by
  have w : ∀ s : Str, s ∈ (["own", "read", "write", "add", "take", "give"] : List Str) → PyData.strOk s = true := fun s hs => strOk_of (by
    have : ∀ s ∈ (["own", "read", "write", "add", "take", "give"] : List Str), okC s = true := by decide +kernel
    exact this s hs)
  intro b hb
  unfold stepsOf at hb
  simp only [List.mem_cons, List.not_mem_nil, or_false] at hb
  rcases hb with rfl | rfl | rfl | rfl | rfl | rfl | rfl | rfl | rfl | rfl | rfl <;> simp only [okStp, h0, h1, h2, h3, Bool.and_true] <;> exact w _ (by simp)
def addW (za zb : Str) (ws : List Str) : List Stp := ws.flatMap fun w => [(w, some za), (w, some zb)]
theorem loop_w (B : WS) (D : DE) (x0 x1 x2 x7 x8 x9 : Option Dv) (nm : Nat) (z0 z1 z2 z3 za zb : Str) (S0 : Store) (stay : Store → Prop) (hst : ∀ T, stay (S0 ++ T)) (hnm : S0[nm]? = some (.lst [.str z0, .str z1, .str z2, .str z3]))
    (hB : ∀ (D : DE) (x6 : Option Dv) (st : Nat) (w : Str) (ss : List Stp) (S : Store), S[nm]? = some (.lst [.str z0, .str z1, .str z2, .str z3]) → S[st]? = some (.lst (ss.map dvS)) → ss.length ≤ 20 →
      (∀ T m x6, (S ++ T)[m]? = some (.lst ((ss ++ [(w, some za), (w, some zb)]).map dvS)) → D.nx [x0, x1, x2, some (.loc nm), some (.loc m), some (.str w), x6, x7, x8, x9] (S ++ T)) →
      B D [x0, x1, x2, some (.loc nm), some (.loc st), some (.str w), x6, x7, x8, x9] S) : ∀ (ws : List Str) (ss : List Stp) (T : Store) (st : Nat) (x5 x6 : Option Dv), (S0 ++ T)[st]? = some (.lst (ss.map dvS)) → ss.length + 2 * ws.length ≤ 20 →
    (∀ T m x5 x6, (S0 ++ T)[m]? = some (.lst ((ss ++ addW za zb ws).map dvS)) → D.nx [x0, x1, x2, some (.loc nm), some (.loc m), x5, x6, x7, x8, x9] (S0 ++ T)) →
    forGo (gN 5) B stay D (ws.map .str) [x0, x1, x2, some (.loc nm), some (.loc st), x5, x6, x7, x8, x9] (S0 ++ T)
  | [], ss, T, st, x5, x6, h, _, k => ⟨hst T, k T st x5 x6 (by rw [addW, List.flatMap_nil, List.append_nil]; exact h)⟩
  | w :: ws, ss, T, st, x5, x6, h, hz, k => by
    rw [List.length_cons] at hz
    rw [List.map_cons, f_cons]
    refine ⟨hst T, ?_⟩
    simp only [DL.o_ixF, DL.len_f, DL.strs_any, DL.strs_all, DL.sz0, DL.sz1, DL.sz2, DL.sz3, DL.sz4, Bool.true_or, Bool.false_or, Bool.or_true, Bool.true_and, Bool.false_and, Bool.and_false, DL.o_eqS, DL.o_neS, DL.o_eqI, DL.o_neI, DL.x_seqT, DL.x_seqL, DL.fl_s, DL.fl_i, DL.in_any, DL.eq_ss, DL.eq_ii, DL.cut1, DL.len_t, DL.len_l, DL.tru_t, DL.tru_l, DL.ite_ff, DL.ite_tt, List.all_cons, List.all_nil, List.any_cons, List.any_nil, Bool.and_true, Bool.or_false, Bool.not_true, Bool.not_false, DL.x_iseq, DL.x_lc, DL.x_istr, DL.x_ir1, DL.x_ir2, DL.x_nil, DL.oGt, DL.oLt, DL.oLe, DL.oGe, Cell.lst.injEq, Cell.ins.injEq, Cell.dic.injEq, exists_and_left, exists_eq_left, Dv.int.injEq, List.length_set, DL.x_v, DL.x_c, DL.x_op, DL.x_an, DL.x_ac, DL.x_as, DL.x_tup, DL.x_lst, DL.x_neg, DL.x_cb, DL.x_call, DL.x_tB, DL.x_tTru, DL.x_tNot, DL.x_tAnd, DL.x_tOr, DL.x_tYes, DL.x_not, DL.x_notT, DL.x_and, DL.x_or, DL.x_if, DL.x_ch, DL.x_cl, DL.x_cm, DL.x_sl, DL.x_pN, DL.x_pS, DL.x_pop, DL.x_lm, DL.x_app, DL.x_ext, DL.x_gExt, DL.x_isiT, DL.x_fld, DL.o_addI, DL.o_addS, DL.o_addT, DL.o_addL, DL.o_sub, DL.o_mul, DL.o_mod, DL.o_div, DL.o_pow, DL.o_c, DL.o_ixT, DL.o_ixL, DL.o_ixS, DL.o_inT, DL.o_inL, DL.o_eqT, DL.o_eqL, DL.o_neT, DL.o_neL, DL.b_len, DL.b_list, DL.b_tupl, DL.b_abs, DL.b_intI, DL.b_intB, DL.b_max, DL.b_min, DL.b_isi, DL.b_all, DL.b_any, DL.b_sum, DL.at0, DL.at1, DL.at2, List.map_cons, List.map_nil, List.length_cons, List.length_nil, List.cons_append, List.nil_append, List.append_nil, List.getElem?_cons_zero, List.getElem?_cons_succ, List.set_cons_zero, List.set_cons_succ, Option.some.injEq, exists_eq_left', true_and, and_true, DL.x_seq, DL.x_set, DL.x_asg, DL.x_par, DL.x_thr, DL.x_put, DL.x_drop, DL.x_ret, DL.x_retN, DL.x_sif, DL.x_gN, DL.x_gT, DL.x_gsN, DL.x_gsC, DL.x_for, DL.x_fldD, DL.x_rz, DL.x_rz2, DL.x_mk, DL.x_prop, DL.x_dc, DL.f_nil, DL.f_cons]
    refine hB _ x6 st w ss _ (get_app hnm) h (by omega) fun T2 m y6 h2 => ?_
    rw [List.append_assoc] at h2 ⊢
    refine loop_w B D x0 x1 x2 x7 x8 x9 nm z0 z1 z2 z3 za zb S0 stay hst hnm hB ws _ _ _ _ _ h2 (by rw [List.length_append]; show ss.length + 2 + _ ≤ 20; omega) fun T3 m3 y5 z6 h3 => k T3 m3 y5 z6 ?_
    rw [h3, addW, addW, List.flatMap_cons, List.append_assoc]
theorem turn_l5 (A : Ads) (D : DE) (ns : List Int) (hns : ns.length ≤ 63) (i : Nat) (hi : i ≤ 10) (x2 x3 x4 x5 x6 x7 x8 x9 : Option Dv) (S : Store)
    (k : ∀ S' y2 y3 y4 y5 y6 y7 y8 y9, D.nx [some (.frl (ns.map .int)), some (.int i), y2, y3, y4, y5, y6, y7, y8, y9] S') :
    den_law_l5 A sp__law_due sp_conflicts sp__law_names sp__law_source D [some (.frl (ns.map .int)), some (.int i), x2, x3, x4, x5, x6, x7, x8, x9] S := by
  unfold den_law_l5
  simp only [DL.o_ixF, DL.len_f, DL.strs_any, DL.strs_all, DL.sz0, DL.sz1, DL.sz2, DL.sz3, DL.sz4, Bool.true_or, Bool.false_or, Bool.or_true, Bool.true_and, Bool.false_and, Bool.and_false, DL.o_eqS, DL.o_neS, DL.o_eqI, DL.o_neI, DL.x_seqT, DL.x_seqL, DL.fl_s, DL.fl_i, DL.in_any, DL.eq_ss, DL.eq_ii, DL.cut1, DL.len_t, DL.len_l, DL.tru_t, DL.tru_l, DL.ite_ff, DL.ite_tt, List.all_cons, List.all_nil, List.any_cons, List.any_nil, Bool.and_true, Bool.or_false, Bool.not_true, Bool.not_false, DL.x_iseq, DL.x_lc, DL.x_istr, DL.x_ir1, DL.x_ir2, DL.x_nil, DL.oGt, DL.oLt, DL.oLe, DL.oGe, Cell.lst.injEq, Cell.ins.injEq, Cell.dic.injEq, exists_and_left, exists_eq_left, Dv.int.injEq, List.length_set, DL.x_v, DL.x_c, DL.x_op, DL.x_an, DL.x_ac, DL.x_as, DL.x_tup, DL.x_lst, DL.x_neg, DL.x_cb, DL.x_call, DL.x_tB, DL.x_tTru, DL.x_tNot, DL.x_tAnd, DL.x_tOr, DL.x_tYes, DL.x_not, DL.x_notT, DL.x_and, DL.x_or, DL.x_if, DL.x_ch, DL.x_cl, DL.x_cm, DL.x_sl, DL.x_pN, DL.x_pS, DL.x_pop, DL.x_lm, DL.x_app, DL.x_ext, DL.x_gExt, DL.x_isiT, DL.x_fld, DL.o_addI, DL.o_addS, DL.o_addT, DL.o_addL, DL.o_sub, DL.o_mul, DL.o_mod, DL.o_div, DL.o_pow, DL.o_c, DL.o_ixT, DL.o_ixL, DL.o_ixS, DL.o_inT, DL.o_inL, DL.o_eqT, DL.o_eqL, DL.o_neT, DL.o_neL, DL.b_len, DL.b_list, DL.b_tupl, DL.b_abs, DL.b_intI, DL.b_intB, DL.b_max, DL.b_min, DL.b_isi, DL.b_all, DL.b_any, DL.b_sum, DL.at0, DL.at1, DL.at2, List.map_cons, List.map_nil, List.length_cons, List.length_nil, List.cons_append, List.nil_append, List.append_nil, List.getElem?_cons_zero, List.getElem?_cons_succ, List.set_cons_zero, List.set_cons_succ, Option.some.injEq, exists_eq_left', true_and, and_true, DL.x_seq, DL.x_set, DL.x_asg, DL.x_par, DL.x_thr, DL.x_put, DL.x_drop, DL.x_ret, DL.x_retN, DL.x_sif, DL.x_gN, DL.x_gT, DL.x_gsN, DL.x_gsC, DL.x_for, DL.x_fldD, DL.x_rz, DL.x_rz2, DL.x_mk, DL.x_prop, DL.x_dc, DL.f_nil, DL.f_cons]
  refine ⟨ns, i, rfl, hi, hns, fun T m hm s0 => ?_⟩
  refine ⟨m, 4, rfl, s0, by decide, fun S2 nm zs k2 s2 hn2 hnm hc hL => ?_⟩
  match zs, hc with
  | [z0, z1, z2, z3], _ =>
    simp only [DL.o_ixF, DL.len_f, DL.strs_any, DL.strs_all, DL.sz0, DL.sz1, DL.sz2, DL.sz3, DL.sz4, Bool.true_or, Bool.false_or, Bool.or_true, Bool.true_and, Bool.false_and, Bool.and_false, DL.o_eqS, DL.o_neS, DL.o_eqI, DL.o_neI, DL.x_seqT, DL.x_seqL, DL.fl_s, DL.fl_i, DL.in_any, DL.eq_ss, DL.eq_ii, DL.cut1, DL.len_t, DL.len_l, DL.tru_t, DL.tru_l, DL.ite_ff, DL.ite_tt, List.all_cons, List.all_nil, List.any_cons, List.any_nil, Bool.and_true, Bool.or_false, Bool.not_true, Bool.not_false, DL.x_iseq, DL.x_lc, DL.x_istr, DL.x_ir1, DL.x_ir2, DL.x_nil, DL.oGt, DL.oLt, DL.oLe, DL.oGe, Cell.lst.injEq, Cell.ins.injEq, Cell.dic.injEq, exists_and_left, exists_eq_left, Dv.int.injEq, List.length_set, DL.x_v, DL.x_c, DL.x_op, DL.x_an, DL.x_ac, DL.x_as, DL.x_tup, DL.x_lst, DL.x_neg, DL.x_cb, DL.x_call, DL.x_tB, DL.x_tTru, DL.x_tNot, DL.x_tAnd, DL.x_tOr, DL.x_tYes, DL.x_not, DL.x_notT, DL.x_and, DL.x_or, DL.x_if, DL.x_ch, DL.x_cl, DL.x_cm, DL.x_sl, DL.x_pN, DL.x_pS, DL.x_pop, DL.x_lm, DL.x_app, DL.x_ext, DL.x_gExt, DL.x_isiT, DL.x_fld, DL.o_addI, DL.o_addS, DL.o_addT, DL.o_addL, DL.o_sub, DL.o_mul, DL.o_mod, DL.o_div, DL.o_pow, DL.o_c, DL.o_ixT, DL.o_ixL, DL.o_ixS, DL.o_inT, DL.o_inL, DL.o_eqT, DL.o_eqL, DL.o_neT, DL.o_neL, DL.b_len, DL.b_list, DL.b_tupl, DL.b_abs, DL.b_intI, DL.b_intB, DL.b_max, DL.b_min, DL.b_isi, DL.b_all, DL.b_any, DL.b_sum, DL.at0, DL.at1, DL.at2, List.map_cons, List.map_nil, List.length_cons, List.length_nil, List.cons_append, List.nil_append, List.append_nil, List.getElem?_cons_zero, List.getElem?_cons_succ, List.set_cons_zero, List.set_cons_succ, Option.some.injEq, exists_eq_left', true_and, and_true, DL.x_seq, DL.x_set, DL.x_asg, DL.x_par, DL.x_thr, DL.x_put, DL.x_drop, DL.x_ret, DL.x_retN, DL.x_sif, DL.x_gN, DL.x_gT, DL.x_gsN, DL.x_gsC, DL.x_for, DL.x_fldD, DL.x_rz, DL.x_rz2, DL.x_mk, DL.x_prop, DL.x_dc, DL.f_nil, DL.f_cons]
    refine ⟨_, get_new, ?_⟩
    have e0 : (S2 ++ [Cell.lst [Dv.tup [Dv.str "own"]]] ++ [Cell.lst [Dv.str "read", Dv.str "write", Dv.str "add"]] : Store) = S2 ++ [Cell.lst [Dv.tup [Dv.str "own"]]] ++ [Cell.lst [Dv.str "read", Dv.str "write", Dv.str "add"]] ++ [] := (List.append_nil _).symm
    rw [e0]
    refine loop_w _ _ _ _ _ _ _ _ nm z0 z1 z2 z3 z0 z1 (S2 ++ [Cell.lst [Dv.tup [Dv.str "own"]]] ++ [Cell.lst [Dv.str "read", Dv.str "write", Dv.str "add"]]) _ (fun T => get_app get_new) (get_app (get_app hnm))
      (fun D x6 st w ss S h1 h2 h3 kk => step_l4 A _ _ _ _ D _ _ _ x6 _ _ _ nm st w z0 z1 z2 z3 ss S h1 h2 h3 kk) ["read", "write", "add"] [("own", none)] [] _ _ _ (get_app (get_app get_new)) (by decide) fun T2 m2 y5 y6 h2 => ?_
    generalize hS3 : (S2 ++ [Cell.lst [Dv.tup [Dv.str "own"]]] ++ [Cell.lst [Dv.str "read", Dv.str "write", Dv.str "add"]] ++ T2 : Store) = S3 at h2 ⊢
    have hnm3 : S3[nm]? = some (.lst ([z0, z1, z2, z3].map Dv.str)) := by rw [← hS3]; exact get_app (get_app (get_app hnm))
    simp only [DL.o_ixF, DL.len_f, DL.strs_any, DL.strs_all, DL.sz0, DL.sz1, DL.sz2, DL.sz3, DL.sz4, Bool.true_or, Bool.false_or, Bool.or_true, Bool.true_and, Bool.false_and, Bool.and_false, DL.o_eqS, DL.o_neS, DL.o_eqI, DL.o_neI, DL.x_seqT, DL.x_seqL, DL.fl_s, DL.fl_i, DL.in_any, DL.eq_ss, DL.eq_ii, DL.cut1, DL.len_t, DL.len_l, DL.tru_t, DL.tru_l, DL.ite_ff, DL.ite_tt, List.all_cons, List.all_nil, List.any_cons, List.any_nil, Bool.and_true, Bool.or_false, Bool.not_true, Bool.not_false, DL.x_iseq, DL.x_lc, DL.x_istr, DL.x_ir1, DL.x_ir2, DL.x_nil, DL.oGt, DL.oLt, DL.oLe, DL.oGe, Cell.lst.injEq, Cell.ins.injEq, Cell.dic.injEq, exists_and_left, exists_eq_left, Dv.int.injEq, List.length_set, DL.x_v, DL.x_c, DL.x_op, DL.x_an, DL.x_ac, DL.x_as, DL.x_tup, DL.x_lst, DL.x_neg, DL.x_cb, DL.x_call, DL.x_tB, DL.x_tTru, DL.x_tNot, DL.x_tAnd, DL.x_tOr, DL.x_tYes, DL.x_not, DL.x_notT, DL.x_and, DL.x_or, DL.x_if, DL.x_ch, DL.x_cl, DL.x_cm, DL.x_sl, DL.x_pN, DL.x_pS, DL.x_pop, DL.x_lm, DL.x_app, DL.x_ext, DL.x_gExt, DL.x_isiT, DL.x_fld, DL.o_addI, DL.o_addS, DL.o_addT, DL.o_addL, DL.o_sub, DL.o_mul, DL.o_mod, DL.o_div, DL.o_pow, DL.o_c, DL.o_ixT, DL.o_ixL, DL.o_ixS, DL.o_inT, DL.o_inL, DL.o_eqT, DL.o_eqL, DL.o_neT, DL.o_neL, DL.b_len, DL.b_list, DL.b_tupl, DL.b_abs, DL.b_intI, DL.b_intB, DL.b_max, DL.b_min, DL.b_isi, DL.b_all, DL.b_any, DL.b_sum, DL.at0, DL.at1, DL.at2, List.map_cons, List.map_nil, List.length_cons, List.length_nil, List.cons_append, List.nil_append, List.append_nil, List.getElem?_cons_zero, List.getElem?_cons_succ, List.set_cons_zero, List.set_cons_succ, Option.some.injEq, exists_eq_left', true_and, and_true, DL.x_seq, DL.x_set, DL.x_asg, DL.x_par, DL.x_thr, DL.x_put, DL.x_drop, DL.x_ret, DL.x_retN, DL.x_sif, DL.x_gN, DL.x_gT, DL.x_gsN, DL.x_gsC, DL.x_for, DL.x_fldD, DL.x_rz, DL.x_rz2, DL.x_mk, DL.x_prop, DL.x_dc, DL.f_nil, DL.f_cons]
    refine ⟨_, get_new, ?_⟩
    have e1 : (S3 ++ [Cell.lst [Dv.str "take", Dv.str "give"]] : Store) = S3 ++ [Cell.lst [Dv.str "take", Dv.str "give"]] ++ [] := (List.append_nil _).symm
    rw [e1]
    refine loop_w _ _ _ _ _ _ _ _ nm z0 z1 z2 z3 z2 z3 (S3 ++ [Cell.lst [Dv.str "take", Dv.str "give"]]) _ (fun T => get_app get_new) (get_app hnm3)
      (fun D x6 st w ss S h1 h2 h3 kk => step_l3 A _ _ _ _ D _ _ _ x6 _ _ _ nm st w z0 z1 z2 z3 ss S h1 h2 h3 kk) ["take", "give"] (("own", none) :: addW z0 z1 ["read", "write", "add"]) [] m2 _ _ (get_app (get_app h2)) (by show 7 + 2 * 2 ≤ 20; decide) fun T3 m3 z5 z6 h3 => ?_
    generalize hS4 : (S3 ++ [Cell.lst [Dv.str "take", Dv.str "give"]] ++ T3 : Store) = S4 at h3 ⊢
    simp only [DL.o_ixF, DL.len_f, DL.strs_any, DL.strs_all, DL.sz0, DL.sz1, DL.sz2, DL.sz3, DL.sz4, Bool.true_or, Bool.false_or, Bool.or_true, Bool.true_and, Bool.false_and, Bool.and_false, DL.o_eqS, DL.o_neS, DL.o_eqI, DL.o_neI, DL.x_seqT, DL.x_seqL, DL.fl_s, DL.fl_i, DL.in_any, DL.eq_ss, DL.eq_ii, DL.cut1, DL.len_t, DL.len_l, DL.tru_t, DL.tru_l, DL.ite_ff, DL.ite_tt, List.all_cons, List.all_nil, List.any_cons, List.any_nil, Bool.and_true, Bool.or_false, Bool.not_true, Bool.not_false, DL.x_iseq, DL.x_lc, DL.x_istr, DL.x_ir1, DL.x_ir2, DL.x_nil, DL.oGt, DL.oLt, DL.oLe, DL.oGe, Cell.lst.injEq, Cell.ins.injEq, Cell.dic.injEq, exists_and_left, exists_eq_left, Dv.int.injEq, List.length_set, DL.x_v, DL.x_c, DL.x_op, DL.x_an, DL.x_ac, DL.x_as, DL.x_tup, DL.x_lst, DL.x_neg, DL.x_cb, DL.x_call, DL.x_tB, DL.x_tTru, DL.x_tNot, DL.x_tAnd, DL.x_tOr, DL.x_tYes, DL.x_not, DL.x_notT, DL.x_and, DL.x_or, DL.x_if, DL.x_ch, DL.x_cl, DL.x_cm, DL.x_sl, DL.x_pN, DL.x_pS, DL.x_pop, DL.x_lm, DL.x_app, DL.x_ext, DL.x_gExt, DL.x_isiT, DL.x_fld, DL.o_addI, DL.o_addS, DL.o_addT, DL.o_addL, DL.o_sub, DL.o_mul, DL.o_mod, DL.o_div, DL.o_pow, DL.o_c, DL.o_ixT, DL.o_ixL, DL.o_ixS, DL.o_inT, DL.o_inL, DL.o_eqT, DL.o_eqL, DL.o_neT, DL.o_neL, DL.b_len, DL.b_list, DL.b_tupl, DL.b_abs, DL.b_intI, DL.b_intB, DL.b_max, DL.b_min, DL.b_isi, DL.b_all, DL.b_any, DL.b_sum, DL.at0, DL.at1, DL.at2, List.map_cons, List.map_nil, List.length_cons, List.length_nil, List.cons_append, List.nil_append, List.append_nil, List.getElem?_cons_zero, List.getElem?_cons_succ, List.set_cons_zero, List.set_cons_succ, Option.some.injEq, exists_eq_left', true_and, and_true, DL.x_seq, DL.x_set, DL.x_asg, DL.x_par, DL.x_thr, DL.x_put, DL.x_drop, DL.x_ret, DL.x_retN, DL.x_sif, DL.x_gN, DL.x_gT, DL.x_gsN, DL.x_gsC, DL.x_for, DL.x_fldD, DL.x_rz, DL.x_rz2, DL.x_mk, DL.x_prop, DL.x_dc, DL.f_nil, DL.f_cons]
    refine ⟨_, h3, ?_⟩
    have ok : ∀ b ∈ stepsOf z0 z1 z2 z3, okStp b = true := steps_ok (hL.so _ (by simp)) (hL.so _ (by simp)) (hL.so _ (by simp)) (hL.so _ (by simp))
    exact loop_l2' A _ _ _ _ _ _ _ _ _ _ _ _ m3 (stepsOf z0 z1 z2 z3) ok S4 h3 fun T y7 y8 y9 => k _ _ _ _ _ _ _ _ _
theorem loop_l5 (A : Ads) (D : DE) (ns : List Int) (hns : ns.length ≤ 63) (k : ∀ l S', D.nx l S') : ∀ (rest : List Nat) (S : Store) (x1 x2 x3 x4 x5 x6 x7 x8 x9 : Option Dv), (∀ i ∈ rest, i ≤ 10) →
    forGo (gN 1) (den_law_l5 A sp__law_due sp_conflicts sp__law_names sp__law_source) (fun _ => True) D (rest.map fun (i : Nat) => Dv.int (0 + (i : Int))) [some (.frl (ns.map .int)), x1, x2, x3, x4, x5, x6, x7, x8, x9] S
  | [], S, x1, x2, x3, x4, x5, x6, x7, x8, x9, _ => ⟨True.intro, k _ S⟩
  | i :: rest, S, x1, x2, x3, x4, x5, x6, x7, x8, x9, h => by
    rw [List.map_cons, f_cons]
    refine ⟨True.intro, ?_⟩
    simp only [DL.o_ixF, DL.len_f, DL.strs_any, DL.strs_all, DL.sz0, DL.sz1, DL.sz2, DL.sz3, DL.sz4, Bool.true_or, Bool.false_or, Bool.or_true, Bool.true_and, Bool.false_and, Bool.and_false, DL.o_eqS, DL.o_neS, DL.o_eqI, DL.o_neI, DL.x_seqT, DL.x_seqL, DL.fl_s, DL.fl_i, DL.in_any, DL.eq_ss, DL.eq_ii, DL.cut1, DL.len_t, DL.len_l, DL.tru_t, DL.tru_l, DL.ite_ff, DL.ite_tt, List.all_cons, List.all_nil, List.any_cons, List.any_nil, Bool.and_true, Bool.or_false, Bool.not_true, Bool.not_false, DL.x_iseq, DL.x_lc, DL.x_istr, DL.x_ir1, DL.x_ir2, DL.x_nil, DL.oGt, DL.oLt, DL.oLe, DL.oGe, Cell.lst.injEq, Cell.ins.injEq, Cell.dic.injEq, exists_and_left, exists_eq_left, Dv.int.injEq, List.length_set, DL.x_v, DL.x_c, DL.x_op, DL.x_an, DL.x_ac, DL.x_as, DL.x_tup, DL.x_lst, DL.x_neg, DL.x_cb, DL.x_call, DL.x_tB, DL.x_tTru, DL.x_tNot, DL.x_tAnd, DL.x_tOr, DL.x_tYes, DL.x_not, DL.x_notT, DL.x_and, DL.x_or, DL.x_if, DL.x_ch, DL.x_cl, DL.x_cm, DL.x_sl, DL.x_pN, DL.x_pS, DL.x_pop, DL.x_lm, DL.x_app, DL.x_ext, DL.x_gExt, DL.x_isiT, DL.x_fld, DL.o_addI, DL.o_addS, DL.o_addT, DL.o_addL, DL.o_sub, DL.o_mul, DL.o_mod, DL.o_div, DL.o_pow, DL.o_c, DL.o_ixT, DL.o_ixL, DL.o_ixS, DL.o_inT, DL.o_inL, DL.o_eqT, DL.o_eqL, DL.o_neT, DL.o_neL, DL.b_len, DL.b_list, DL.b_tupl, DL.b_abs, DL.b_intI, DL.b_intB, DL.b_max, DL.b_min, DL.b_isi, DL.b_all, DL.b_any, DL.b_sum, DL.at0, DL.at1, DL.at2, List.map_cons, List.map_nil, List.length_cons, List.length_nil, List.cons_append, List.nil_append, List.append_nil, List.getElem?_cons_zero, List.getElem?_cons_succ, List.set_cons_zero, List.set_cons_succ, Option.some.injEq, exists_eq_left', true_and, and_true, DL.x_seq, DL.x_set, DL.x_asg, DL.x_par, DL.x_thr, DL.x_put, DL.x_drop, DL.x_ret, DL.x_retN, DL.x_sif, DL.x_gN, DL.x_gT, DL.x_gsN, DL.x_gsC, DL.x_for, DL.x_fldD, DL.x_rz, DL.x_rz2, DL.x_mk, DL.x_prop, DL.x_dc, DL.f_nil, DL.f_cons]
    rw [Int.zero_add]
    exact turn_l5 A _ ns hns i (h i List.mem_cons_self) _ _ _ _ _ _ _ _ S fun S' y2 y3 y4 y5 y6 y7 y8 y9 => loop_l5 A D ns hns k rest S' _ _ _ _ _ _ _ _ _ fun j hj => h j (List.mem_cons_of_mem _ hj)
theorem read_law (A : Ads) (ds : List Dv) (S : Store) (Q : WQ) (E : ExD) (h : sp_law ds S Q E) : den_law A sp__law_due sp_conflicts sp__law_names sp__law_source (deFn Q E) (startD ["script", "k", "source", "names", "steps", "word", "name", "one", "other", "told"] ds) S := by
  obtain ⟨ns, rfl, hns, q⟩ := h
  show den_law A _ _ _ _ (deFn Q E) [some (.frl (ns.map .int)), none, none, none, none, none, none, none, none, none] S
  unfold den_law
  simp only [DL.o_ixF, DL.len_f, DL.strs_any, DL.strs_all, DL.sz0, DL.sz1, DL.sz2, DL.sz3, DL.sz4, Bool.true_or, Bool.false_or, Bool.or_true, Bool.true_and, Bool.false_and, Bool.and_false, DL.o_eqS, DL.o_neS, DL.o_eqI, DL.o_neI, DL.x_seqT, DL.x_seqL, DL.fl_s, DL.fl_i, DL.in_any, DL.eq_ss, DL.eq_ii, DL.cut1, DL.len_t, DL.len_l, DL.tru_t, DL.tru_l, DL.ite_ff, DL.ite_tt, List.all_cons, List.all_nil, List.any_cons, List.any_nil, Bool.and_true, Bool.or_false, Bool.not_true, Bool.not_false, DL.x_iseq, DL.x_lc, DL.x_istr, DL.x_ir1, DL.x_ir2, DL.x_nil, DL.oGt, DL.oLt, DL.oLe, DL.oGe, Cell.lst.injEq, Cell.ins.injEq, Cell.dic.injEq, exists_and_left, exists_eq_left, Dv.int.injEq, List.length_set, DL.x_v, DL.x_c, DL.x_op, DL.x_an, DL.x_ac, DL.x_as, DL.x_tup, DL.x_lst, DL.x_neg, DL.x_cb, DL.x_call, DL.x_tB, DL.x_tTru, DL.x_tNot, DL.x_tAnd, DL.x_tOr, DL.x_tYes, DL.x_not, DL.x_notT, DL.x_and, DL.x_or, DL.x_if, DL.x_ch, DL.x_cl, DL.x_cm, DL.x_sl, DL.x_pN, DL.x_pS, DL.x_pop, DL.x_lm, DL.x_app, DL.x_ext, DL.x_gExt, DL.x_isiT, DL.x_fld, DL.o_addI, DL.o_addS, DL.o_addT, DL.o_addL, DL.o_sub, DL.o_mul, DL.o_mod, DL.o_div, DL.o_pow, DL.o_c, DL.o_ixT, DL.o_ixL, DL.o_ixS, DL.o_inT, DL.o_inL, DL.o_eqT, DL.o_eqL, DL.o_neT, DL.o_neL, DL.b_len, DL.b_list, DL.b_tupl, DL.b_abs, DL.b_intI, DL.b_intB, DL.b_max, DL.b_min, DL.b_isi, DL.b_all, DL.b_any, DL.b_sum, DL.at0, DL.at1, DL.at2, List.map_cons, List.map_nil, List.length_cons, List.length_nil, List.cons_append, List.nil_append, List.append_nil, List.getElem?_cons_zero, List.getElem?_cons_succ, List.set_cons_zero, List.set_cons_succ, Option.some.injEq, exists_eq_left', true_and, and_true, DL.x_seq, DL.x_set, DL.x_asg, DL.x_par, DL.x_thr, DL.x_put, DL.x_drop, DL.x_ret, DL.x_retN, DL.x_sif, DL.x_gN, DL.x_gT, DL.x_gsN, DL.x_gsC, DL.x_for, DL.x_fldD, DL.x_rz, DL.x_rz2, DL.x_mk, DL.x_prop, DL.x_dc, DL.f_nil, DL.f_cons]
  obtain ⟨c, c5, e⟩ := turns 5 (by decide) (ns.map Dv.int).length
  have e : (if (if (5 : Int) < ((ns.map Dv.int).length : Int) then (5 : Int) else ((ns.map Dv.int).length : Int)) > 1 then (if (5 : Int) < ((ns.map Dv.int).length : Int) then (5 : Int) else ((ns.map Dv.int).length : Int)) else 1) = (c : Int) := e
  rw [e]
  refine ⟨⟨by omega, by omega⟩, ?_⟩
  unfold rngD
  rw [Int.toNat_natCast]
  refine loop_l5 A _ ns hns (fun l S' => ?_) (List.range c) S _ _ _ _ _ _ _ _ _ fun i hi => by have := List.mem_range.mp hi; omega
  simp only [DL.o_ixF, DL.len_f, DL.strs_any, DL.strs_all, DL.sz0, DL.sz1, DL.sz2, DL.sz3, DL.sz4, Bool.true_or, Bool.false_or, Bool.or_true, Bool.true_and, Bool.false_and, Bool.and_false, DL.o_eqS, DL.o_neS, DL.o_eqI, DL.o_neI, DL.x_seqT, DL.x_seqL, DL.fl_s, DL.fl_i, DL.in_any, DL.eq_ss, DL.eq_ii, DL.cut1, DL.len_t, DL.len_l, DL.tru_t, DL.tru_l, DL.ite_ff, DL.ite_tt, List.all_cons, List.all_nil, List.any_cons, List.any_nil, Bool.and_true, Bool.or_false, Bool.not_true, Bool.not_false, DL.x_iseq, DL.x_lc, DL.x_istr, DL.x_ir1, DL.x_ir2, DL.x_nil, DL.oGt, DL.oLt, DL.oLe, DL.oGe, Cell.lst.injEq, Cell.ins.injEq, Cell.dic.injEq, exists_and_left, exists_eq_left, Dv.int.injEq, List.length_set, DL.x_v, DL.x_c, DL.x_op, DL.x_an, DL.x_ac, DL.x_as, DL.x_tup, DL.x_lst, DL.x_neg, DL.x_cb, DL.x_call, DL.x_tB, DL.x_tTru, DL.x_tNot, DL.x_tAnd, DL.x_tOr, DL.x_tYes, DL.x_not, DL.x_notT, DL.x_and, DL.x_or, DL.x_if, DL.x_ch, DL.x_cl, DL.x_cm, DL.x_sl, DL.x_pN, DL.x_pS, DL.x_pop, DL.x_lm, DL.x_app, DL.x_ext, DL.x_gExt, DL.x_isiT, DL.x_fld, DL.o_addI, DL.o_addS, DL.o_addT, DL.o_addL, DL.o_sub, DL.o_mul, DL.o_mod, DL.o_div, DL.o_pow, DL.o_c, DL.o_ixT, DL.o_ixL, DL.o_ixS, DL.o_inT, DL.o_inL, DL.o_eqT, DL.o_eqL, DL.o_neT, DL.o_neL, DL.b_len, DL.b_list, DL.b_tupl, DL.b_abs, DL.b_intI, DL.b_intB, DL.b_max, DL.b_min, DL.b_isi, DL.b_all, DL.b_any, DL.b_sum, DL.at0, DL.at1, DL.at2, List.map_cons, List.map_nil, List.length_cons, List.length_nil, List.cons_append, List.nil_append, List.append_nil, List.getElem?_cons_zero, List.getElem?_cons_succ, List.set_cons_zero, List.set_cons_succ, Option.some.injEq, exists_eq_left', true_and, and_true, DL.x_seq, DL.x_set, DL.x_asg, DL.x_par, DL.x_thr, DL.x_put, DL.x_drop, DL.x_ret, DL.x_retN, DL.x_sif, DL.x_gN, DL.x_gT, DL.x_gsN, DL.x_gsC, DL.x_for, DL.x_fldD, DL.x_rz, DL.x_rz2, DL.x_mk, DL.x_prop, DL.x_dc, DL.f_nil, DL.f_cons]
  exact q S'
end U

namespace U
open PySem L2 DL
def topS (i : Nat) : Stmt := PySem.Challenge.pw_unbrokenruns_k21_steps_that_conflict.main.body.getD i (.Pass ⟨0, 0, 0, 0⟩)
abbrev s_conflicts : Stmt := topS 1
theorem sc_conflicts : FnScope (["one", "other"] : List Str) (["one", "other"] : List Str) (defScope s_conflicts) := ⟨rfl, rfl, rfl, by decide +kernel, rfl, by decide +kernel, by decide +kernel⟩
theorem body_conflicts {P : PySem.Program} {w : World} {K : PySem.W.Frag} {mg : Str → Option Value} {base : Heap} {A : Ads} {k : Nat} (B : Blt mg) :
    BodyAt P w K mg base (["one", "other"] : List Str) "conflicts" s_conflicts k (den_conflicts A) :=
  fun f cdv A_ outer s H E hr tk po =>
  (s_cons (s_if (FW.ft (wor (teq hr.units (flen (by rfl) B.len_ (fa_c (fv 0) fa_n)) fi) (wor (teq hr.units (flen (by rfl) B.len_ (fa_c (fv 1) fa_n)) fi) (wor1 (tne hr.units (fix (fv 0) fi) (fix (fv 1) fi)))))) (s_one (s_ret fb)) s_nil) (s_one (s_ret (for_ (fne hr.units (fix (fv 0) fi) (fix (fv 1) fi)) (fone (fnin (fix (fv 0) fi) (ftup (fa_c fs (fa_c fs fa_n))) (by rfl)))))))
abbrev s__law_source : Stmt := topS 3
theorem sc__law_source : FnScope (["script", "k", "cell", "size", "mixed"] : List Str) (["script", "k"] : List Str) (defScope s__law_source) := ⟨rfl, rfl, rfl, by decide +kernel, rfl, by decide +kernel, by decide +kernel⟩
theorem body__law_source {P : PySem.Program} {w : World} {K : PySem.W.Frag} {mg : Str → Option Value} {base : Heap} {A : Ads} {k : Nat} (B : Blt mg) :
    BodyAt P w K mg base (["script", "k", "cell", "size", "mixed"] : List Str) "_law_source" s__law_source k (den__law_source A) :=
  fun f cdv A_ outer s H E hr tk po =>
  (s_cons (s_set (i := 2) sc__law_source.nd rfl (by first | exact Or.inl rfl | exact Or.inr rfl) (fadd (fmul fi (fsum rfl (by rfl) B.sum_ (fa_c (fsl (fv 0) fp_n (fp_s fi)) fa_n))) (fv 1))) (s_cons (s_if (tlt (fv 1) (flen (by rfl) B.len_ (fa_c (fv 0) fa_n))) (s_one (s_set (i := 2) sc__law_source.nd rfl (by first | exact Or.inl rfl | exact Or.inr rfl) (fix (fv 0) (fv 1)))) s_nil) (s_cons (s_set (i := 3) sc__law_source.nd rfl (by first | exact Or.inl rfl | exact Or.inr rfl) (fabs (by rfl) B.abs_ (fa_c (fv 2) fa_n))) (s_cons (s_set (i := 4) sc__law_source.nd rfl (by first | exact Or.inl rfl | exact Or.inr rfl) (fadd (fadd (fadd (fmod (fint (by rfl) B.int_ (fa_c (fv 3) fa_n)) fi) (fmul (fmul fi (fv 1)) (fv 1))) (fmul fi (fv 1))) fi)) (s_cons (s_set (i := 4) sc__law_source.nd rfl (by first | exact Or.inl rfl | exact Or.inr rfl) (fmod (fint (by rfl) B.int_ (fa_c (fmul (fv 4) fi) fa_n)) fi)) (s_one (s_ret (flst (fa_c (fmul (fv 3) (fint (by rfl) B.int_ (fa_c (fge (fv 3) (fpow fi fi)) fa_n))) (fa_c (fmod (fint (by rfl) B.int_ (fa_c (fmul (fv 4) (fv 4)) fa_n)) fi) fa_n))))))))))
abbrev s__law_draw : Stmt := topS 4
theorem sc__law_draw : FnScope (["source", "many", "result"] : List Str) (["source", "many"] : List Str) (defScope s__law_draw) := ⟨rfl, rfl, rfl, by decide +kernel, rfl, by decide +kernel, by decide +kernel⟩
theorem body__law_draw {P : PySem.Program} {w : World} {K : PySem.W.Frag} {mg : Str → Option Value} {base : Heap} {A : Ads} {k : Nat} (B : Blt mg) :
    BodyAt P w K mg base (["source", "many", "result"] : List Str) "_law_draw" s__law_draw k (den__law_draw A) :=
  fun f cdv A_ outer s H E hr tk po =>
  (s_cons (s_if (tgt (fix (fv 0) fi) fi) (s_cons (s_set (i := 2) sc__law_draw.nd rfl (by first | exact Or.inl rfl | exact Or.inr rfl) (fmod (fint (by rfl) B.int_ (fa_c (fix (fv 0) fi) fa_n)) (fv 1))) (s_cons (s_put (fdiv (fix (fv 0) fi) (fv 1)) (fv 0) fi) (s_one (s_ret (fv 2))))) s_nil) (s_cons (s_put (fmod (fint (by rfl) B.int_ (fa_c (fadd (fmul (fix (fv 0) fi) fi) fi) fa_n)) fi) (fv 0) fi) (s_one (s_ret (fmod (fint (by rfl) B.int_ (fa_c (fdiv (fmod (fmul (fix (fv 0) fi) (fix (fv 0) fi)) fi) fi) fa_n)) (fv 1))))))
abbrev s__law_names : Stmt := topS 5
theorem sc__law_names : FnScope (["source", "count", "signs", "origin", "step", "tail", "k"] : List Str) (["source", "count"] : List Str) (defScope s__law_names) := ⟨rfl, rfl, rfl, by decide +kernel, rfl, by decide +kernel, by decide +kernel⟩
theorem body__law_names {P : PySem.Program} {w : World} {K : PySem.W.Frag} {mg : Str → Option Value} {base : Heap} {A : Ads} {sp__law_draw : SpD} {k k__law_draw : Nat} (B : Blt mg) (c__law_draw : Callee P w K mg base "_law_draw" k__law_draw ["source", "many"] sp__law_draw) (h__law_draw : k__law_draw ≤ k) :
    BodyAt P w K mg base (["source", "count", "signs", "origin", "step", "tail", "k"] : List Str) "_law_names" s__law_names k (den__law_names A sp__law_draw) :=
  fun f cdv A_ outer s H E hr tk po =>
  (s_cons (s_set (i := 2) sc__law_names.nd rfl (by first | exact Or.inl rfl | exact Or.inr rfl) fs) (s_cons (s_asg (ftup (fa_c (fca c__law_draw tk (hr.mono h__law_draw) (fa_c (fv 0) (fa_c fi fa_n))) (fa_c (fadd fi (fmul fi (fca c__law_draw tk (hr.mono h__law_draw) (fa_c (fv 0) (fa_c fi fa_n))))) fa_n))) (g_tup rfl (gs_cons (g_name (i := 3) sc__law_names.nd rfl (by first | exact Or.inl rfl | exact Or.inr rfl)) (gs_cons (g_name (i := 4) sc__law_names.nd rfl (by first | exact Or.inl rfl | exact Or.inr rfl)) gs_nil gN_e) gN_e))) (s_cons (s_set (i := 5) sc__law_names.nd rfl (by first | exact Or.inl rfl | exact Or.inr rfl) (fix (flst (fa_c fs (fa_c fs (fa_c fs (fa_c fs fa_n))))) (fca c__law_draw tk (hr.mono h__law_draw) (fa_c (fv 0) (fa_c fi fa_n))))) (s_one (s_ret (flc (T := (.nm 6)) (own := [("k", 6)]) rfl sc__law_names.nd (i_r1 (by rfl) B.range_ (fa_c (fv 1) fa_n)) (blkOk_by (own := [("k", 6)]) (N := ["source", "count", "signs", "origin", "step", "tail", "k"]) (sc := defScope s__law_names) (by decide +kernel)) (fun _ _ _ _ _ => (pg_name (i := 6) sc__law_names.nd rfl (by first | exact Or.inl rfl | exact Or.inr rfl))) (fun _ _ _ _ _ => ts_nil) (fun _ _ _ _ _ => (fadd (fix (fv 2) (fmod (fadd (fv 3) (fmul (fv 4) (fv 6))) fi)) (fv 5)))))))))
abbrev s__law_due : Stmt := topS 6
theorem sc__law_due : FnScope (["one", "other"] : List Str) (["one", "other"] : List Str) (defScope s__law_due) := ⟨rfl, rfl, rfl, by decide +kernel, rfl, by decide +kernel, by decide +kernel⟩
theorem body__law_due {P : PySem.Program} {w : World} {K : PySem.W.Frag} {mg : Str → Option Value} {base : Heap} {A : Ads} {k : Nat} :
    BodyAt P w K mg base (["one", "other"] : List Str) "_law_due" s__law_due k (den__law_due A) :=
  fun f cdv A_ outer s H E hr tk po =>
  (s_cons (s_if (FW.ft (wor (teq hr.units (fsl (fv 0) (fp_s fi) fp_n) (ftup fa_n)) (wor (teq hr.units (fsl (fv 1) (fp_s fi) fp_n) (ftup fa_n)) (wor1 (tne hr.units (fsl (fv 0) (fp_s fi) fp_n) (fsl (fv 1) (fp_s fi) fp_n)))))) (s_one (s_ret fb)) s_nil) (s_one (s_ret (fand (fne hr.units (flst (fa_c (fix (fv 0) fi) (fa_c (fix (fv 1) fi) fa_n))) (flst (fa_c fs (fa_c fs fa_n)))) (fone (fne hr.units (flst (fa_c (fix (fv 0) fi) (fa_c (fix (fv 1) fi) fa_n))) (flst (fa_c fs (fa_c fs fa_n)))))))))
abbrev s_law : Stmt := topS 7
theorem sc_law : FnScope (["script", "k", "source", "names", "steps", "word", "name", "one", "other", "told"] : List Str) (["script"] : List Str) (defScope s_law) := ⟨rfl, rfl, rfl, by decide +kernel, rfl, by decide +kernel, by decide +kernel⟩
theorem body_law {P : PySem.Program} {w : World} {K : PySem.W.Frag} {mg : Str → Option Value} {base : Heap} {A : Ads} {sp__law_due : SpD} {sp_conflicts : SpD} {sp__law_names : SpD} {sp__law_source : SpD} {k k__law_due k_conflicts k__law_names k__law_source : Nat} (B : Blt mg) (c__law_due : Callee P w K mg base "_law_due" k__law_due ["one", "other"] sp__law_due) (h__law_due : k__law_due ≤ k) (c_conflicts : Callee P w K mg base "conflicts" k_conflicts ["one", "other"] sp_conflicts) (h_conflicts : k_conflicts ≤ k) (c__law_names : Callee P w K mg base "_law_names" k__law_names ["source", "count"] sp__law_names) (h__law_names : k__law_names ≤ k) (c__law_source : Callee P w K mg base "_law_source" k__law_source ["script", "k"] sp__law_source) (h__law_source : k__law_source ≤ k) :
    BodyAt P w K mg base (["script", "k", "source", "names", "steps", "word", "name", "one", "other", "told"] : List Str) "law" s_law k (den_law A sp__law_due sp_conflicts sp__law_names sp__law_source) :=
  fun f cdv A_ outer s H E hr tk po =>
  (s_cons (s_for po rfl (i_r1 (by rfl) B.range_ (fa_c (fmax2 rfl (by rfl) B.max_ (fa_c fi (fa_c (fmin2 rfl (by rfl) B.min_ (fa_c (flen (by rfl) B.len_ (fa_c (fv 0) fa_n)) (fa_c fi fa_n))) fa_n))) fa_n)) (g_name (i := 1) sc_law.nd rfl (by first | exact Or.inl rfl | exact Or.inr rfl)) (s_cons (s_set (i := 2) sc_law.nd rfl (by first | exact Or.inl rfl | exact Or.inr rfl) (fca c__law_source tk (hr.mono h__law_source) (fa_c (fv 0) (fa_c (fv 1) fa_n)))) (s_cons (s_set (i := 3) sc_law.nd rfl (by first | exact Or.inl rfl | exact Or.inr rfl) (fca c__law_names tk (hr.mono h__law_names) (fa_c (fv 2) (fa_c fi fa_n)))) (s_cons (s_set (i := 4) sc_law.nd rfl (by first | exact Or.inl rfl | exact Or.inr rfl) (flst (fa_c (ftup (fa_c fs fa_n)) fa_n))) (s_cons (s_for po rfl (i_seq (flst (fa_c fs (fa_c fs (fa_c fs fa_n))))) (g_name (i := 5) sc_law.nd rfl (by first | exact Or.inl rfl | exact Or.inr rfl)) (s_one (s_set (i := 4) sc_law.nd rfl (by first | exact Or.inl rfl | exact Or.inr rfl) (fadd (fv 4) (flc (T := (.nm 6)) (own := [("name", 6)]) rfl sc_law.nd (i_seq (fsl (fv 3) fp_n (fp_s fi))) (blkOk_by (own := [("name", 6)]) (N := ["script", "k", "source", "names", "steps", "word", "name", "one", "other", "told"]) (sc := defScope s_law) (by decide +kernel)) (fun _ _ _ _ _ => (pg_name (i := 6) sc_law.nd rfl (by first | exact Or.inl rfl | exact Or.inr rfl))) (fun _ _ _ _ _ => ts_nil) (fun _ _ _ _ _ => (ftup (fa_c (fv 5) (fa_c (fv 6) fa_n))))))))) (s_cons (s_for po rfl (i_seq (flst (fa_c fs (fa_c fs fa_n)))) (g_name (i := 5) sc_law.nd rfl (by first | exact Or.inl rfl | exact Or.inr rfl)) (s_one (s_set (i := 4) sc_law.nd rfl (by first | exact Or.inl rfl | exact Or.inr rfl) (fadd (fv 4) (flc (T := (.nm 6)) (own := [("name", 6)]) rfl sc_law.nd (i_seq (fsl (fv 3) (fp_s fi) fp_n)) (blkOk_by (own := [("name", 6)]) (N := ["script", "k", "source", "names", "steps", "word", "name", "one", "other", "told"]) (sc := defScope s_law) (by decide +kernel)) (fun _ _ _ _ _ => (pg_name (i := 6) sc_law.nd rfl (by first | exact Or.inl rfl | exact Or.inr rfl))) (fun _ _ _ _ _ => ts_nil) (fun _ _ _ _ _ => (ftup (fa_c (fv 5) (fa_c (fv 6) fa_n))))))))) (s_one (s_for po rfl (i_seq (fv 4)) (g_name (i := 7) sc_law.nd rfl (by first | exact Or.inl rfl | exact Or.inr rfl)) (s_one (s_for po rfl (i_seq (fv 4)) (g_name (i := 8) sc_law.nd rfl (by first | exact Or.inl rfl | exact Or.inr rfl)) (s_cons (s_set (i := 9) sc_law.nd rfl (by first | exact Or.inl rfl | exact Or.inr rfl) (fca c_conflicts tk (hr.mono h_conflicts) (fa_c (fv 7) (fa_c (fv 8) fa_n)))) (s_one (s_if (FW.ft (wor (tnot (tval (fisi (by rfl) B.isinstance_ (fa_c (fv 9) (fa_c (fbi (by rfl) B.bool_ (by decide +kernel)) fa_n))))) (wor (tne hr.units (fv 9) (fca c__law_due tk (hr.mono h__law_due) (fa_c (fv 7) (fa_c (fv 8) fa_n)))) (wor1 (tne hr.units (fca c_conflicts tk (hr.mono h_conflicts) (fa_c (fv 8) (fa_c (fv 7) fa_n))) (fv 9)))))) (s_one (s_ret fb)) s_nil))))))))))))) (s_one (s_ret fb)))
end U

namespace U
open PySem L2 DL
theorem all_mk {l : PySem.W.OpenLaw} {w : World} {K : PySem.W.Frag} {h : Heap} {mg : Str → Option Value} {fa : Addr} (X : K.In h) (G : h.Ns mainGlobals mg) (hfa : mg "law" = some (.ref fa))
    {F_conflicts : Addr} {od_conflicts an_conflicts : Option Addr} {sl_conflicts : Array (Option Value)} {oc_conflicts kV_conflicts dc_conflicts pm_conflicts cd_conflicts ct_conflicts : Value}
    {F__law_source : Addr} {od__law_source an__law_source : Option Addr} {sl__law_source : Array (Option Value)} {oc__law_source kV__law_source dc__law_source pm__law_source cd__law_source ct__law_source : Value}
    {F__law_draw : Addr} {od__law_draw an__law_draw : Option Addr} {sl__law_draw : Array (Option Value)} {oc__law_draw kV__law_draw dc__law_draw pm__law_draw cd__law_draw ct__law_draw : Value}
    {F__law_names : Addr} {od__law_names an__law_names : Option Addr} {sl__law_names : Array (Option Value)} {oc__law_names kV__law_names dc__law_names pm__law_names cd__law_names ct__law_names : Value}
    {F__law_due : Addr} {od__law_due an__law_due : Option Addr} {sl__law_due : Array (Option Value)} {oc__law_due kV__law_due dc__law_due pm__law_due cd__law_due ct__law_due : Value}
    {F_law : Addr} {od_law an_law : Option Addr} {sl_law : Array (Option Value)} {oc_law kV_law dc_law pm_law cd_law ct_law : Value}
    (b_abs : PySem.W.nsIn K mainGlobals "abs" = some none)
    (b_all : PySem.W.nsIn K mainGlobals "all" = some none)
    (b_any : PySem.W.nsIn K mainGlobals "any" = some none)
    (b_bool : PySem.W.nsIn K mainGlobals "bool" = some none)
    (b_dict : PySem.W.nsIn K mainGlobals "dict" = some none)
    (b_enumerate : PySem.W.nsIn K mainGlobals "enumerate" = some none)
    (b_int : PySem.W.nsIn K mainGlobals "int" = some none)
    (b_isinstance : PySem.W.nsIn K mainGlobals "isinstance" = some none)
    (b_len : PySem.W.nsIn K mainGlobals "len" = some none)
    (b_list : PySem.W.nsIn K mainGlobals "list" = some none)
    (b_max : PySem.W.nsIn K mainGlobals "max" = some none)
    (b_min : PySem.W.nsIn K mainGlobals "min" = some none)
    (b_range : PySem.W.nsIn K mainGlobals "range" = some none)
    (b_reversed : PySem.W.nsIn K mainGlobals "reversed" = some none)
    (b_sorted : PySem.W.nsIn K mainGlobals "sorted" = some none)
    (b_str : PySem.W.nsIn K mainGlobals "str" = some none)
    (b_sum : PySem.W.nsIn K mainGlobals "sum" = some none)
    (b_tuple : PySem.W.nsIn K mainGlobals "tuple" = some none)
    (b_zip : PySem.W.nsIn K mainGlobals "zip" = some none)
    (n_conflicts : PySem.W.nsIn K mainGlobals "conflicts" = some (some (.ref F_conflicts)))
    (l_conflicts : K.lookup F_conflicts = some ⟨oc_conflicts, od_conflicts, .func (PySem.W.fnOf "conflicts" "conflicts" (defArgs s_conflicts) (defBody s_conflicts) (defScope s_conflicts) .none kV_conflicts dc_conflicts pm_conflicts an_conflicts cd_conflicts ct_conflicts), sl_conflicts⟩)
    (c_conflicts : PySem.W.codeIn K cd_conflicts "conflicts" = true)
    (k_conflicts : PySem.W.keepIn K (.ref F_conflicts) = true)
    (n__law_source : PySem.W.nsIn K mainGlobals "_law_source" = some (some (.ref F__law_source)))
    (l__law_source : K.lookup F__law_source = some ⟨oc__law_source, od__law_source, .func (PySem.W.fnOf "_law_source" "_law_source" (defArgs s__law_source) (defBody s__law_source) (defScope s__law_source) .none kV__law_source dc__law_source pm__law_source an__law_source cd__law_source ct__law_source), sl__law_source⟩)
    (c__law_source : PySem.W.codeIn K cd__law_source "_law_source" = true)
    (k__law_source : PySem.W.keepIn K (.ref F__law_source) = true)
    (n__law_draw : PySem.W.nsIn K mainGlobals "_law_draw" = some (some (.ref F__law_draw)))
    (l__law_draw : K.lookup F__law_draw = some ⟨oc__law_draw, od__law_draw, .func (PySem.W.fnOf "_law_draw" "_law_draw" (defArgs s__law_draw) (defBody s__law_draw) (defScope s__law_draw) .none kV__law_draw dc__law_draw pm__law_draw an__law_draw cd__law_draw ct__law_draw), sl__law_draw⟩)
    (c__law_draw : PySem.W.codeIn K cd__law_draw "_law_draw" = true)
    (k__law_draw : PySem.W.keepIn K (.ref F__law_draw) = true)
    (n__law_names : PySem.W.nsIn K mainGlobals "_law_names" = some (some (.ref F__law_names)))
    (l__law_names : K.lookup F__law_names = some ⟨oc__law_names, od__law_names, .func (PySem.W.fnOf "_law_names" "_law_names" (defArgs s__law_names) (defBody s__law_names) (defScope s__law_names) .none kV__law_names dc__law_names pm__law_names an__law_names cd__law_names ct__law_names), sl__law_names⟩)
    (c__law_names : PySem.W.codeIn K cd__law_names "_law_names" = true)
    (k__law_names : PySem.W.keepIn K (.ref F__law_names) = true)
    (n__law_due : PySem.W.nsIn K mainGlobals "_law_due" = some (some (.ref F__law_due)))
    (l__law_due : K.lookup F__law_due = some ⟨oc__law_due, od__law_due, .func (PySem.W.fnOf "_law_due" "_law_due" (defArgs s__law_due) (defBody s__law_due) (defScope s__law_due) .none kV__law_due dc__law_due pm__law_due an__law_due cd__law_due ct__law_due), sl__law_due⟩)
    (c__law_due : PySem.W.codeIn K cd__law_due "_law_due" = true)
    (k__law_due : PySem.W.keepIn K (.ref F__law_due) = true)
    (n_law : PySem.W.nsIn K mainGlobals "law" = some (some (.ref F_law)))
    (l_law : K.lookup F_law = some ⟨oc_law, od_law, .func (PySem.W.fnOf "law" "law" (defArgs s_law) (defBody s_law) (defScope s_law) .none kV_law dc_law pm_law an_law cd_law ct_law), sl_law⟩)
    (c_law : PySem.W.codeIn K cd_law "law" = true)
    (k_law : PySem.W.keepIn K (.ref F_law) = true) :
    ∃ fd : FuncData, (∀ (s : Shared) (v : Value), BindsTo s fd ⟨[v], []⟩ [("script", v)]) ∧ ∀ base : Heap, K.In base → base.Ns mainGlobals mg → FnOk l.prog w K mg base (L2.CX l.prog w) 3 fa fd ["script"] (upSp K sp_law) := by
  have e := hfa.symm.trans (PySem.W.mg_of X G n_law)
  cases e
  have B : Blt mg := ⟨PySem.W.mg_none_of X G b_abs, PySem.W.mg_none_of X G b_all, PySem.W.mg_none_of X G b_any, PySem.W.mg_none_of X G b_bool, PySem.W.mg_none_of X G b_dict, PySem.W.mg_none_of X G b_enumerate, PySem.W.mg_none_of X G b_int, PySem.W.mg_none_of X G b_isinstance, PySem.W.mg_none_of X G b_len, PySem.W.mg_none_of X G b_list, PySem.W.mg_none_of X G b_max, PySem.W.mg_none_of X G b_min, PySem.W.mg_none_of X G b_range, PySem.W.mg_none_of X G b_reversed, PySem.W.mg_none_of X G b_sorted, PySem.W.mg_none_of X G b_str, PySem.W.mg_none_of X G b_sum, PySem.W.mg_none_of X G b_tuple, PySem.W.mg_none_of X G b_zip⟩
  let A : Ads := fun s => 0
  have FF_conflicts := fun_mk (st := s_conflicts) l_conflicts c_conflicts k_conflicts
  have bb_conflicts := FF_conflicts.binds (ps := (["one", "other"] : List Str)) fun _ _ _ _ _ _ us hl => match us, hl with | [_, _], _ => rfl
  have D_conflicts : DefAt K mg "conflicts" s_conflicts (["one", "other"] : List Str) := ⟨_, _, FF_conflicts, PySem.W.mg_of X G n_conflicts, k_conflicts, bb_conflicts⟩
  have FF__law_source := fun_mk (st := s__law_source) l__law_source c__law_source k__law_source
  have bb__law_source := FF__law_source.binds (ps := (["script", "k"] : List Str)) fun _ _ _ _ _ _ us hl => match us, hl with | [_, _], _ => rfl
  have D__law_source : DefAt K mg "_law_source" s__law_source (["script", "k"] : List Str) := ⟨_, _, FF__law_source, PySem.W.mg_of X G n__law_source, k__law_source, bb__law_source⟩
  have FF__law_draw := fun_mk (st := s__law_draw) l__law_draw c__law_draw k__law_draw
  have bb__law_draw := FF__law_draw.binds (ps := (["source", "many"] : List Str)) fun _ _ _ _ _ _ us hl => match us, hl with | [_, _], _ => rfl
  have D__law_draw : DefAt K mg "_law_draw" s__law_draw (["source", "many"] : List Str) := ⟨_, _, FF__law_draw, PySem.W.mg_of X G n__law_draw, k__law_draw, bb__law_draw⟩
  have FF__law_names := fun_mk (st := s__law_names) l__law_names c__law_names k__law_names
  have bb__law_names := FF__law_names.binds (ps := (["source", "count"] : List Str)) fun _ _ _ _ _ _ us hl => match us, hl with | [_, _], _ => rfl
  have D__law_names : DefAt K mg "_law_names" s__law_names (["source", "count"] : List Str) := ⟨_, _, FF__law_names, PySem.W.mg_of X G n__law_names, k__law_names, bb__law_names⟩
  have FF__law_due := fun_mk (st := s__law_due) l__law_due c__law_due k__law_due
  have bb__law_due := FF__law_due.binds (ps := (["one", "other"] : List Str)) fun _ _ _ _ _ _ us hl => match us, hl with | [_, _], _ => rfl
  have D__law_due : DefAt K mg "_law_due" s__law_due (["one", "other"] : List Str) := ⟨_, _, FF__law_due, PySem.W.mg_of X G n__law_due, k__law_due, bb__law_due⟩
  have FF_law := fun_mk (st := s_law) l_law c_law k_law
  have bb_law := FF_law.binds (ps := (["script"] : List Str)) fun _ _ _ _ _ _ us hl => match us, hl with | [_], _ => rfl
  have D_law : DefAt K mg "law" s_law (["script"] : List Str) := ⟨_, _, FF_law, PySem.W.mg_of X G n_law, k_law, bb_law⟩
  refine ⟨PySem.W.fnOf "law" "law" (defArgs s_law) (defBody s_law) (defScope s_law) .none kV_law dc_law pm_law an_law cd_law ct_law, fun s v => .of_eq rfl, fun base _ _ => ?_⟩
  have cc__law_due : Callee l.prog w K mg base "_law_due" 1 ["one", "other"] sp__law_due := call_def D__law_due sc__law_due sp__law_due_len sp__law_due_mo (body__law_due (k := 0) (A := A) ) (read__law_due A)
  have cc_conflicts : Callee l.prog w K mg base "conflicts" 1 ["one", "other"] sp_conflicts := call_def D_conflicts sc_conflicts sp_conflicts_len sp_conflicts_mo (body_conflicts (k := 0) (A := A) B) (read_conflicts A)
  have cc__law_draw : Callee l.prog w K mg base "_law_draw" 1 ["source", "many"] sp__law_draw := call_def D__law_draw sc__law_draw sp__law_draw_len sp__law_draw_mo (body__law_draw (k := 0) (A := A) B) (read__law_draw A)
  have cc__law_names : Callee l.prog w K mg base "_law_names" 2 ["source", "count"] sp__law_names := call_def D__law_names sc__law_names sp__law_names_len sp__law_names_mo (body__law_names (k := 1) (A := A) B cc__law_draw (by decide)) (read__law_names A)
  have cc__law_source : Callee l.prog w K mg base "_law_source" 1 ["script", "k"] sp__law_source := call_def D__law_source sc__law_source sp__law_source_len sp__law_source_mo (body__law_source (k := 0) (A := A) B) (read__law_source A)
  exact (fnd_body FF_law sc_law sp_law_len sp_law_mo (body_law (k := 2) (A := A) B cc__law_due (by decide) cc_conflicts (by decide) cc__law_names (by decide) cc__law_source (by decide)) (read_law A)).fn
theorem walk {l : PySem.W.OpenLaw} {q : Program} {loose : List Str} {XP : (Str → Option Value) → Heap → Prop} {YP : World → Heap → Prop} {d : DefRec} {K : Params → PySem.W.Frag} (hn : l.most = some 63) (hdf : d.params.defaults = [])
    (hY : ∀ (w : World) (h : Heap), YP w h → (K w.params).In h)
    (F : ∀ (w : World) (mg : Str → Option Value) (fa : Addr) (h : Heap), (K w.params).In h → h.Ns mainGlobals mg → mg d.name = some (.ref fa) →
      ∃ fd : FuncData, (∀ (s : Shared) (u : Value), BindsTo s fd ⟨[u], []⟩ [("script", u)]) ∧ ∀ base : Heap, (K w.params).In base → base.Ns mainGlobals mg → FnOk l.prog w (K w.params) mg base (L2.CX l.prog w) 3 fa fd ["script"] (upSp (K w.params) sp_law)) :
    PySem.W.WalkO q loose XP YP l.row.toRowW d [] (fun f vs => PySem.call f vs) :=
  L2.walk_of (n := 63) (k := 3) (x := "script") (CX := fun w => L2.CX l.prog w) (sp := fun w => upSp (K w.params) sp_law) hn (by decide) hdf ⟨rfl, by decide, by decide⟩ hY F
    (fun w H a ns hl hO hS => law_up hl hO hS) fun w H s e s' ⟨_, _, _, _, _, _, _, _, _, _, _, _, z⟩ => z
end U
open PySem PySem.W PyProof.Rows
set_option maxRecDepth 100000 in
set_option maxHeartbeats 0 in
theorem PySem.Challenge.cw_unbrokenruns_k21_steps_that_conflict_holds : PySem.Challenge.rw_unbrokenruns_k21_steps_that_conflict.Holds := by
  w_on; o_law; k_head; (case hw => w_witness2)
  k_fill
  refine U.walk (l := PySem.Challenge.rw_unbrokenruns_k21_steps_that_conflict) rfl rfl (fun w h Y => PySem.W.kIn_of Y) ?F
  case F =>
    intro w mg fa h KX G hmg
    refine' U.all_mk KX G hmg ?b_abs ?b_all ?b_any ?b_bool ?b_dict ?b_enumerate ?b_int ?b_isinstance ?b_len ?b_list ?b_max ?b_min ?b_range ?b_reversed ?b_sorted ?b_str ?b_sum ?b_tuple ?b_zip ?n_conflicts ?l_conflicts ?c_conflicts ?k_conflicts ?n__law_source ?l__law_source ?c__law_source ?k__law_source ?n__law_draw ?l__law_draw ?c__law_draw ?k__law_draw ?n__law_names ?l__law_names ?c__law_names ?k__law_names ?n__law_due ?l__law_due ?c__law_due ?k__law_due ?n_law ?l_law ?c_law ?k_law
    (case b_abs => k_is)
    (case b_all => k_is)
    (case b_any => k_is)
    (case b_bool => k_is)
    (case b_dict => k_is)
    (case b_enumerate => k_is)
    (case b_int => k_is)
    (case b_isinstance => k_is)
    (case b_len => k_is)
    (case b_list => k_is)
    (case b_max => k_is)
    (case b_min => k_is)
    (case b_range => k_is)
    (case b_reversed => k_is)
    (case b_sorted => k_is)
    (case b_str => k_is)
    (case b_sum => k_is)
    (case b_tuple => k_is)
    (case b_zip => k_is)
    (case n_conflicts => k_is)
    (case l_conflicts => k_is)
    (case c_conflicts => k_is)
    (case k_conflicts => k_is)
    (case n__law_source => k_is)
    (case l__law_source => k_is)
    (case c__law_source => k_is)
    (case k__law_source => k_is)
    (case n__law_draw => k_is)
    (case l__law_draw => k_is)
    (case c__law_draw => k_is)
    (case k__law_draw => k_is)
    (case n__law_names => k_is)
    (case l__law_names => k_is)
    (case c__law_names => k_is)
    (case k__law_names => k_is)
    (case n__law_due => k_is)
    (case l__law_due => k_is)
    (case c__law_due => k_is)
    (case k__law_due => k_is)
    (case n_law => k_is)
    (case l_law => k_is)
    (case c_law => k_is)
    (case k_law => k_is)

