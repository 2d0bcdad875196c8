import PyProof.Rows.All
import Wide.All
import OpenK.AllK
import Wide.FinOn
import HandS.ForMost
import HandS.Flow
import HandS.Style
import HandS.IsInst
import HandS.Zip
import HandS.TupAny
import HandS.TupMul
import HandS.Gcd
import HandS.SortInts
import HandS.Steps
import HandS.SetFor
import HandS.Conv
import PyProof.ReprRoads
import KE.GoesEnum
import KE.KMathGC
import KE.DataMinMax
import HandS.Star
import KE.SortData
import HandS.Strs
import HandS.Lambda
import HandS.EndTab
import KE.KNestM
import KE.DataMinKey
import HandS.SortKw
import HandS.Keys
import PyProof.SumAny
import HandS.Remove
import HandS.SetBool
import KE.DataCmp
import HandS.Text
import HandS.SetKeys
import PySem.Challenge.RW_anyshift_k58_codes_by_hand_and_by_names
set_option Elab.async false
set_option linter.all false
set_option maxRecDepth 100000
set_option maxHeartbeats 4000000
/-! A calculus of what data a piece of a program makes: over HandS, by data (PyData) in place of values and heaps. -/
namespace DW
open PySem PySem.Spec PyProof.Rows L2

abbrev Dt := PyData

/-! ### what stands for data -/
def keyD : Key → Dt
  | .inl i => .int i
  | .inr x => .str x
mutual
inductive Rp (K : PySem.W.Frag) (G : Hp) : V → Dt → Prop
  | non : Rp K G .non .none
  | bl (b : Bool) : Rp K G (.bl b) (.bool b)
  | int (i : Int) : Rp K G (.int i) (.int i)
  | str (x : Str) : Rp K G (.str x) (.str x)
  | lst {a : Addr} {xs : List V} {ds : List Dt} (h : G a = some (.lst xs)) (r : RpAll K G xs ds) : Rp K G (.ref a) (.list ds)
  | tup {a : Addr} {xs : List V} {ds : List Dt} (h : SqT K G a xs) (r : RpAll K G xs ds) : Rp K G (.ref a) (.tuple ds)
  | dct {a : Addr} {kvs : List (Key × V)} {ds : List (Dt × Dt)} (h : G a = some (.dK kvs)) (r : RpKv K G kvs ds) : Rp K G (.ref a) (.dict ds)
inductive RpAll (K : PySem.W.Frag) (G : Hp) : List V → List Dt → Prop
  | nil : RpAll K G [] []
  | cons {v : V} {vs : List V} {d : Dt} {ds : List Dt} (h : Rp K G v d) (r : RpAll K G vs ds) : RpAll K G (v :: vs) (d :: ds)
inductive RpKv (K : PySem.W.Frag) (G : Hp) : List (Key × V) → List (Dt × Dt) → Prop
  | nil : RpKv K G [] []
  | cons {k : Key} {v : V} {kvs : List (Key × V)} {d : Dt} {ds : List (Dt × Dt)} (h : Rp K G v d) (r : RpKv K G kvs ds) : RpKv K G ((k, v) :: kvs) ((keyD k, d) :: ds)
end

theorem same_t {K : PySem.W.Frag} {H H' : Hp} {a : Addr} {xs : List V} (e : Same H H') (h : SqT K H a xs) : SqT K H' a xs := by
  rcases h with (h | ⟨o, h⟩) | h
  · exact .inl (.inl (e _ _ h))
  · exact .inl (.inr ⟨o, e _ _ h⟩)
  · exact .inr h
theorem same_new {H : Hp} {p : Addr} {o : HO} (h : H p = none) : Same H (upd H p o) := fun b x e => by
  rw [upd_ne (ne_of_none e h)]
  exact e
theorem same_put {G H : Hp} {p : Addr} {o : HO} (e : Same G H) (h : G p = none) : Same G (upd H p o) := fun b x q => by
  rw [upd_ne (ne_of_none q h)]
  exact e b x q
theorem same_both {G H : Hp} {p : Addr} {o : HO} (e : Same G H) : Same (upd G p o) (upd H p o) := fun b x q => by
  by_cases hb : b = p
  · subst hb
    rw [upd_same] at q ⊢
    exact q
  · rw [upd_ne hb] at q ⊢
    exact e b x q

mutual
theorem Rp.mono {K : PySem.W.Frag} {G H : Hp} (e : Same G H) : ∀ {d : Dt} {v : V}, Rp K G v d → Rp K H v d
  | .none, _, h => by cases h; exact .non
  | .bool b, _, h => by cases h; exact .bl b
  | .int i, _, h => by cases h; exact .int i
  | .str x, _, h => by cases h; exact .str x
  | .list ds, _, h => by
    cases h with
    | lst q r => exact .lst (e _ _ q) (RpAll.mono e r)
  | .tuple ds, _, h => by
    cases h with
    | tup q r => exact .tup (same_t e q) (RpAll.mono e r)
  | .dict ds, _, h => by
    cases h with
    | dct q r => exact .dct (e _ _ q) (RpKv.mono e r)
theorem RpAll.mono {K : PySem.W.Frag} {G H : Hp} (e : Same G H) : ∀ {ds : List Dt} {vs : List V}, RpAll K G vs ds → RpAll K H vs ds
  | [], _, h => by cases h; exact .nil
  | d :: ds, _, h => by
    cases h with
    | cons q r => exact .cons (Rp.mono e q) (RpAll.mono e r)
theorem RpKv.mono {K : PySem.W.Frag} {G H : Hp} (e : Same G H) : ∀ {ds : List (Dt × Dt)} {kvs : List (Key × V)}, RpKv K G kvs ds → RpKv K H kvs ds
  | [], _, h => by cases h; exact .nil
  | (c, d) :: ds, _, h => by
    cases h with
    | cons q r => exact .cons (Rp.mono e q) (RpKv.mono e r)
end
theorem RpAll.len {K : PySem.W.Frag} {G : Hp} : ∀ {ds : List Dt} {vs : List V}, RpAll K G vs ds → vs.length = ds.length
  | [], _, h => by cases h; rfl
  | d :: ds, _, h => by
    cases h with
    | cons q r => rw [List.length_cons, List.length_cons, RpAll.len r]
theorem RpAll.get {K : PySem.W.Frag} {G : Hp} : ∀ {ds : List Dt} {vs : List V} {i : Nat} {v : V}, RpAll K G vs ds → vs[i]? = some v → ∃ d, ds[i]? = some d ∧ Rp K G v d
  | [], _, _, _, h, e => by cases h; simp at e
  | d :: ds, _, 0, v, h, e => by
    cases h with
    | cons q r =>
      simp at e
      subst e
      exact ⟨d, rfl, q⟩
  | d :: ds, _, i + 1, v, h, e => by
    cases h with
    | cons q r => exact RpAll.get (i := i) r (by simpa using e)
theorem RpAll.at {K : PySem.W.Frag} {G : Hp} : ∀ {ds : List Dt} {vs : List V} {i : Nat} {d : Dt}, RpAll K G vs ds → ds[i]? = some d → ∃ v, vs[i]? = some v ∧ Rp K G v d
  | [], _, _, _, h, e => by simp at e
  | d :: ds, _, 0, c, h, e => by
    cases h with
    | cons q r =>
      simp at e
      subst e
      exact ⟨_, rfl, q⟩
  | d :: ds, _, i + 1, c, h, e => by
    cases h with
    | cons q r => exact RpAll.at (i := i) r (by simpa using e)
theorem RpAll.append {K : PySem.W.Frag} {G : Hp} : ∀ {ds es : List Dt} {vs ws : List V}, RpAll K G vs ds → RpAll K G ws es → RpAll K G (vs ++ ws) (ds ++ es)
  | [], _, _, _, h, k => by cases h; exact k
  | d :: ds, _, _, _, h, k => by
    cases h with
    | cons q r => exact .cons q (RpAll.append r k)
theorem RpAll.take {K : PySem.W.Frag} {G : Hp} : ∀ (n : Nat) {ds : List Dt} {vs : List V}, RpAll K G vs ds → RpAll K G (vs.take n) (ds.take n)
  | 0, _, _, _ => .nil
  | _ + 1, [], _, h => by cases h; exact .nil
  | n + 1, d :: ds, _, h => by
    cases h with
    | cons q r => exact .cons q (RpAll.take n r)
theorem RpAll.drop {K : PySem.W.Frag} {G : Hp} : ∀ (n : Nat) {ds : List Dt} {vs : List V}, RpAll K G vs ds → RpAll K G (vs.drop n) (ds.drop n)
  | 0, _, _, h => h
  | _ + 1, [], _, h => by cases h; exact .nil
  | n + 1, d :: ds, _, h => by
    cases h with
    | cons q r => exact RpAll.drop n r
theorem RpAll.set {K : PySem.W.Frag} {G : Hp} {v : V} {c : Dt} (hv : Rp K G v c) : ∀ (n : Nat) {ds : List Dt} {vs : List V}, RpAll K G vs ds → RpAll K G (vs.set n v) (ds.set n c)
  | _, [], _, h => by cases h; exact .nil
  | 0, d :: ds, _, h => by
    cases h with
    | cons q r => exact .cons hv r
  | n + 1, d :: ds, _, h => by
    cases h with
    | cons q r => exact .cons q (RpAll.set hv n r)
theorem RpAll.dropLast {K : PySem.W.Frag} {G : Hp} {ds : List Dt} {vs : List V} (h : RpAll K G vs ds) : RpAll K G vs.dropLast ds.dropLast := by
  rw [List.dropLast_eq_take, List.dropLast_eq_take, h.len]
  exact h.take _
theorem RpAll.rep {K : PySem.W.Frag} {G : Hp} {ds : List Dt} {vs : List V} (h : RpAll K G vs ds) : ∀ k : Nat, RpAll K G (List.replicate k vs).flatten (List.replicate k ds).flatten
  | 0 => .nil
  | k + 1 => by
    rw [List.replicate_succ, List.replicate_succ, List.flatten_cons, List.flatten_cons]
    exact h.append (RpAll.rep h k)

/-! ### inversions -/
section
variable {K : PySem.W.Frag} {G : Hp} {v : V}
theorem Rp.int_inv {i : Int} (h : Rp K G v (.int i)) : v = .int i := by cases h; rfl
theorem Rp.bool_inv {b : Bool} (h : Rp K G v (.bool b)) : v = .bl b := by cases h; rfl
theorem Rp.str_inv {x : Str} (h : Rp K G v (.str x)) : v = .str x := by cases h; rfl
theorem Rp.none_inv (h : Rp K G v .none) : v = .non := by cases h; rfl
theorem Rp.list_inv {ds : List Dt} (h : Rp K G v (.list ds)) : ∃ a xs, v = .ref a ∧ G a = some (.lst xs) ∧ RpAll K G xs ds := by
  cases h with
  | lst q r => exact ⟨_, _, rfl, q, r⟩
theorem Rp.tuple_inv {ds : List Dt} (h : Rp K G v (.tuple ds)) : ∃ a xs, v = .ref a ∧ SqT K G a xs ∧ RpAll K G xs ds := by
  cases h with
  | tup q r => exact ⟨_, _, rfl, q, r⟩
theorem Rp.dict_inv {ds : List (Dt × Dt)} (h : Rp K G v (.dict ds)) : ∃ a kvs, v = .ref a ∧ G a = some (.dK kvs) ∧ RpKv K G kvs ds := by
  cases h with
  | dct q r => exact ⟨_, _, rfl, q, r⟩
theorem RpAll.ints : ∀ {ns : List Int} {vs : List V}, RpAll K G vs (ns.map .int) → vs = ns.map V.int
  | [], _, h => by cases h; rfl
  | n :: ns, _, h => by
    cases h with
    | cons q r => rw [q.int_inv, RpAll.ints r]; rfl
theorem RpAll.bools : ∀ {bs : List Bool} {vs : List V}, RpAll K G vs (bs.map .bool) → vs = bs.map V.bl
  | [], _, h => by cases h; rfl
  | n :: ns, _, h => by
    cases h with
    | cons q r => rw [q.bool_inv, RpAll.bools r]; rfl
theorem RpAll.of_ints : ∀ (ns : List Int), RpAll K G (ns.map V.int) (ns.map .int)
  | [] => .nil
  | n :: ns => .cons (.int n) (RpAll.of_ints ns)
end

def Pl : HO → Prop
  | .tbl _ => False
  | .ext φ => ∀ (c : Addr) (q : Str), HO.ext φ ≠ LamX.CodeO c q
  | _ => True
/-- a dict whose keys are tuples of ints: its one object -/
def DicR (a : Addr) (xs : List (List Int × Addr × Value)) (h : Heap) : Prop := (a == sysModules) = false ∧ ∃ o es ep, h.get? a = some o ∧ o.ExactDict ∧ o.data = .dict es ep ∧
  es.toList = xs.map (fun x => (⟨reduceHash (Builtin.Tuple.tupleHashOf (x.1.map hashInt)), .ref x.2.1, x.2.2⟩ : DictEntry)) ∧ (xs.map (·.1)).Nodup
/-- its keys, told as known tuples, its values as data -/
inductive DicE (K : PySem.W.Frag) (G : Hp) : List (List Int × Addr × Value) → List Dt → Prop
  | nil : DicE K G [] []
  | cons {ks : List Int} {b : Addr} {u : Value} {v : V} {d : Dt} {xs : List (List Int × Addr × Value)} {ds : List Dt} (hk : SqT K G b (ks.map V.int)) (hv : L2.RelV v u) (r : Rp K G v d) (t : DicE K G xs ds) : DicE K G ((ks, b, u) :: xs) (.tuple [.tuple (ks.map .int), d] :: ds)
theorem DicE.mono {K : PySem.W.Frag} {G H : Hp} (e : Same G H) : ∀ {xs : List (List Int × Addr × Value)} {ds : List Dt}, DicE K G xs ds → DicE K H xs ds
  | [], _, h => by cases h; exact .nil
  | _ :: _, _, h => by
    cases h with
    | cons hk hv r t => exact .cons (same_t e hk) hv (r.mono e) (DicE.mono e t)
def DicF (K : PySem.W.Frag) (G : Hp) (φ : Heap → Prop) (ds : List Dt) : Prop := ∃ a xs, φ = DicR a xs ∧ DicE K G xs ds
/-- an object that is data (a dict whose keys are tuples goes by the tuple of its pairs) -/
def RpO (K : PySem.W.Frag) (G : Hp) : HO → Dt → Prop
  | .lst vs, .list ds => RpAll K G vs ds
  | .dK kvs, .dict ds => RpKv K G kvs ds
  | .ext φ, .tuple ds => Pl (.ext φ) ∧ DicF K G φ ds
  | _, _ => False
theorem RpO.mono {K : PySem.W.Frag} {G H : Hp} (e : Same G H) {o : HO} {d : Dt} (h : RpO K G o d) : RpO K H o d := by
  cases o <;> cases d <;> first | exact h.elim | exact RpAll.mono e h | exact RpKv.mono e h | exact ⟨h.1, let ⟨a, xs, e1, e2⟩ := h.2; ⟨a, xs, e1, e2.mono e⟩⟩
theorem RpO.dic_inv {K : PySem.W.Frag} {G : Hp} {o : HO} {ds : List Dt} (h : RpO K G o (.tuple ds)) : ∃ a xs, o = .ext (DicR a xs) ∧ Pl o ∧ DicE K G xs ds := by
  cases o <;> first | exact h.elim | exact let ⟨p, a, xs, e1, e2⟩ := h; ⟨a, xs, by rw [e1], p, e2⟩
theorem Rp.obj {K : PySem.W.Frag} {G : Hp} {p : Addr} {o : HO} {d : Dt} (e : G p = some o) (h : RpO K G o d) (nt : ∀ es, d ≠ .tuple es) : Rp K G (.ref p) d := by
  cases o <;> cases d <;> first | exact h.elim | exact .lst e h | exact .dct e h | exact absurd rfl (nt _)
theorem RpO.list_inv {K : PySem.W.Frag} {G : Hp} {o : HO} {ds : List Dt} (h : RpO K G o (.list ds)) : ∃ vs, o = .lst vs ∧ RpAll K G vs ds := by
  cases o <;> first | exact h.elim | exact ⟨_, rfl, h⟩
theorem RpO.dict_inv {K : PySem.W.Frag} {G : Hp} {o : HO} {ds : List (Dt × Dt)} (h : RpO K G o (.dict ds)) : ∃ vs, o = .dK vs ∧ RpKv K G vs ds := by
  cases o <;> first | exact h.elim | exact ⟨_, rfl, h⟩

/-! ### the world: objects that may change, apart from what is known -/
abbrev Wd := List (Addr × (HO → Prop))
/-- the tables of code objects that lambdas write -/
class Tabl where
  l : List (Addr × Str)
structure Tbs [Tabl] (ω : Wd) (G H : Hp) : Prop where
  nt : ∀ b ps, G b ≠ some (.tbl ps)
  off : ∀ p ∈ Tabl.l, G p.1 = none
  on : LamX.Tabs Tabl.l H
  pl : ∀ q ∈ ω, ∀ o, H q.1 = some o → Pl o
def Ok [Tabl] (ω : Wd) (G H : Hp) : Prop := Same G H ∧ ((ω.map (·.1)).Nodup ∧ Tbs ω G H) ∧ ∀ q ∈ ω, G q.1 = none ∧ ∃ o, H q.1 = some o ∧ q.2 o
theorem same_key : ∀ {ω : Wd}, (ω.map (·.1)).Nodup → ∀ {q r : Addr × (HO → Prop)}, q ∈ ω → r ∈ ω → q.1 = r.1 → q = r
  | [], _, _, _, hq, _, _ => nomatch hq
  | x :: ω, nd, q, r, hq, hr, e => by
    rw [List.map_cons, List.nodup_cons] at nd
    rcases List.mem_cons.mp hq with h1 | h1
    · rcases List.mem_cons.mp hr with h2 | h2
      · rw [h1, h2]
      · refine absurd ?_ nd.1
        rw [← h1, e]
        exact List.mem_map_of_mem h2
    · rcases List.mem_cons.mp hr with h2 | h2
      · refine absurd ?_ nd.1
        rw [← h2, ← e]
        exact List.mem_map_of_mem h1
      · exact same_key nd.2 h1 h2 e
theorem RpO.pl {K : PySem.W.Frag} {G : Hp} {o : HO} {d : Dt} (h : RpO K G o d) : Pl o := by
  cases o <;> cases d <;> first | exact h.elim | exact h.1 | trivial
section
variable [Tabl] {ω : Wd} {G G0 H : Hp} {p : Addr} {o : HO} {φ : HO → Prop}
theorem Ok.apart (k : Ok ω G H) (h : H p = none) : ∀ q ∈ ω, q.1 ≠ p := fun q hq => by
  obtain ⟨_, o, e, _⟩ := k.2.2 q hq
  exact ne_of_none e h
theorem Tbs.notTbl (t : Tbs ω G H) {q : Addr × Str} (hq : q ∈ Tabl.l) (hp : ∀ o', H p = some o' → Pl o') : q.1 ≠ p := fun e => by
  obtain ⟨ps, h1, _⟩ := t.on q hq
  rw [e] at h1
  exact hp _ h1
theorem Tabs_upd {T : List (Addr × Str)} (t : LamX.Tabs T H) (hp : ∀ o', H p = some o' → Pl o') : LamX.Tabs T (upd H p o) := fun q hq => by
  obtain ⟨ps, h1, h2, h3⟩ := t q hq
  have n1 : q.1 ≠ p := fun e => by
    rw [e] at h1
    exact hp _ h1
  refine ⟨ps, by rw [upd_ne n1]; exact h1, h2, fun pos cv hc => ?_⟩
  obtain ⟨c, e1, e2⟩ := h3 pos cv hc
  have n2 : c ≠ p := fun e => by
    rw [e] at e2
    exact hp _ e2 p q.2 rfl
  exact ⟨c, e1, by rw [upd_ne n2]; exact e2⟩
theorem Tbs.ntu (t : Tbs ω G H) (nt : ∀ ps, o ≠ .tbl ps) : ∀ b ps, upd G p o b ≠ some (.tbl ps) := fun b ps e => by
  by_cases hb : b = p
  · rw [hb, upd_same] at e
    exact nt ps (Option.some.inj e)
  · rw [upd_ne hb] at e
    exact t.nt b ps e
theorem pl_nt (h : Pl o) : ∀ ps, o ≠ .tbl ps := fun ps e => by
  subst e
  exact h
theorem Tbs.new (t : Tbs ω G H) (h : H p = none) (ap : ∀ q ∈ ω, q.1 ≠ p) (nt : ∀ ps, o ≠ .tbl ps) : Tbs ω (upd G p o) (upd H p o) := by
  have hp : ∀ o', H p = some o' → Pl o' := fun o' e => by rw [h] at e; cases e
  refine ⟨t.ntu nt, fun q hq => ?_, Tabs_upd t.on hp, fun q hq o' e => ?_⟩
  · rw [upd_ne (t.notTbl hq hp)]
    exact t.off q hq
  · rw [upd_ne (ap q hq)] at e
    exact t.pl q hq o' e
theorem Tbs.put (t : Tbs ω G H) (hp : ∀ o', H p = some o' → Pl o') (ap : ∀ q ∈ ω, q.1 ≠ p) : Tbs ω G (upd H p o) :=
  ⟨t.nt, t.off, Tabs_upd t.on hp, fun q hq o' e => by
    rw [upd_ne (ap q hq)] at e
    exact t.pl q hq o' e⟩
/-- the known grows by a plain thing -/
theorem Tbs.know (t : Tbs ω G H) (h : H p = some o) (hp : Pl o) : Tbs ω (upd G p o) H :=
  ⟨t.ntu (pl_nt hp), fun q hq => by
    rw [upd_ne (t.notTbl hq fun o' e => by rw [h] at e; cases e; exact hp)]
    exact t.off q hq, t.on, t.pl⟩
theorem Ok.new (k : Ok ω G H) (h : H p = none) (nt : ∀ ps, o ≠ .tbl ps := by first | assumption | (intro ps h; cases h)) : Ok ω (upd G p o) (upd H p o) := ⟨same_both k.1, ⟨k.2.1.1, k.2.1.2.new h (k.apart h) nt⟩, fun q hq => by
  have ne := k.apart h q hq
  rw [upd_ne ne, upd_ne ne]
  exact k.2.2 q hq⟩
theorem Tbs.anti (e : Same G0 G) (t : Tbs ω G H) : Tbs ω G0 H := ⟨fun b ps z => t.nt b ps (e _ _ z), fun q hq => e.free (t.off q hq), t.on, t.pl⟩
theorem Ok.anti (e : Same G0 G) (k : Ok ω G H) : Ok ω G0 H := ⟨e.trans k.1, ⟨k.2.1.1, k.2.1.2.anti e⟩, fun q hq => ⟨e.free (k.2.2 q hq).1, (k.2.2 q hq).2⟩⟩
theorem Ok.plAt (k : Ok ω G H) (m : (p, φ) ∈ ω) : ∀ o', H p = some o' → Pl o' := fun o' e => k.2.1.2.pl _ m o' e
theorem pl_new (h : H p = none) : ∀ o', H p = some o' → Pl o' := fun o' e => by rw [h] at e; cases e
theorem pl_at (h : H p = some o) (hp : Pl o) : ∀ o', H p = some o' → Pl o' := fun o' e => by rw [h] at e; cases e; exact hp
theorem Ok.put (k : Ok ω G H) (hg : G p = none) (ap : ∀ q ∈ ω, q.1 ≠ p) (hp : ∀ o', H p = some o' → Pl o' := by first | assumption | exact pl_new (by assumption) | exact pl_at (by assumption) (by trivial) | exact pl_at (by assumption) (RpO.pl (by assumption)) | exact Ok.plAt (by assumption) (by assumption)) : Ok ω G (upd H p o) := ⟨same_put k.1 hg, ⟨k.2.1.1, k.2.1.2.put hp ap⟩, fun q hq => by
  rw [upd_ne (ap q hq)]
  exact k.2.2 q hq⟩
theorem Ok.push (k : Ok ω G H) (hg : G p = none) (hp : H p = some o) (f : φ o) (ap : ∀ q ∈ ω, q.1 ≠ p) (pl : Pl o := by first | trivial | assumption | exact RpO.pl (by assumption)) : Ok ((p, φ) :: ω) G H := by
  refine ⟨k.1, ⟨?_, k.2.1.2.nt, k.2.1.2.off, k.2.1.2.on, fun q hq o' e => ?_⟩, fun q hq => ?_⟩
  · rw [List.map_cons, List.nodup_cons]
    refine ⟨fun z => ?_, k.2.1.1⟩
    obtain ⟨q, hq, e⟩ := List.mem_map.mp z
    exact ap q hq e
  · rcases List.mem_cons.mp hq with e' | hq
    · subst e'
      exact pl_at hp pl o' e
    · exact k.2.1.2.pl q hq o' e
  · rcases List.mem_cons.mp hq with e | hq
    · subst e
      exact ⟨hg, o, hp, f⟩
    · exact k.2.2 q hq
theorem Ok.pop (k : Ok ((p, φ) :: ω) G H) : Ok ω G H ∧ G p = none ∧ (∃ o, H p = some o ∧ φ o) ∧ ∀ q ∈ ω, q.1 ≠ p := by
  obtain ⟨k1, ⟨k2, t⟩, k3⟩ := k
  rw [List.map_cons, List.nodup_cons] at k2
  refine ⟨⟨k1, ⟨k2.2, t.nt, t.off, t.on, fun q hq => t.pl q (List.mem_cons_of_mem _ hq)⟩, fun q hq => k3 q (List.mem_cons_of_mem _ hq)⟩, (k3 _ List.mem_cons_self).1, (k3 _ List.mem_cons_self).2, fun q hq e => k2.1 ?_⟩
  have e' : q.1 = (p, φ).1 := e
  rw [← e']
  exact List.mem_map_of_mem (f := Prod.fst) hq
theorem Ok.pen (k : Ok ω G H) (m : (p, φ) ∈ ω) (f : φ o) (pl : Pl o := by first | trivial | assumption | exact RpO.pl (by assumption)) : Ok ω G (upd H p o) := by
  have hg := (k.2.2 _ m).1
  refine ⟨same_put k.1 hg, ⟨k.2.1.1, k.2.1.2.nt, k.2.1.2.off, Tabs_upd k.2.1.2.on (k.plAt m), fun q hq o' e' => ?_⟩, fun q hq => ?_⟩
  · by_cases e : q.1 = p
    · rw [e, upd_same] at e'
      cases e'
      exact pl
    · rw [upd_ne e] at e'
      exact k.2.1.2.pl q hq o' e'
  · by_cases e : q.1 = p
    · have z := same_key k.2.1.1 hq m e
      rw [z]
      exact ⟨hg, o, upd_same, f⟩
    · rw [upd_ne e]
      exact k.2.2 q hq
end

variable [Tabl]
/-! ### what a name holds -/
/-- the law's pen: three ints -/
def PenS : HO → Prop := fun o => ∃ a b c : Int, o = .lst [.int a, .int b, .int c] ∧ 0 ≤ b ∧ b < 2147483648
inductive E where
  | unk
  | dat (d : Dt)
  | pen
  | own (d : Dt)
  | scr (ns : List Int)
  | pl (ds : List Dt)
  | dic (ds : List Dt)
/-- a tuple without a dict of its own -/
def PlT (K : PySem.W.Frag) (G : Hp) (v : V) (ds : List Dt) : Prop := ∃ (a : Addr) (o : Obj) (xs : List V), v = .ref a ∧ G a = some (.frz o (.tup xs)) ∧ (o.cls = .type "tuple" ∧ o.dict = none) ∧ RpAll K G xs ds
theorem PlT.mono {K : PySem.W.Frag} {G G' : Hp} {v : V} {ds : List Dt} (g : Same G G') : PlT K G v ds → PlT K G' v ds := fun ⟨a, o, xs, e, h, c, r⟩ => ⟨a, o, xs, e, g _ _ h, c, RpAll.mono g r⟩
theorem PlT.rp {K : PySem.W.Frag} {G : Hp} {v : V} {ds : List Dt} (h : PlT K G v ds) : Rp K G v (.tuple ds) := by
  obtain ⟨a, o, xs, rfl, h, c, r⟩ := h
  exact .tup (.inl (.inr ⟨o, h⟩)) r
def SlotE (K : PySem.W.Frag) (ω : Wd) (G : Hp) : E → Option V → Prop
  | .unk, _ => True
  | .own _, _ => True
  | .dat d, s => ∃ v, s = some v ∧ Rp K G v d
  | .pen, s => ∃ p, s = some (.ref p) ∧ (p, PenS) ∈ ω
  | .scr ns, s => ∃ p, s = some (.ref p) ∧ SqL K G p (ns.map V.int)
  | .pl ds, s => ∃ v, s = some v ∧ PlT K G v ds
  | .dic ds, s => ∃ p o, s = some (.ref p) ∧ G p = some o ∧ RpO K G o (.tuple ds)
theorem SlotE.mono {K : PySem.W.Frag} {ω : Wd} {G G' : Hp} (g : Same G G') : ∀ {e : E} {s : Option V}, SlotE K ω G e s → SlotE K ω G' e s
  | .unk, _, _ => trivial
  | .own _, _, _ => trivial
  | .dat _, _, ⟨v, h1, h2⟩ => ⟨v, h1, h2.mono g⟩
  | .pen, _, h => h
  | .scr _, _, ⟨p, h1, h2⟩ => ⟨p, h1, g.seq h2⟩
  | .pl _, _, ⟨v, h1, h2⟩ => ⟨v, h1, h2.mono g⟩
  | .dic _, _, ⟨p, o, h1, h2, h3⟩ => ⟨p, o, h1, g _ _ h2, h3.mono g⟩
theorem SlotE.more {K : PySem.W.Frag} {ω ω' : Wd} {G : Hp} (g : ∀ q ∈ ω, q ∈ ω') : ∀ {e : E} {s : Option V}, SlotE K ω G e s → SlotE K ω' G e s
  | .unk, _, _ => trivial
  | .own _, _, _ => trivial
  | .dat _, _, h => h
  | .pen, _, ⟨p, h1, h2⟩ => ⟨p, h1, g _ h2⟩
  | .scr _, _, h => h
  | .pl _, _, h => h
  | .dic _, _, h => h
abbrev Nm := List E
def EnvE (K : PySem.W.Frag) (ω : Wd) (G : Hp) (δ : Nm) (σ : L2.St) : Prop := ∀ (i : Nat) (e : E), δ[i]? = some e → ∃ s, σ[i]? = some s ∧ SlotE K ω G e s
section
variable {K : PySem.W.Frag} {ω ω' : Wd} {G G' : Hp} {δ : Nm} {σ : L2.St}
theorem EnvE.mono (h : EnvE K ω G δ σ) (g : Same G G') : EnvE K ω G' δ σ := fun i e hi => let ⟨s, h1, h2⟩ := h i e hi; ⟨s, h1, h2.mono g⟩
theorem EnvE.more (h : EnvE K ω G δ σ) (g : ∀ q ∈ ω, q ∈ ω') : EnvE K ω' G δ σ := fun i e hi => let ⟨s, h1, h2⟩ := h i e hi; ⟨s, h1, h2.more g⟩
theorem EnvE.set (h : EnvE K ω G δ σ) {i : Nat} {e : E} {s : Option V} (q : SlotE K ω G e s) : EnvE K ω G (δ.set i e) (σ.set i s) := fun j c hj => by
  by_cases hij : i = j
  · subst hij
    have hl : i < δ.length := by
      rcases Nat.lt_or_ge i δ.length with z | z
      · exact z
      · rw [List.getElem?_eq_none (by rw [List.length_set]; exact z)] at hj
        cases hj
    rw [List.getElem?_set_self hl] at hj
    obtain rfl : e = c := Option.some.inj hj
    obtain ⟨s0, h1, _⟩ := h i _ (List.getElem?_eq_getElem hl)
    refine ⟨s, ?_, q⟩
    rw [List.getElem?_set_self (List.getElem?_eq_some_iff.mp h1).1]
  · rw [List.getElem?_set_ne hij] at hj
    obtain ⟨s0, h1, h2⟩ := h j c hj
    exact ⟨s0, by rw [List.getElem?_set_ne hij]; exact h1, h2⟩
end
def wipeE (δ : Nm) : List Nat → Nm
  | [] => δ
  | v :: vs => (wipeE δ vs).set v .unk
theorem EnvE.wipe {K : PySem.W.Frag} {ω : Wd} {G : Hp} {δ : Nm} {σ : L2.St} (h : EnvE K ω G δ σ) : ∀ vs : List Nat, EnvE K ω G (wipeE δ vs) (L2.wipe σ vs)
  | [] => h
  | v :: vs => EnvE.set (EnvE.wipe h vs) trivial

/-! ### what a piece makes, by data -/
/-- from any state whose names hold δ, the piece t ends with something related to some y with R y -/
def WG {α β : Type} (K : PySem.W.Frag) (Rel : Wd → Hp → α → β → Prop) (t : L2.St → Hp → (α → Hp → Prop) → Prop) (δ : Nm) (R : β → Prop) : Prop :=
  ∀ (ω : Wd) (σ : L2.St) (G H : Hp) (Q : α → Hp → Prop), EnvE K ω G δ σ → Ok ω G H → (∀ x y G' H', Same G G' → Ok ω G' H' → Rel ω G' x y → R y → Q x H') → t σ H Q
abbrev RelD (K : PySem.W.Frag) : Wd → Hp → V → Dt → Prop := fun _ G v d => Rp K G v d
abbrev RelB : Wd → Hp → Bool → Bool → Prop := fun _ _ a b => a = b
abbrev RelA (K : PySem.W.Frag) : Wd → Hp → List V → List E → Prop := fun ω G vs es => Paired (fun e v => SlotE K ω G e (some v)) es vs
abbrev RelO : Wd → Hp → Option Int → Option Int → Prop := fun _ _ a b => a = b
/-- an expression, a test, arguments, a slice's part -/
def W (K : PySem.W.Frag) (te : TE) (δ : Nm) (R : Dt → Prop) : Prop := WG K (RelD K) te δ R
def WT (K : PySem.W.Frag) (tt : TT) (δ : Nm) (R : Bool → Prop) : Prop := WG K RelB tt δ R
def WA (K : PySem.W.Frag) (ta : TA) (δ : Nm) (R : List E → Prop) : Prop := WG K (RelA K) ta δ R
def WO (K : PySem.W.Frag) (tl : TO) (δ : Nm) (R : Option Int → Prop) : Prop := WG K RelO tl δ R

theorem RelA.mono {K : PySem.W.Frag} {ω : Wd} {G G' : Hp} (g : Same G G') {es : List E} {vs : List V} (h : RelA K ω G vs es) : RelA K ω G' vs es := by
  induction h with
  | nil => exact .nil
  | cons a b c => exact .cons (a.mono g) c

section
variable {K : PySem.W.Frag} {δ : Nm} {te ta tb tc : TE} {tt tu : TT} {R : Dt → Prop} {Rb : Bool → Prop}
theorem w_mono {R' : Dt → Prop} (h : W K te δ R) (m : ∀ d, R d → R' d) : W K te δ R' := fun ω σ G H Q e k q => h ω σ G H Q e k fun x y G' H' g k' r ry => q x y G' H' g k' r (m y ry)
theorem wt_mono {R R' : Bool → Prop} (h : WT K tt δ R) (m : ∀ d, R d → R' d) : WT K tt δ R' := fun ω σ G H Q e k q => h ω σ G H Q e k fun x y G' H' g k' r ry => q x y G' H' g k' r (m y ry)
theorem w_var {i : Nat} {d : Dt} (h : δ[i]? = some (.dat d)) (r : R d) : W K (tVar i) δ R := fun ω σ G H Q e k q => by
  obtain ⟨s, h1, v, h2, h3⟩ := e i _ h
  subst h2
  exact ⟨v, h1, q v d G H (Same.refl G) k h3 r⟩
theorem w_int {i : Int} (r : R (.int i)) : W K (tC (.int i)) δ R := fun ω σ G H Q e k q => q _ _ G H (Same.refl G) k (.int i) r
theorem w_bl {b : Bool} (r : R (.bool b)) : W K (tC (.bl b)) δ R := fun ω σ G H Q e k q => q _ _ G H (Same.refl G) k (.bl b) r
theorem w_str {x : Str} (r : R (.str x)) : W K (tC (.str x)) δ R := fun ω σ G H Q e k q => q _ _ G H (Same.refl G) k (.str x) r
theorem w_non (r : R .none) : W K (tC .non) δ R := fun ω σ G H Q e k q => q _ _ G H (Same.refl G) k .non r

/-! two operands -/
/-- an operation upon values, by data -/
def OpD (K : PySem.W.Frag) (r : R2) (x y : Dt) (R : Dt → Prop) : Prop :=
  ∀ (ω : Wd) (G H : Hp) (v u : V) (Q : VK), Ok ω G H → Rp K G v x → Rp K G u y → (∀ w d G' H', Same G G' → Ok ω G' H' → Rp K G' w d → R d → Q w H') → r v u H Q
theorem w_op {r : R2} (h : W K ta δ fun x => W K tb δ fun y => OpD K r x y R) : W K (tOp r ta tb) δ R := fun ω σ G H Q e k q =>
  h ω σ G H _ e k fun v x G1 H1 g1 k1 r1 h1 => h1 ω σ G1 H1 _ (e.mono g1) k1 fun u y G2 H2 g2 k2 r2 h2 =>
    h2 ω G2 H2 v u Q k2 (r1.mono g2) r2 fun w d G3 H3 g3 k3 r3 h3 => q w d G3 H3 ((g1.trans g2).trans g3) k3 r3 h3
def UnD (K : PySem.W.Frag) (r : V → Hp → VK → Prop) (x : Dt) (R : Dt → Prop) : Prop :=
  ∀ (ω : Wd) (G H : Hp) (v : V) (Q : VK), Ok ω G H → Rp K G v x → (∀ w d G' H', Same G G' → Ok ω G' H' → Rp K G' w d → R d → Q w H') → r v H Q
theorem w_un {r : V → Hp → VK → Prop} (h : W K ta δ fun x => UnD K r x R) : W K (tUn r ta) δ R := fun ω σ G H Q e k q =>
  h ω σ G H _ e k fun v x G1 H1 g1 k1 r1 h1 => h1 ω G1 H1 v Q k1 r1 fun w d G3 H3 g3 k3 r3 h3 => q w d G3 H3 (g1.trans g3) k3 r3 h3
theorem o_I0i {g : Int → Int → Int} {i j : Int} (r : R (.int (g i j))) : OpD K (rI0 fun a b => .int (g a b)) (.int i) (.int j) R := fun ω G H v u Q k h1 h2 q =>
  ⟨i, j, h1.int_inv, h2.int_inv, q _ _ G H (Same.refl G) k (.int _) r⟩
theorem o_I0b {g : Int → Int → Bool} {i j : Int} (r : R (.bool (g i j))) : OpD K (rI0 fun a b => .bl (g a b)) (.int i) (.int j) R := fun ω G H v u Q k h1 h2 q =>
  ⟨i, j, h1.int_inv, h2.int_inv, q _ _ G H (Same.refl G) k (.bl _) r⟩
theorem o_I {C : Int → Int → Prop} {g : Int → Int → Int} {i j : Int} (c : C i j) (r : R (.int (g i j))) : OpD K (rI C fun a b => .int (g a b)) (.int i) (.int j) R := fun ω G H v u Q k h1 h2 q =>
  ⟨i, j, h1.int_inv, h2.int_inv, c, q _ _ G H (Same.refl G) k (.int _) r⟩
theorem u_neg {i : Int} (r : R (.int (-i))) : UnD K (rU fun i => .int (-i)) (.int i) R := fun ω G H v Q k h1 q => ⟨i, h1.int_inv, q _ _ G H (Same.refl G) k (.int _) r⟩

/-! tests -/
theorem wt_test (h : W K te δ fun d => ∃ b, d = .bool b ∧ Rb b) : WT K (tTest te) δ Rb := fun ω σ G H Q e k q => h ω σ G H _ e k fun x y G' H' g k' r ⟨b, e1, rb⟩ => by
  subst e1
  exact ⟨b, r.bool_inv, q b b G' H' g k' rfl rb⟩
theorem wt_B (h : W K te δ fun d => ∃ b, d = .bool b ∧ Rb b) : WT K (tB te) δ Rb := fun ω σ G H Q e k q => h ω σ G H _ e k fun x y G' H' g k' r ⟨b, e1, rb⟩ => by
  subst e1
  exact ⟨b, r.bool_inv, q b b G' H' g k' rfl rb⟩
theorem wt_not (h : WT K tt δ fun b => Rb (!b)) : WT K (tNot tt) δ Rb := fun ω σ G H Q e k q => h ω σ G H _ e k fun x y G' H' g k' r rb => by
  subst r
  exact q _ _ G' H' g k' rfl rb
theorem wt_and (h : WT K tt δ fun b => if b = true then WT K tu δ Rb else Rb false) : WT K (tAnd tt tu) δ Rb := fun ω σ G H Q e k q => h ω σ G H _ e k fun x y G' H' g k' r rb => by
  subst r
  cases x with
  | true =>
    rw [if_pos rfl] at rb ⊢
    exact rb ω σ G' H' Q (e.mono g) k' fun x y G2 H2 g2 k2 r2 h2 => q x y G2 H2 (g.trans g2) k2 r2 h2
  | false =>
    rw [if_neg Bool.false_ne_true] at rb ⊢
    exact q _ _ G' H' g k' rfl rb
theorem wt_or (h : WT K tt δ fun b => if b = true then Rb true else WT K tu δ Rb) : WT K (tOr tt tu) δ Rb := fun ω σ G H Q e k q => h ω σ G H _ e k fun x y G' H' g k' r rb => by
  subst r
  cases x with
  | false =>
    rw [if_neg Bool.false_ne_true] at rb ⊢
    exact rb ω σ G' H' Q (e.mono g) k' fun x y G2 H2 g2 k2 r2 h2 => q x y G2 H2 (g.trans g2) k2 r2 h2
  | true =>
    rw [if_pos rfl] at rb ⊢
    exact q _ _ G' H' g k' rfl rb
theorem w_if (h : WT K tt δ fun b => if b = true then W K ta δ R else W K tb δ R) : W K (tIf tt ta tb) δ R := fun ω σ G H Q e k q => h ω σ G H _ e k fun x y G' H' g k' r rb => by
  subst r
  cases x with
  | true =>
    rw [if_pos rfl] at rb ⊢
    exact rb ω σ G' H' Q (e.mono g) k' fun x y G2 H2 g2 k2 r2 h2 => q x y G2 H2 (g.trans g2) k2 r2 h2
  | false =>
    rw [if_neg Bool.false_ne_true] at rb ⊢
    exact rb ω σ G' H' Q (e.mono g) k' fun x y G2 H2 g2 k2 r2 h2 => q x y G2 H2 (g.trans g2) k2 r2 h2
theorem w_andV (h : W K ta δ fun d => ∃ b, d = .bool b ∧ if b = true then W K tb δ R else R (.bool false)) : W K (tAndV ta tb) δ R := fun ω σ G H Q e k q => h ω σ G H _ e k fun x y G' H' g k' r ⟨b, e1, rb⟩ => by
  subst e1
  refine ⟨b, r.bool_inv, ?_⟩
  cases b with
  | true =>
    rw [if_pos rfl] at rb ⊢
    exact rb ω σ G' H' Q (e.mono g) k' fun x y G2 H2 g2 k2 r2 h2 => q x y G2 H2 (g.trans g2) k2 r2 h2
  | false =>
    rw [if_neg Bool.false_ne_true] at rb ⊢
    exact q _ _ G' H' g k' (.bl false) rb
theorem w_orV (h : W K ta δ fun d => ∃ b, d = .bool b ∧ if b = true then R (.bool true) else W K tb δ R) : W K (tOrV ta tb) δ R := fun ω σ G H Q e k q => h ω σ G H _ e k fun x y G' H' g k' r ⟨b, e1, rb⟩ => by
  subst e1
  refine ⟨b, r.bool_inv, ?_⟩
  cases b with
  | false =>
    rw [if_neg Bool.false_ne_true] at rb ⊢
    exact rb ω σ G' H' Q (e.mono g) k' fun x y G2 H2 g2 k2 r2 h2 => q x y G2 H2 (g.trans g2) k2 r2 h2
  | true =>
    rw [if_pos rfl] at rb ⊢
    exact q _ _ G' H' g k' (.bl true) rb
theorem w_notV (h : W K ta δ fun d => ∃ b, d = .bool b ∧ R (.bool (!b))) : W K (tNotV ta) δ R := fun ω σ G H Q e k q => h ω σ G H _ e k fun x y G' H' g k' r ⟨b, e1, rb⟩ => by
  subst e1
  exact ⟨b, r.bool_inv, q _ _ G' H' g k' (.bl _) rb⟩
theorem w_chain {r r' : R2} (h : W K ta δ fun x => W K tb δ fun y => OpD K r x y fun z => ∃ b, z = .bool b ∧ if b = true then W K tc δ fun w => OpD K r' y w R else R (.bool false)) : W K (tChain r r' ta tb tc) δ R := fun ω σ G H Q e k q =>
  h ω σ G H _ e k fun v x G1 H1 g1 k1 r1 h1 => h1 ω σ G1 H1 _ (e.mono g1) k1 fun u y G2 H2 g2 k2 r2 h2 =>
    h2 ω G2 H2 v u _ k2 (r1.mono g2) r2 fun w d G3 H3 g3 k3 r3 ⟨b, e1, rb⟩ => by
      subst e1
      refine ⟨b, r3.bool_inv, ?_⟩
      cases b with
      | true =>
        rw [if_pos rfl] at rb ⊢
        exact rb ω σ G3 H3 _ (e.mono ((g1.trans g2).trans g3)) k3 fun w x G4 H4 g4 k4 r4 h4 => h4 ω G4 H4 u w Q k4 (r2.mono (g3.trans g4)) r4 fun w d G5 H5 g5 k5 r5 h5 => q w d G5 H5 ((((g1.trans g2).trans g3).trans g4).trans g5) k5 r5 h5
      | false =>
        rw [if_neg Bool.false_ne_true] at rb ⊢
        exact q _ _ G3 H3 ((g1.trans g2).trans g3) k3 (.bl false) rb

/-! arguments -/
variable {ar : TA} {Ra : List E → Prop}
theorem wa_nil (r : Ra []) : WA K tNil δ Ra := fun ω σ G H Q e k q => q [] [] G H (Same.refl G) k .nil r
theorem wa_cons (h : W K te δ fun d => WA K ar δ fun es => Ra (.dat d :: es)) : WA K (tCons te ar) δ Ra := fun ω σ G H Q e k q =>
  h ω σ G H _ e k fun v d G1 H1 g1 k1 r1 h1 => h1 ω σ G1 H1 _ (e.mono g1) k1 fun vs es G2 H2 g2 k2 r2 h2 => q (v :: vs) (.dat d :: es) G2 H2 (g1.trans g2) k2 (.cons ⟨v, rfl, r1.mono g2⟩ r2) h2
theorem wa_pen {i : Nat} (hp : δ[i]? = some .pen) (h : WA K ar δ fun es => Ra (.pen :: es)) : WA K (tCons (tVar i) ar) δ Ra := fun ω σ G H Q e k q => by
  obtain ⟨s, h1, p, h2, h3⟩ := e i _ hp
  subst h2
  exact ⟨.ref p, h1, h ω σ G H _ e k fun vs es G2 H2 g2 k2 r2 h2 => q (.ref p :: vs) (.pen :: es) G2 H2 g2 k2 (.cons ⟨p, rfl, h3⟩ r2) h2⟩

/-! tuples, lists -/
def dats : List E → Option (List Dt)
  | [] => some []
  | .dat d :: es => (dats es).map (d :: ·)
  | _ :: _ => none
theorem rpAll_of {ω : Wd} {G : Hp} : ∀ {es : List E} {vs : List V} {ds : List Dt}, RelA K ω G vs es → dats es = some ds → RpAll K G vs ds
  | [], _, _, h, e => by
    cases h
    obtain rfl := Option.some.inj e
    exact .nil
  | .dat d :: es, _, ds, h, e => by
    cases h with
    | cons a b =>
      unfold dats at e
      cases q : dats es with
      | none => rw [q] at e; cases e
      | some ds' =>
        rw [q] at e
        obtain rfl : d :: ds' = ds := Option.some.inj e
        obtain ⟨v, h1, h2⟩ := a
        obtain rfl := Option.some.inj h1
        exact .cons h2 (rpAll_of b q)
  | .unk :: _, _, _, _, e => by cases e
  | .pen :: _, _, _, _, e => by cases e
  | .own _ :: _, _, _, _, e => by cases e
  | .scr _ :: _, _, _, _, e => by cases e
  | .pl _ :: _, _, _, _, e => by cases e
theorem w_tup (h : WA K ar δ fun es => ∃ ds, dats es = some ds ∧ ds.length ≤ sizeLine ∧ R (.tuple ds)) : W K (tTup ar) δ R := fun ω σ G H Q e k q =>
  h ω σ G H _ e k fun vs es G1 H1 g1 k1 r1 ⟨ds, e1, hz, h1⟩ => by
    have ra := rpAll_of r1 e1
    refine ⟨by rw [ra.len]; exact hz, fun p hp => ?_⟩
    have hg := k1.1.free hp
    exact q (.ref p) _ (upd G1 p (.tup vs)) _ (g1.trans (same_new hg)) (k1.new hp) (.tup (.inl (.inl upd_same)) (ra.mono (same_new hg))) h1
theorem w_lst (h : WA K ar δ fun es => ∃ ds, dats es = some ds ∧ ds.length ≤ sizeLine ∧ R (.list ds)) : W K (tLst ar) δ R := fun ω σ G H Q e k q =>
  h ω σ G H _ e k fun vs es G1 H1 g1 k1 r1 ⟨ds, e1, hz, h1⟩ => by
    have ra := rpAll_of r1 e1
    refine ⟨by rw [ra.len]; exact hz, fun p hp => ?_⟩
    have hg := k1.1.free hp
    exact q (.ref p) _ (upd G1 p (.lst vs)) _ (g1.trans (same_new hg)) (k1.new hp) (.lst upd_same (ra.mono (same_new hg))) h1
/-- a new list, a new tuple, of values that are known -/
theorem q_lst {ω : Wd} {G H : Hp} {Q : VK} {vs : List V} {ds : List Dt} (k : Ok ω G H) (ra : RpAll K G vs ds) (q : ∀ w d G' H', Same G G' → Ok ω G' H' → Rp K G' w d → R d → Q w H') (r : R (.list ds)) : ∀ p, H p = none → Q (.ref p) (upd H p (.lst vs)) := fun p hp => by
  have hg := k.1.free hp
  exact q (.ref p) _ (upd G p (.lst vs)) _ (same_new hg) (k.new hp) (.lst upd_same (ra.mono (same_new hg))) r
theorem q_tup {ω : Wd} {G H : Hp} {Q : VK} {vs : List V} {ds : List Dt} (k : Ok ω G H) (ra : RpAll K G vs ds) (q : ∀ w d G' H', Same G G' → Ok ω G' H' → Rp K G' w d → R d → Q w H') (r : R (.tuple ds)) : ∀ p, H p = none → Q (.ref p) (upd H p (.tup vs)) := fun p hp => by
  have hg := k.1.free hp
  exact q (.ref p) _ (upd G p (.tup vs)) _ (same_new hg) (k.new hp) (.tup (.inl (.inl upd_same)) (ra.mono (same_new hg))) r

/-! slices -/
theorem wo_none {Ro : Option Int → Prop} (r : Ro none) : WO K tNoPart δ Ro := fun ω σ G H Q e k q => q none none G H (Same.refl G) k rfl r
theorem wo_some {Ro : Option Int → Prop} (h : W K te δ fun d => ∃ i, d = .int i ∧ Ro (some i)) : WO K (tPart te) δ Ro := fun ω σ G H Q e k q => h ω σ G H _ e k fun x y G' H' g k' r ⟨i, e1, ri⟩ => by
  subst e1
  exact ⟨i, r.int_inv, q _ _ G' H' g k' rfl ri⟩
def cutD (xs : List Dt) (lo hi : Option Int) : List Dt := (xs.drop (HT.sIx xs.length 0 lo)).take (HT.sIx xs.length xs.length hi - HT.sIx xs.length 0 lo)
theorem rp_cut {G : Hp} {vs : List V} {ds : List Dt} (h : RpAll K G vs ds) (lo hi : Option Int) : RpAll K G (cutV vs lo hi) (cutD ds lo hi) := by
  unfold cutV cutD
  rw [h.len]
  exact (h.drop _).take _
def SlD (K : PySem.W.Frag) (r : V → Option Int → Option Int → Hp → VK → Prop) (x : Dt) (lo hi : Option Int) (R : Dt → Prop) : Prop :=
  ∀ (ω : Wd) (G H : Hp) (v : V) (Q : VK), Ok ω G H → Rp K G v x → (∀ w d G' H', Same G G' → Ok ω G' H' → Rp K G' w d → R d → Q w H') → r v lo hi H Q
theorem w_sl {r : V → Option Int → Option Int → Hp → VK → Prop} {tl th : TO} (h : W K te δ fun x => WO K tl δ fun lo => WO K th δ fun hi => SlD K r x lo hi R) : W K (tSl r te tl th) δ R := fun ω σ G H Q e k q =>
  h ω σ G H _ e k fun v x G1 H1 g1 k1 r1 h1 => h1 ω σ G1 H1 _ (e.mono g1) k1 fun lo lo' G2 H2 g2 k2 e2 h2 => h2 ω σ G2 H2 _ (e.mono (g1.trans g2)) k2 fun hi hi' G3 H3 g3 k3 e3 h3 => by
    subst e2 e3
    exact h3 ω G3 H3 v Q k3 (r1.mono (g2.trans g3)) fun w d G4 H4 g4 k4 r4 h4 => q w d G4 H4 (((g1.trans g2).trans g3).trans g4) k4 r4 h4
theorem sl_L {ds : List Dt} {lo hi : Option Int} (r : R (.list (cutD ds lo hi))) : SlD K (rSlL K) (.list ds) lo hi R := fun ω G H v Q k h q => by
  obtain ⟨a, xs, rfl, hs, ra⟩ := h.list_inv
  exact ⟨a, xs, rfl, .inl (.inl (k.1 _ _ hs)), q_lst k (rp_cut ra lo hi) q r⟩
theorem sl_T {ds : List Dt} {lo hi : Option Int} (r : R (.tuple (cutD ds lo hi))) : SlD K (rSlA K) (.tuple ds) lo hi R := fun ω G H v Q k h q => by
  obtain ⟨a, xs, rfl, hs, ra⟩ := h.tuple_inv
  refine ⟨a, xs, rfl, same_t k.1 hs, fun e => ?_, fun _ => q_tup k (rp_cut ra lo hi) q r⟩
  have e1 : cutD ds lo hi = ds := by
    unfold cutD
    rw [← ra.len, e.1, e.2, List.drop_zero, Nat.sub_zero, ra.len]
    exact List.take_length
  rw [e1] at r
  exact q (.ref a) _ G H (Same.refl G) k (.tup hs ra) r

/-! subscripts -/
theorem o_ixL {ds : List Dt} {i : Int} {d : Dt} (h : atI ds i = some d) (r : R d) : OpD K (rIxL K) (.list ds) (.int i) R := fun ω G H v u Q k h1 h2 q => by
  obtain ⟨a, xs, rfl, hs, ra⟩ := h1.list_inv
  obtain ⟨x, hx, rx⟩ : ∃ x, atI xs i = some x ∧ Rp K G x d := by
    unfold atI at h ⊢
    rw [ra.len]
    cases e : ixN ds.length i with
    | none => rw [e] at h; cases h
    | some j =>
      rw [e] at h
      exact ra.at h
  exact ⟨a, xs, i, x, rfl, h2.int_inv, .inl (.inl (k.1 _ _ hs)), hx, q x d G H (Same.refl G) k rx r⟩
theorem o_ixT {ds : List Dt} {i : Int} {d : Dt} (h : atI ds i = some d) (r : R d) : OpD K (rIxT K) (.tuple ds) (.int i) R := fun ω G H v u Q k h1 h2 q => by
  obtain ⟨a, xs, rfl, hs, ra⟩ := h1.tuple_inv
  obtain ⟨x, hx, rx⟩ : ∃ x, atI xs i = some x ∧ Rp K G x d := by
    unfold atI at h ⊢
    rw [ra.len]
    cases e : ixN ds.length i with
    | none => rw [e] at h; cases h
    | some j =>
      rw [e] at h
      exact ra.at h
  exact ⟨a, xs, i, x, rfl, h2.int_inv, same_t k.1 hs, hx, q x d G H (Same.refl G) k rx r⟩

theorem w_ixScr {ns : List Int} {n : Int} {i : Nat} (hi : δ[i]? = some (.scr ns)) (h : W K tb δ fun d => ∃ j, d = .int j ∧ atI ns j = some n ∧ R (.int n)) : W K (tOp (rIxL K) (tVar i) tb) δ R := fun ω σ G H Q e k q => by
  obtain ⟨s, h1, p, h2, h3⟩ := e i _ hi
  subst h2
  refine ⟨.ref p, h1, h ω σ G H _ e k fun u d G1 H1 g1 k1 r1 ⟨j, e1, ha, hr⟩ => ?_⟩
  subst e1
  refine ⟨p, ns.map V.int, j, .int n, rfl, r1.int_inv, k1.1.seq (g1.seq h3), ?_, q _ _ G1 H1 g1 k1 (.int n) hr⟩
  unfold atI at ha ⊢
  rw [List.length_map]
  cases e : ixN ns.length j with
  | none => rw [e] at ha; cases ha
  | some l =>
    rw [e] at ha
    have ha' : ns[l]? = some n := ha
    show (ns.map V.int)[l]? = some (V.int n)
    rw [List.getElem?_map, ha']
    rfl
theorem w_slScr {ns : List Int} {i : Nat} {tl th : TO} (hi : δ[i]? = some (.scr ns)) (h : WO K tl δ fun lo => WO K th δ fun hi => R (.list (cutD (ns.map .int) lo hi))) : W K (tSl (rSlL K) (tVar i) tl th) δ R := fun ω σ G H Q e k q => by
  obtain ⟨s, h1, p, h2, h3⟩ := e i _ hi
  subst h2
  refine ⟨.ref p, h1, h ω σ G H _ e k fun lo lo' G2 H2 g2 k2 e2 h2 => h2 ω σ G2 H2 _ (e.mono g2) k2 fun hi hi' G3 H3 g3 k3 e3 h3' => ?_⟩
  subst e2 e3
  exact ⟨p, ns.map V.int, rfl, k3.1.seq ((g2.trans g3).seq h3), q_lst k3 (rp_cut (RpAll.of_ints ns) lo hi) (fun w d G4 H4 g4 k4 r4 h4 => q w d G4 H4 ((g2.trans g3).trans g4) k4 r4 h4) h3'⟩

/-! lists put together -/
theorem o_cat {xs ys : List Dt} (hz : xs.length + ys.length ≤ sizeLine) (r : R (.list (xs ++ ys))) : OpD K rCat (.list xs) (.list ys) R := fun ω G H v u Q k h1 h2 q => by
  obtain ⟨a, vs, rfl, hs, ra⟩ := h1.list_inv
  obtain ⟨b, us, rfl, hs2, rb⟩ := h2.list_inv
  exact ⟨a, b, vs, us, rfl, rfl, k.1 _ _ hs, k.1 _ _ hs2, by rw [ra.len, rb.len]; exact hz, q_lst k (ra.append rb) q r⟩
theorem o_rep {xs : List Dt} {m : Int} (h1 : -(2 ^ 63) ≤ m) (h2 : m < 2 ^ 63) (hz : xs.length * m.toNat ≤ sizeLine) (r : R (.list (List.replicate m.toNat xs).flatten)) : OpD K rRep (.list xs) (.int m) R := fun ω G H v u Q k g1 g2 q => by
  obtain ⟨a, vs, rfl, hs, ra⟩ := g1.list_inv
  exact ⟨a, m, vs, rfl, g2.int_inv, k.1 _ _ hs, h1, h2, by rw [ra.len]; exact hz, q_lst k (ra.rep _) q r⟩
theorem o_catT {xs ys : List Dt} (hz : xs.length + ys.length ≤ sizeLine) (r : R (.tuple (xs ++ ys))) : OpD K (rCatA K) (.tuple xs) (.tuple ys) R := fun ω G H v u Q k h1 h2 q => by
  obtain ⟨a, vs, rfl, hs, ra⟩ := h1.tuple_inv
  obtain ⟨b, us, rfl, hs2, rb⟩ := h2.tuple_inv
  refine ⟨a, b, vs, us, rfl, rfl, same_t k.1 hs, same_t k.1 hs2, by rw [ra.len, rb.len]; exact hz, fun e => ?_, fun _ e => ?_, fun _ _ => q_tup k (ra.append rb) q r⟩
  · subst e
    have e2 : xs = [] := List.length_eq_zero_iff.mp ra.len.symm
    subst e2
    exact q _ _ G H (Same.refl G) k (.tup hs2 rb) r
  · subst e
    have e2 : ys = [] := List.length_eq_zero_iff.mp rb.len.symm
    subst e2
    rw [List.append_nil] at r
    exact q _ _ G H (Same.refl G) k (.tup hs ra) r
end
end DW
namespace DW
open PySem PySem.Spec PyProof.Rows L2
variable [Tabl]

/-! ### statements -/
structure Std (K : PySem.W.Frag) (ω : Wd) (G H : Hp) (δ : Nm) (σ : L2.St) : Prop where
  env : EnvE K ω G δ σ
  ok : Ok ω G H
  own : ∀ (i : Nat) (ds : Dt), δ[i]? = some (.own ds) → ∃ p vs, σ[i]? = some (some (.ref p)) ∧ H p = some vs ∧ RpO K G vs ds ∧ G p = none ∧ ∀ q ∈ ω, q.1 ≠ p
  one : ∀ (i j : Nat) (ds es : Dt), δ[i]? = some (.own ds) → δ[j]? = some (.own es) → i = j ∨ ∀ p : Addr, σ[i]? = some (some (.ref p)) → σ[j]? = some (some (.ref p)) → False

section
variable {K : PySem.W.Frag} {ω : Wd} {G H : Hp} {δ : Nm} {σ : L2.St}
theorem Std.differ (s : Std K ω G H δ σ) {i j : Nat} {ds es : Dt} {p q : Addr} (hi : δ[i]? = some (.own ds)) (hj : δ[j]? = some (.own es)) (hij : i ≠ j) (h1 : σ[i]? = some (some (.ref p))) (h2 : σ[j]? = some (some (.ref q))) : p ≠ q := fun e => by
  subst e
  rcases s.one i j ds es hi hj with z | z
  · exact hij z
  · exact z p h1 h2
theorem Ok.rest {L : Wd} (k : Ok (L ++ ω) G H) : Ok ω G H := by
  refine ⟨k.1, ⟨?_, k.2.1.2.nt, k.2.1.2.off, k.2.1.2.on, fun q hq => k.2.1.2.pl q (List.mem_append_right _ hq)⟩, fun q hq => k.2.2 q (List.mem_append_right _ hq)⟩
  have := k.2.1.1
  rw [List.map_append, List.nodup_append] at this
  exact this.2.1
theorem Ok.parts {L : Wd} (k : Ok (L ++ ω) G H) {q r : Addr × (HO → Prop)} (hq : q ∈ ω) (hr : r ∈ L) : q.1 ≠ r.1 := by
  have := k.2.1.1
  rw [List.map_append, List.nodup_append] at this
  exact fun e => this.2.2 r.1 (List.mem_map_of_mem hr) q.1 (List.mem_map_of_mem hq) e.symm
/-- what the names own, held apart -/
theorem Std.guard (s : Std K ω G H δ σ) : ∀ n : Nat, ∃ L : Wd, Ok (L ++ ω) G H ∧ (∀ (i : Nat) (ds : Dt), i < n → δ[i]? = some (.own ds) → ∃ p vs, σ[i]? = some (some (.ref p)) ∧ (p, fun o => o = vs) ∈ L ∧ RpO K G vs ds) ∧
    ∀ q ∈ L, ∃ (i : Nat) (ds : Dt), i < n ∧ δ[i]? = some (.own ds) ∧ σ[i]? = some (some (.ref q.1))
  | 0 => ⟨[], s.ok, fun i ds h => absurd h (Nat.not_lt_zero i), fun q hq => absurd hq List.not_mem_nil⟩
  | n + 1 => by
    obtain ⟨L, k, h1, h2⟩ := s.guard n
    by_cases ho : ∃ ds : Dt, δ[n]? = some (.own ds)
    · obtain ⟨ds, hn⟩ := ho
      obtain ⟨p, vs, a1, a2, a3, a4, a5⟩ := s.own n ds hn
      refine ⟨(p, fun o => o = vs) :: L, k.push a4 a2 rfl fun q hq => ?_, fun i es hi he => ?_, fun q hq => ?_⟩
      · rcases List.mem_append.mp hq with hq | hq
        · obtain ⟨i, es, hi, e1, e2⟩ := h2 q hq
          exact s.differ e1 hn (by omega) e2 a1
        · exact a5 q hq
      · by_cases c : i < n
        · obtain ⟨p', vs', b1, b2, b3⟩ := h1 i es c he
          exact ⟨p', vs', b1, List.mem_cons_of_mem _ b2, b3⟩
        · have e : i = n := by omega
          subst e
          rw [hn] at he
          cases he
          exact ⟨p, vs, a1, List.mem_cons_self, a3⟩
      · rcases List.mem_cons.mp hq with e | hq
        · subst e
          exact ⟨n, ds, by omega, hn, a1⟩
        · obtain ⟨i, es, hi, e1, e2⟩ := h2 q hq
          exact ⟨i, es, by omega, e1, e2⟩
    · refine ⟨L, k, fun i es hi he => ?_, fun q hq => ?_⟩
      · by_cases c : i < n
        · exact h1 i es c he
        · have e : i = n := by omega
          subst e
          exact absurd ⟨es, he⟩ ho
      · obtain ⟨i, es, hi, e1, e2⟩ := h2 q hq
        exact ⟨i, es, by omega, e1, e2⟩
/-- .. and taken up again -/
theorem Std.back {G' H' : Hp} {L : Wd} (s : Std K ω G H δ σ) (g : Same G G') (k : Ok (L ++ ω) G' H') (h1 : ∀ (i : Nat) (ds : Dt), i < δ.length → δ[i]? = some (.own ds) → ∃ p vs, σ[i]? = some (some (.ref p)) ∧ (p, fun o => o = vs) ∈ L ∧ RpO K G vs ds) : Std K ω G' H' δ σ :=
  ⟨s.env.mono g, k.rest, fun i ds hi => by
    obtain ⟨p, vs, b1, b2, b3⟩ := h1 i ds (List.getElem?_eq_some_iff.mp hi).1 hi
    obtain ⟨c1, o, c2, c3⟩ := k.2.2 _ (List.mem_append_left _ b2)
    have c3' : o = vs := c3
    subst c3'
    exact ⟨p, o, b1, c2, b3.mono g, c1, fun q hq => k.parts hq b2⟩, s.one⟩
/-- a piece runs from a statement's state: what the names own stays -/
theorem run_wg {α β : Type} {Rel : Hp → α → β → Prop} {t : L2.St → Hp → (α → Hp → Prop) → Prop} {R : β → Prop} {Q : α → Hp → Prop}
    (hw : WG K (fun _ => Rel) t δ R) (s : Std K ω G H δ σ) (q : ∀ x y G' H', Same G G' → Std K ω G' H' δ σ → Rel G' x y → R y → Q x H') : t σ H Q := by
  obtain ⟨L, k, h1, _⟩ := s.guard δ.length
  exact hw (L ++ ω) σ G H Q (s.env.more fun q hq => List.mem_append_right _ hq) k fun x y G' H' g k' r ry => q x y G' H' g (s.back g k' h1) r ry
/-- the names' own lists, seen as data -/
def seen : E → E
  | .own (.tuple ds) => .dic ds
  | .own ds => .dat ds
  | e => e
theorem seen_slot {p : Addr} {o : HO} {es : Dt} (h : G p = some o) (r : RpO K G o es) : SlotE K ω G (seen (.own es)) (some (.ref p)) := by
  cases es with
  | tuple ds => exact ⟨p, o, rfl, h, r⟩
  | _ => exact ⟨.ref p, rfl, .obj h r fun es e => nomatch e⟩
theorem Std.open (s : Std K ω G H δ σ) : ∀ n : Nat, ∃ G0 : Hp, Same G G0 ∧ Ok ω G0 H ∧ (∀ (i : Nat) (ds : Dt), i < n → δ[i]? = some (.own ds) → ∃ p vs, σ[i]? = some (some (.ref p)) ∧ G0 p = some vs ∧ RpO K G0 vs ds) ∧
    ∀ (p : Addr) (o : HO), G0 p = some o → G p = some o ∨ ∃ (i : Nat) (ds : Dt), i < n ∧ δ[i]? = some (.own ds) ∧ σ[i]? = some (some (.ref p))
  | 0 => ⟨G, Same.refl G, s.ok, fun i ds h => absurd h (Nat.not_lt_zero i), fun p o h => .inl h⟩
  | n + 1 => by
    obtain ⟨G0, g, k, h1, h2⟩ := s.open n
    by_cases ho : ∃ ds : Dt, δ[n]? = some (.own ds)
    · obtain ⟨ds, hn⟩ := ho
      obtain ⟨p, vs, a1, a2, a3, a4, a5⟩ := s.own n ds hn
      have none0 : G0 p = none := by
        cases hp : G0 p with
        | none => rfl
        | some o =>
          rcases h2 p o hp with z | ⟨i, es, hi, e1, e2⟩
          · rw [a4] at z
            cases z
          · exact absurd rfl (s.differ e1 hn (by omega) e2 a1)
      have g0 : Same G0 (upd G0 p vs) := same_new none0
      refine ⟨upd G0 p vs, g.trans g0, ⟨fun b o e => ?_, ⟨k.2.1.1, k.2.1.2.know a2 a3.pl⟩, fun q hq => ⟨by rw [upd_ne (a5 q hq)]; exact (k.2.2 q hq).1, (k.2.2 q hq).2⟩⟩, fun i es hi he => ?_, fun b o e => ?_⟩
      · by_cases hb : b = p
        · subst hb
          rw [upd_same] at e
          cases e
          exact a2
        · rw [upd_ne hb] at e
          exact k.1 b o e
      · by_cases c : i < n
        · obtain ⟨p', vs', b1, b2, b3⟩ := h1 i es c he
          exact ⟨p', vs', b1, g0 _ _ b2, b3.mono g0⟩
        · have e : i = n := by omega
          subst e
          rw [hn] at he
          cases he
          exact ⟨p, vs, a1, upd_same, a3.mono (g.trans g0)⟩
      · by_cases hb : b = p
        · subst hb
          exact .inr ⟨n, ds, by omega, hn, a1⟩
        · rw [upd_ne hb] at e
          rcases h2 b o e with z | ⟨i, es, hi, e1, e2⟩
          · exact .inl z
          · exact .inr ⟨i, es, by omega, e1, e2⟩
    · refine ⟨G0, g, k, fun i es hi he => ?_, fun b o e => ?_⟩
      · by_cases c : i < n
        · exact h1 i es c he
        · have e : i = n := by omega
          subst e
          exact absurd ⟨es, he⟩ ho
      · rcases h2 b o e with z | ⟨i, es, hi, e1, e2⟩
        · exact .inl z
        · exact .inr ⟨i, es, by omega, e1, e2⟩
/-- the same where what is asked is seen of the own lists, and what comes leans on no object -/
theorem run_seen {α β : Type} {Rel : α → β → Prop} {t : L2.St → Hp → (α → Hp → Prop) → Prop} {R : β → Prop} {Q : α → Hp → Prop}
    (hw : WG K (fun _ _ => Rel) t (δ.map seen) R) (s : Std K ω G H δ σ) (q : ∀ x y H', Std K ω G H' δ σ → Rel x y → R y → Q x H') : t σ H Q := by
  obtain ⟨G0, g0, k0, h1, _⟩ := s.open δ.length
  refine hw ω σ G0 H Q (fun j e hj => ?_) k0 fun x y G' H' g k r ry => ?_
  · rw [List.getElem?_map] at hj
    cases hd : δ[j]? with
    | none => rw [hd] at hj; cases hj
    | some c =>
      rw [hd] at hj
      obtain rfl : seen c = e := Option.some.inj hj
      obtain ⟨s0, z1, z2⟩ := s.env j c hd
      refine ⟨s0, z1, ?_⟩
      cases c with
      | own es =>
        obtain ⟨p, vs, b1, b2, b3⟩ := h1 j es (List.getElem?_eq_some_iff.mp hd).1 hd
        rw [b1] at z1
        obtain rfl := Option.some.inj z1
        exact seen_slot b2 b3
      | dat d => exact z2.mono g0
      | pen => exact z2
      | unk => trivial
      | scr ns => exact z2.mono g0
      | pl ns => exact z2.mono g0
      | dic ns => exact z2.mono g0
  · refine q x y H' ⟨s.env, k.anti (g0.trans g), fun j es hj => ?_, s.one⟩ r ry
    obtain ⟨p, vs, a1, a2, a3, a4, a5⟩ := s.own j es hj
    obtain ⟨p', vs', b1, b2, b3⟩ := h1 j es (List.getElem?_eq_some_iff.mp hj).1 hj
    rw [a1] at b1
    cases b1
    have e := k0.1 p _ b2
    rw [a2] at e
    cases e
    exact ⟨p, vs, a1, k.1 p _ (g p _ b2), a3, a4, a5⟩
theorem Std.set (s : Std K ω G H δ σ) {i : Nat} {v : V} {d : Dt} (r : Rp K G v d) : Std K ω G H (δ.set i (.dat d)) (σ.set i (some v)) := by
  have back : ∀ (j : Nat) (ds : Dt), (δ.set i (.dat d))[j]? = some (.own ds) → δ[j]? = some (.own ds) ∧ i ≠ j := fun j ds hj => by
    by_cases hij : i = j
    · subst hij
      by_cases hl : i < δ.length
      · rw [List.getElem?_set_self hl] at hj
        cases hj
      · rw [List.getElem?_eq_none (by rw [List.length_set]; omega)] at hj
        cases hj
    · rw [List.getElem?_set_ne hij] at hj
      exact ⟨hj, hij⟩
  refine ⟨s.env.set ⟨v, rfl, r⟩, s.ok, fun j ds hj => ?_, fun j l ds es h1 h2 => by
    rw [List.getElem?_set_ne (back j ds h1).2, List.getElem?_set_ne (back l es h2).2]
    exact s.one j l ds es (back j ds h1).1 (back l es h2).1⟩
  obtain ⟨h1, h2⟩ := back j ds hj
  obtain ⟨p, vs, z⟩ := s.own j ds h1
  exact ⟨p, vs, by rw [List.getElem?_set_ne h2]; exact z.1, z.2⟩
end

/-- a target asks what is wanted alone -/
def GMono (g : TG) : Prop := ∀ (v : V) (σ : L2.St) (H : Hp) (Q Q' : L2.St → Hp → Prop), g v σ H Q → (∀ σ' H', Q σ' H' → Q' σ' H') → g v σ H Q'
/-- a target's store, by data -/
def WGt (K : PySem.W.Frag) (g : TG) (d : Dt) (δ : Nm) (nx : Nm → Prop) : Prop :=
  ∀ (ω : Wd) (σ : L2.St) (G H : Hp) (v : V) (Q : L2.St → Hp → Prop), Std K ω G H δ σ → Rp K G v d → (∀ σ' δ', Std K ω G H δ' σ' → nx δ' → Q σ' H) → g v σ H Q
/-- a statement: what follows, what is returned, break, continue -/
def WS (K : PySem.W.Frag) (ts : TS) (δ : Nm) (nx : Nm → Prop) (rt : Dt → Prop) (bk ct : Nm → Prop) : Prop :=
  ∀ (ω : Wd) (σ : L2.St) (G H : Hp) (D : Ends), Std K ω G H δ σ →
    (∀ σ' δ' G' H', Same G G' → Std K ω G' H' δ' σ' → nx δ' → D.nx σ' H') → (∀ v d G' H', Same G G' → Ok ω G' H' → Rp K G' v d → rt d → D.rt v H') →
    (∀ σ' δ' G' H', Same G G' → Std K ω G' H' δ' σ' → bk δ' → D.bk σ' H') → (∀ σ' δ' G' H', Same G G' → Std K ω G' H' δ' σ' → ct δ' → D.ct σ' H') → ts D σ H
section
variable {K : PySem.W.Frag} {δ : Nm} {te ta tb : TE} {tt : TT} {tu tw ts : TS} {nx bk ct : Nm → Prop} {rt : Dt → Prop}
theorem ws_seq (h : WS K tu δ (fun δ' => WS K tw δ' nx rt bk ct) rt bk ct) : WS K (tSeq tu tw) δ nx rt bk ct := fun ω σ G H D s n r b c =>
  h ω σ G H { D with nx := tw D } s (fun σ' δ' G' H' g s' h' => h' ω σ' G' H' D s' (fun σ2 δ2 G2 H2 g2 => n σ2 δ2 G2 H2 (g.trans g2)) (fun v d G2 H2 g2 => r v d G2 H2 (g.trans g2))
    (fun σ2 δ2 G2 H2 g2 => b σ2 δ2 G2 H2 (g.trans g2)) (fun σ2 δ2 G2 H2 g2 => c σ2 δ2 G2 H2 (g.trans g2))) r b c
theorem ws_mono {nx' bk' ct' : Nm → Prop} {rt' : Dt → Prop} (h : WS K tu δ nx rt bk ct) (n : ∀ δ, nx δ → nx' δ) (r : ∀ d, rt d → rt' d) (b : ∀ δ, bk δ → bk' δ) (c : ∀ δ, ct δ → ct' δ) : WS K tu δ nx' rt' bk' ct' := fun ω σ G H D s n' r' b' c' =>
  h ω σ G H D s (fun σ' δ' G' H' g s' q => n' σ' δ' G' H' g s' (n _ q)) (fun v d G' H' g k p q => r' v d G' H' g k p (r _ q)) (fun σ' δ' G' H' g s' q => b' σ' δ' G' H' g s' (b _ q)) (fun σ' δ' G' H' g s' q => c' σ' δ' G' H' g s' (c _ q))
/-- two statements with a word between them -/
theorem ws_seqM (M : Nm → Prop) (h : WS K tu δ M rt bk ct) (k : ∀ δ', M δ' → WS K tw δ' nx rt bk ct) : WS K (tSeq tu tw) δ nx rt bk ct := ws_seq (ws_mono h k (fun _ h => h) (fun _ h => h) (fun _ h => h))
theorem ws_next (h : nx δ) : WS K tNext δ nx rt bk ct := fun ω σ G H D s n r b c => n σ δ G H (Same.refl G) s h
theorem ws_break (h : bk δ) : WS K tBreak δ nx rt bk ct := fun ω σ G H D s n r b c => b σ δ G H (Same.refl G) s h
theorem ws_cont (h : ct δ) : WS K tCont δ nx rt bk ct := fun ω σ G H D s n r b c => c σ δ G H (Same.refl G) s h
theorem ws_ret (h : W K te δ rt) : WS K (tRet te) δ nx rt bk ct := fun ω σ G H D s n r b c =>
  run_wg (Rel := fun G v d => Rp K G v d) h s fun v d G' H' g s' p q => r v d G' H' g s'.ok p q
theorem ws_retN (h : rt .none) : WS K tRetN δ nx rt bk ct := fun ω σ G H D s n r b c => r .non .none G H (Same.refl G) s.ok .non h
theorem ws_asg {i : Nat} (h : W K te δ fun d => nx (δ.set i (.dat d))) : WS K (tAsg te (gName i)) δ nx rt bk ct := fun ω σ G H D s n r b c =>
  run_wg (Rel := fun G v d => Rp K G v d) h s fun v d G' H' g s' p q => n _ _ G' H' g (s'.set p) q
theorem ws_drop (h : W K te δ fun _ => nx δ) : WS K (tDrop te) δ nx rt bk ct := fun ω σ G H D s n r b c =>
  run_wg (Rel := fun G v d => Rp K G v d) h s fun v d G' H' g s' p q => n _ _ G' H' g s' q
theorem ws_if (h : WT K tt (δ.map seen) fun b => if b = true then WS K tu δ nx rt bk ct else WS K tw δ nx rt bk ct) : WS K (tIfS tt tu tw) δ nx rt bk ct := fun ω σ G H D s n r b c =>
  run_seen (Rel := fun a b => a = b) h s fun x y H' s' e q => by
    subst e
    cases x with
    | true =>
      rw [if_pos rfl] at q ⊢
      exact q ω σ G H' D s' n r b c
    | false =>
      rw [if_neg Bool.false_ne_true] at q ⊢
      exact q ω σ G H' D s' n r b c
theorem ws_aug {i : Nat} {f : Int → Int → Int} {a : Int} (hi : δ[i]? = some (.dat (.int a))) (h : W K te δ fun d => ∃ b, d = .int b ∧ nx (δ.set i (.dat (.int (f a b))))) : WS K (tAug i te (ipI f)) δ nx rt bk ct := fun ω σ G H D s n r b c => by
  obtain ⟨s0, h1, v, h2, h3⟩ := s.env i _ hi
  subst h2
  refine ⟨v, h1, run_wg (Rel := fun G v d => Rp K G v d) h s fun u d G' H' g s' p ⟨j, e, q⟩ => ?_⟩
  subst e
  exact ⟨a, j, h3.int_inv, p.int_inv, n _ _ G' H' g (s'.set (.int _)) q⟩
/-- what the name owns is from here on data -/
theorem ws_freeze {i : Nat} {ds : Dt} (hi : δ[i]? = some (.own ds)) (h : WS K ts (δ.set i (.dat ds)) nx rt bk ct) (nt : ∀ es, ds ≠ .tuple es := by intro es e; cases e) : WS K ts δ nx rt bk ct := fun ω σ G H D s n r b c => by
  obtain ⟨p, vs, h1, h2, h3, h4, h5⟩ := s.own i ds hi
  have g0 : Same G (upd G p vs) := same_new h4
  have k0 : Ok ω (upd G p vs) H := ⟨fun b o e => by
    by_cases hb : b = p
    · subst hb
      rw [upd_same] at e
      cases e
      exact h2
    · rw [upd_ne hb] at e
      exact s.ok.1 b o e, ⟨s.ok.2.1.1, s.ok.2.1.2.know h2 h3.pl⟩, fun q hq => ⟨by rw [upd_ne (h5 q hq)]; exact (s.ok.2.2 q hq).1, (s.ok.2.2 q hq).2⟩⟩
  have back : ∀ (j : Nat) (es : Dt), (δ.set i (.dat ds))[j]? = some (.own es) → δ[j]? = some (.own es) ∧ i ≠ j := fun j es hj => by
    have hl : i < δ.length := (List.getElem?_eq_some_iff.mp hi).1
    by_cases hij : i = j
    · subst hij
      rw [List.getElem?_set_self hl] at hj
      cases hj
    · rw [List.getElem?_set_ne hij] at hj
      exact ⟨hj, hij⟩
  have e0 : EnvE K ω (upd G p vs) (δ.set i (.dat ds)) (σ.set i (some (.ref p))) := (s.env.mono g0).set ⟨.ref p, rfl, .obj upd_same (h3.mono g0) nt⟩
  have e1 : σ.set i (some (.ref p)) = σ := by
    obtain ⟨hl, hv⟩ := List.getElem?_eq_some_iff.mp h1
    rw [← hv]
    exact List.set_getElem_self hl
  rw [e1] at e0
  refine h ω σ _ H D ⟨e0, k0, fun j es hj => ?_, fun j l ds es h1 h2 => s.one j l ds es (back j ds h1).1 (back l es h2).1⟩ (fun σ' δ' G' H' g => n σ' δ' G' H' (g0.trans g)) (fun v d G' H' g => r v d G' H' (g0.trans g))
    (fun σ' δ' G' H' g => b σ' δ' G' H' (g0.trans g)) (fun σ' δ' G' H' g => c σ' δ' G' H' (g0.trans g))
  obtain ⟨z1, z2⟩ := back j es hj
  obtain ⟨p', vs', a1, a2, a3, a4, a5⟩ := s.own j es z1
  have ne := s.differ z1 hi (Ne.symm z2) a1 h1
  exact ⟨p', vs', a1, a2, a3.mono g0, by rw [upd_ne ne]; exact a4, a5⟩
def isOwn : E → Bool
  | .own _ => true
  | _ => false
theorem lt_of_isSome {i : Nat} (h : (δ[i]?).isSome = true) : i < δ.length := by
  obtain ⟨x, hx⟩ := Option.isSome_iff_exists.mp h
  exact (List.getElem?_eq_some_iff.mp hx).1
/-- a name takes a new object as its own, as long as no other name has one -/
theorem Std.take {ω : Wd} {G H : Hp} {σ : L2.St} (s : Std K ω G H δ σ) {i : Nat} {p : Addr} {o : HO} {d : Dt} (hn : (0 : Nat) = 0) (hl : i < δ.length) (hp : H p = none) (ro : RpO K G o d) : Std K ω G (upd H p o) (δ.set i (.own d)) (σ.set i (some (.ref p))) := by
  have hg := s.ok.1.free hp
  have ap := s.ok.apart hp
  have ls : i < σ.length := by
    obtain ⟨s0, z, _⟩ := s.env i _ (List.getElem?_eq_getElem hl)
    exact (List.getElem?_eq_some_iff.mp z).1
  refine ⟨s.env.set (e := .own d) trivial, s.ok.put hg ap, fun j es hj => ?_, fun j l ds' es h1 h2 => ?_⟩
  · by_cases hij : i = j
    · subst hij
      rw [List.getElem?_set_self hl] at hj
      cases hj
      exact ⟨p, o, by rw [List.getElem?_set_self ls], upd_same, ro, hg, ap⟩
    · rw [List.getElem?_set_ne hij] at hj
      obtain ⟨p', vs, a1, a2, a3, a4, a5⟩ := s.own j es hj
      exact ⟨p', vs, by rw [List.getElem?_set_ne hij]; exact a1, by rw [upd_ne (ne_of_none a2 hp)]; exact a2, a3, a4, a5⟩
  · by_cases hij : i = j
    · by_cases hil : i = l
      · exact .inl (hij.symm.trans hil)
      · rw [List.getElem?_set_ne hil] at h2
        refine .inr fun q e1 e2 => ?_
        subst hij
        rw [List.getElem?_set_self ls] at e1
        rw [List.getElem?_set_ne hil] at e2
        cases e1
        obtain ⟨p', vs, a1, a2, _⟩ := s.own l es h2
        rw [e2] at a1
        cases a1
        rw [hp] at a2
        cases a2
    · rw [List.getElem?_set_ne hij] at h1
      by_cases hil : i = l
      · refine .inr fun q e1 e2 => ?_
        subst hil
        rw [List.getElem?_set_self ls] at e2
        rw [List.getElem?_set_ne hij] at e1
        cases e2
        obtain ⟨p', vs, a1, a2, _⟩ := s.own j ds' h1
        rw [e1] at a1
        cases a1
        rw [hp] at a2
        cases a2
      · rw [List.getElem?_set_ne hil] at h2
        rw [List.getElem?_set_ne hij, List.getElem?_set_ne hil]
        exact s.one j l ds' es h1 h2
/-- x = [..]: a list of the name's own -/
theorem ws_own {ar : TA} {i : Nat} (hn : (0 : Nat) = 0) (hl' : (δ[i]?).isSome = true) (h : WA K ar δ fun es => ∃ ds, dats es = some ds ∧ ds.length ≤ sizeLine ∧ nx (δ.set i (.own (.list ds)))) : WS K (tAsg (tLst ar) (gName i)) δ nx rt bk ct := fun ω σ G H D s n r b c => by
  have hl := lt_of_isSome hl'
  refine run_wg (Rel := fun G (vs : List V) (ds : List Dt) => RpAll K G vs ds) (R := fun ds => ds.length ≤ sizeLine ∧ nx (δ.set i (.own (.list ds)))) (t := fun σ H Q => ar σ H Q) (fun ω σ G H Q e k q => h ω σ G H Q e k fun vs es G' H' g k' ra ⟨ds, e1, e2, e3⟩ => q vs ds G' H' g k' (rpAll_of ra e1) ⟨e2, e3⟩) s fun vs ds G' H' g s' ra ⟨hz, q⟩ => ⟨by rw [ra.len]; exact hz, fun p hp => ?_⟩
  exact n _ _ G' _ g (s'.take (o := .lst vs) (d := .list ds) hn hl hp ra) q
/-- x = {} -/
theorem ws_ownD {i : Nat} (hn : (0 : Nat) = 0) (hl' : (δ[i]?).isSome = true) (h : nx (δ.set i (.own (.dict [])))) : WS K (tAsg tDNewK (gName i)) δ nx rt bk ct := fun ω σ G H D s n r b c p hp =>
  n _ _ G _ (Same.refl G) (s.take (o := .dK []) (d := .dict []) hn (lt_of_isSome hl') hp .nil) h
/-- x, y = {}, e (y any target) -/
theorem ws_ownD2 {i : Nat} {g : TG} (gm : GMono g) (hn : (0 : Nat) = 0) (hl' : (δ[i]?).isSome = true) (h : W K te δ fun d => WGt K g d (δ.set i (.own (.dict []))) nx) :
    WS K (tAsg (tTup (tCons tDNewK (tCons te tNil))) (gTup K 2 (gCons (gName i) (gCons g gNil)))) δ nx rt bk ct := fun ω σ G H D s n r b c p hp => by
  have hl := lt_of_isSome hl'
  have hg := s.ok.1.free hp
  have ap := s.ok.apart hp
  -- the dict stands apart while e is asked
  have kp : Ok ((p, fun o => o = .dK []) :: ω) G (upd H p (.dK [])) := (s.ok.put hg ap).push hg upd_same rfl ap
  have s1 : Std K ((p, fun o => o = .dK []) :: ω) G (upd H p (.dK [])) δ σ := ⟨s.env.more fun q hq => List.mem_cons_of_mem _ hq, kp, fun j ds hj => by
    obtain ⟨p', vs, h1, h2, h3, h4, h5⟩ := s.own j ds hj
    have ne : p ≠ p' := fun z => by rw [← z, hp] at h2; cases h2
    refine ⟨p', vs, h1, by rw [upd_ne (Ne.symm ne)]; exact h2, h3, h4, fun q hq => ?_⟩
    rcases List.mem_cons.mp hq with e | hq
    · rw [e]; exact ne
    · exact h5 q hq, s.one⟩
  refine run_wg (Rel := fun G v d => Rp K G v d) h s1 fun v d G' H' g' s' rp q => ⟨by show 2 ≤ sizeLine; decide, fun T hT => ?_⟩
  obtain ⟨k', d1, ⟨o, d2, d3⟩, d4⟩ := s'.ok.pop
  have d3' : o = .dK [] := d3
  subst d3'
  have hgT := s'.ok.1.free hT
  have apT := k'.apart hT
  have neT : p ≠ T := ne_of_none d2 hT
  refine ⟨T, [.ref p, v], rfl, .inl (.inl upd_same), rfl, _, _, rfl, _, _, rfl, ?_⟩
  have s2 : Std K ω G' (upd H' T (.tup [.ref p, v])) δ σ := ⟨s.env.mono g', k'.put hgT apT, fun j ds hj => by
    obtain ⟨p', vs, h1, h2, h3, h4, h5⟩ := s'.own j ds hj
    exact ⟨p', vs, h1, by rw [upd_ne (ne_of_none h2 hT)]; exact h2, h3, h4, fun q hq => h5 q (List.mem_cons_of_mem _ hq)⟩, s.one⟩
  have ls : i < σ.length := by
    obtain ⟨s0, z, _⟩ := s.env i _ (List.getElem?_eq_getElem hl)
    exact (List.getElem?_eq_some_iff.mp z).1
  have far : ∀ (j : Nat) (es : Dt) (q : Addr), δ[j]? = some (.own es) → σ[j]? = some (some (.ref q)) → q ≠ p := fun j es q hj hq e => by
    obtain ⟨p', vs, h1, h2, h3, h4, h5⟩ := s'.own j es hj
    rw [hq] at h1
    cases h1
    exact h5 (p, fun o => o = .dK []) List.mem_cons_self e.symm
  have s3 : Std K ω G' (upd H' T (.tup [.ref p, v])) (δ.set i (.own (.dict []))) (σ.set i (some (.ref p))) := by
    refine ⟨s2.env.set (e := .own (.dict [])) trivial, s2.ok, fun j es hj => ?_, fun j l ds' es h1 h2 => ?_⟩
    · by_cases hij : i = j
      · subst hij
        rw [List.getElem?_set_self hl] at hj
        cases hj
        exact ⟨p, .dK [], by rw [List.getElem?_set_self ls], by rw [upd_ne neT]; exact d2, .nil, d1, d4⟩
      · rw [List.getElem?_set_ne hij] at hj
        obtain ⟨p', vs, a⟩ := s2.own j es hj
        exact ⟨p', vs, by rw [List.getElem?_set_ne hij]; exact a.1, a.2⟩
    · by_cases hij : i = j
      · by_cases hil : i = l
        · exact .inl (hij.symm.trans hil)
        · rw [List.getElem?_set_ne hil] at h2
          refine .inr fun q e1 e2 => ?_
          subst hij
          rw [List.getElem?_set_self ls] at e1
          rw [List.getElem?_set_ne hil] at e2
          cases e1
          exact far l es p h2 e2 rfl
      · rw [List.getElem?_set_ne hij] at h1
        by_cases hil : i = l
        · refine .inr fun q e1 e2 => ?_
          subst hil
          rw [List.getElem?_set_self ls] at e2
          rw [List.getElem?_set_ne hij] at e1
          cases e2
          exact far j ds' p h1 e1 rfl
        · rw [List.getElem?_set_ne hil] at h2
          rw [List.getElem?_set_ne hij, List.getElem?_set_ne hil]
          exact s.one j l ds' es h1 h2
  exact gm v _ _ _ _ (q ω _ G' _ v (fun σ' H3 => H3 = upd H' T (.tup [.ref p, v]) ∧ ∃ δ', Std K ω G' (upd H' T (.tup [.ref p, v])) δ' σ' ∧ nx δ') s3 rp fun σ' δ' s4 h4 => ⟨rfl, δ', s4, h4⟩) fun σ' H3 ⟨e3, δ', s4, h4⟩ => ⟨rfl, by
    subst e3
    exact n _ _ G' _ g' s4 h4⟩
theorem Std.plAt {ω : Wd} {G H : Hp} {σ : L2.St} (s : Std K ω G H δ σ) {i : Nat} {ds : Dt} {p : Addr} (hi : δ[i]? = some (.own ds)) (h1 : σ[i]? = some (some (.ref p))) : ∀ o', H p = some o' → Pl o' := fun o' e => by
  obtain ⟨p', vs', a1, a2, a3, _⟩ := s.own i ds hi
  rw [h1] at a1
  cases a1
  rw [a2] at e
  cases e
  exact a3.pl
/-- what is known of a name's own list, to change it -/
theorem Std.chg {ω : Wd} {G H : Hp} {σ : L2.St} (s : Std K ω G H δ σ) {i : Nat} {ds ds' : Dt} {p : Addr} {ws : HO} (hi : δ[i]? = some (.own ds)) (h1 : σ[i]? = some (some (.ref p))) (h4 : G p = none) (h5 : ∀ q ∈ ω, q.1 ≠ p) (ra : RpO K G ws ds') :
    Std K ω G (upd H p ws) (δ.set i (.own ds')) σ := by
  have hl : i < δ.length := (List.getElem?_eq_some_iff.mp hi).1
  have e0 : EnvE K ω G (δ.set i (.own ds')) (σ.set i (some (.ref p))) := s.env.set (e := .own ds') trivial
  have e1 : σ.set i (some (.ref p)) = σ := by
    obtain ⟨hl, hv⟩ := List.getElem?_eq_some_iff.mp h1
    rw [← hv]
    exact List.set_getElem_self hl
  rw [e1] at e0
  refine ⟨e0, s.ok.put h4 h5 (s.plAt hi h1), fun j es hj => ?_, fun j l ds2 es z1 z2 => ?_⟩
  · by_cases hij : i = j
    · subst hij
      rw [List.getElem?_set_self hl] at hj
      cases hj
      exact ⟨p, ws, h1, upd_same, ra, h4, h5⟩
    · rw [List.getElem?_set_ne hij] at hj
      obtain ⟨p', vs, a1, a2, a3, a4, a5⟩ := s.own j es hj
      exact ⟨p', vs, a1, by rw [upd_ne (s.differ hj hi (Ne.symm hij) a1 h1)]; exact a2, a3, a4, a5⟩
  · have back : ∀ (j : Nat) (es : Dt), (δ.set i (.own ds'))[j]? = some (.own es) → ∃ es', δ[j]? = some (.own es') := fun j es hj => by
      by_cases hij : i = j
      · subst hij
        exact ⟨ds, hi⟩
      · rw [List.getElem?_set_ne hij] at hj
        exact ⟨es, hj⟩
    obtain ⟨a, ha⟩ := back j ds2 z1
    obtain ⟨b, hb⟩ := back l es z2
    exact s.one j l a b ha hb
/-- the list that a name owns -/
theorem Std.lst {ω : Wd} {G H : Hp} {σ : L2.St} (s : Std K ω G H δ σ) {i : Nat} {ds : List Dt} (hi : δ[i]? = some (.own (.list ds))) : ∃ p vs, σ[i]? = some (some (.ref p)) ∧ H p = some (.lst vs) ∧ RpAll K G vs ds ∧ G p = none ∧ ∀ q ∈ ω, q.1 ≠ p := by
  obtain ⟨p, o, h1, h2, h3, h4⟩ := s.own i _ hi
  obtain ⟨vs, rfl, ra⟩ := h3.list_inv
  exact ⟨p, vs, h1, h2, ra, h4⟩
theorem Std.dct {ω : Wd} {G H : Hp} {σ : L2.St} (s : Std K ω G H δ σ) {i : Nat} {ds : List (Dt × Dt)} (hi : δ[i]? = some (.own (.dict ds))) : ∃ p vs, σ[i]? = some (some (.ref p)) ∧ H p = some (.dK vs) ∧ RpKv K G vs ds ∧ G p = none ∧ ∀ q ∈ ω, q.1 ≠ p := by
  obtain ⟨p, o, h1, h2, h3, h4⟩ := s.own i _ hi
  obtain ⟨vs, rfl, ra⟩ := h3.dict_inv
  exact ⟨p, vs, h1, h2, ra, h4⟩
theorem ws_app {i : Nat} {ds : List Dt} (hi : δ[i]? = some (.own (.list ds))) (hz : ds.length < sizeLine) (h : W K te δ fun d => nx (δ.set i (.own (.list (ds ++ [d]))))) : WS K (tDrop (tBM K "list" rAppend (tVar i) (tCons te tNil))) δ nx rt bk ct := fun ω σ G H D s n r b c => by
  obtain ⟨p, vs, h1, h2, h3, h4, h5⟩ := s.lst hi
  refine ⟨.ref p, h1, .inl ⟨rfl, vs, .inl (.inl h2)⟩, run_wg (Rel := fun G v d => Rp K G v d) h s fun v d G' H' g s' rp q => ?_⟩
  obtain ⟨p', vs', k1, k2, k3, k4, k5⟩ := s'.lst hi
  rw [h1] at k1
  cases k1
  exact ⟨p, vs', v, rfl, rfl, k2, by rw [k3.len]; exact hz, n σ _ G' _ g (s'.chg (ws := .lst _) (ds' := .list _) hi h1 k4 k5 (k3.append (.cons rp .nil))) q⟩
theorem ws_ext {i : Nat} {ds : List Dt} (hi : δ[i]? = some (.own (.list ds))) (h : W K te δ fun d => ∃ es, d = .list es ∧ ds.length + es.length ≤ sizeLine ∧ nx (δ.set i (.own (.list (ds ++ es))))) : WS K (tDrop (tBM K "list" rExtend (tVar i) (tCons te tNil))) δ nx rt bk ct := fun ω σ G H D s n r b c => by
  obtain ⟨p, vs, h1, h2, h3, h4, h5⟩ := s.lst hi
  refine ⟨.ref p, h1, .inl ⟨rfl, vs, .inl (.inl h2)⟩, run_wg (Rel := fun G v d => Rp K G v d) h s fun v d G' H' g s' rp ⟨es, e1, hz, q⟩ => ?_⟩
  subst e1
  obtain ⟨b, us, rfl, hs, rb⟩ := rp.list_inv
  obtain ⟨p', vs', k1, k2, k3, k4, k5⟩ := s'.lst hi
  rw [h1] at k1
  cases k1
  exact ⟨p, b, vs', us, rfl, rfl, k2, s'.ok.1 _ _ hs, by rw [k3.len, rb.len]; exact hz, n σ _ G' _ g (s'.chg (ws := .lst _) (ds' := .list _) hi h1 k4 k5 (k3.append rb)) q⟩
/-- x[j] = v -/
theorem ws_setL {i : Nat} {ds : List Dt} (hi : δ[i]? = some (.own (.list ds))) (h : W K te δ fun d => W K tb δ fun j => ∃ (z : Int) (l : Nat), j = .int z ∧ ixN ds.length z = some l ∧ nx (δ.set i (.own (.list (ds.set l d))))) : WS K (tAsg te (gSub (tVar i) tb rSetL)) δ nx rt bk ct := fun ω σ G H D s n r b c => by
  refine run_wg (Rel := fun G v d => Rp K G v d) h s fun v d G' H' g s' rp q1 => ?_
  obtain ⟨p, vs, h1, h2, h3, h4, h5⟩ := s'.lst hi
  refine ⟨.ref p, h1, run_wg (Rel := fun G v d => Rp K G v d) q1 s' fun u e G2 H2 g2 s2 rp2 ⟨z, l, e1, hz, q⟩ => ?_⟩
  subst e1
  obtain ⟨p', vs', k1, k2, k3, k4, k5⟩ := s2.lst hi
  rw [h1] at k1
  cases k1
  exact ⟨p, vs', z, l, rfl, rp2.int_inv, k2, by rw [k3.len]; exact hz, n σ _ G2 _ (g.trans g2) (s2.chg (ws := .lst _) (ds' := .list _) hi h1 k4 k5 (k3.set (rp.mono g2) l)) q⟩
/-- x.pop() -/
theorem ws_pop {i : Nat} {ds : List Dt} (hi : δ[i]? = some (.own (.list ds))) (hz : 0 < ds.length) (h : nx (δ.set i (.own (.list ds.dropLast)))) : WS K (tDrop (tBM0 K "list" rPop (tVar i))) δ nx rt bk ct := fun ω σ G H D s n r b c => by
  obtain ⟨p, vs, h1, h2, h3, h4, h5⟩ := s.lst hi
  have hl : vs.length - 1 < vs.length := by rw [h3.len]; omega
  exact ⟨.ref p, h1, .inl ⟨rfl, vs, .inl (.inl h2)⟩, p, vs, _, rfl, rfl, h2, List.getElem?_eq_getElem hl, n σ _ G _ (Same.refl G) (s.chg (ws := .lst _) (ds' := .list _) hi h1 h4 h5 h3.dropLast) h⟩
/-- dicts with keys that are ints or texts, by data -/
def keyIs? : Dt → Key → Bool
  | .int i, .inl j => decide (i = j)
  | .str x, .inr y => decide (x = y)
  | _, _ => false
theorem keyIs?_of (k l : Key) : keyIs? (keyD k) l = decide (k = l) := by
  cases k <;> cases l <;> simp [keyIs?, keyD]
def dGet (ds : List (Dt × Dt)) (k : Key) : Option Dt := (ds.find? fun kv => keyIs? kv.1 k).map (·.2)
def dPut (ds : List (Dt × Dt)) (k : Key) (v : Dt) : List (Dt × Dt) := if (ds.any fun kv => keyIs? kv.1 k) = true then ds.map (fun kv => if keyIs? kv.1 k = true then (kv.1, v) else kv) else ds ++ [(keyD k, v)]
theorem kv_len {G : Hp} : ∀ {ds : List (Dt × Dt)} {kvs : List (Key × V)}, RpKv K G kvs ds → kvs.length = ds.length
  | [], _, h => by cases h; rfl
  | _ :: _, _, h => by
    cases h with
    | cons q r => rw [List.length_cons, List.length_cons, kv_len r]
theorem kv_get {G : Hp} {k : Key} : ∀ {ds : List (Dt × Dt)} {kvs : List (Key × V)}, RpKv K G kvs ds → (∀ d, dGet ds k = some d → ∃ v, valV kvs k = some v ∧ Rp K G v d) ∧ (dGet ds k = none → valV kvs k = none)
  | [], _, h => by cases h; exact ⟨fun d e => by simp [dGet] at e, fun _ => rfl⟩
  | _ :: ds, _, h => by
    cases h with
    | @cons l v kvs d _ q r =>
      have ih := kv_get (k := k) r
      by_cases e : l = k
      · have e1 : keyIs? (keyD l) k = true := by rw [keyIs?_of]; exact decide_eq_true e
        have g1 : dGet ((keyD l, d) :: ds) k = some d := by
          unfold dGet
          rw [List.find?_cons_of_pos (by exact e1)]
          rfl
        rw [g1, valV_pos e]
        exact ⟨fun d' e' => ⟨v, rfl, by cases e'; exact q⟩, fun e' => nomatch e'⟩
      · have e1 : ¬ keyIs? (keyD l) k = true := by rw [keyIs?_of]; simpa using e
        have g1 : dGet ((keyD l, d) :: ds) k = dGet ds k := by
          unfold dGet
          rw [List.find?_cons_of_neg (by exact e1)]
        rw [g1, valV_neg e]
        exact ih
theorem kv_any {G : Hp} {k : Key} : ∀ {ds : List (Dt × Dt)} {kvs : List (Key × V)}, RpKv K G kvs ds → (kvs.any fun kv => decide (kv.1 = k)) = ds.any fun kv => keyIs? kv.1 k
  | [], _, h => by cases h; rfl
  | _ :: ds, _, h => by
    cases h with
    | cons q r => rw [List.any_cons, List.any_cons, kv_any r, keyIs?_of]
theorem kv_snoc {G : Hp} {k : Key} {v : V} {d : Dt} (hv : Rp K G v d) : ∀ {ds : List (Dt × Dt)} {kvs : List (Key × V)}, RpKv K G kvs ds → RpKv K G (kvs ++ [(k, v)]) (ds ++ [(keyD k, d)])
  | [], _, h => by cases h; exact .cons hv .nil
  | _ :: ds, _, h => by
    cases h with
    | cons q r => exact .cons q (kv_snoc hv r)
theorem kv_map {G : Hp} {k : Key} {v : V} {d : Dt} (hv : Rp K G v d) : ∀ {ds : List (Dt × Dt)} {kvs : List (Key × V)}, RpKv K G kvs ds → RpKv K G (kvs.map fun kv => if kv.1 = k then (kv.1, v) else kv) (ds.map fun kv => if keyIs? kv.1 k = true then (kv.1, d) else kv)
  | [], _, h => by cases h; exact .nil
  | _ :: ds, _, h => by
    cases h with
    | @cons l u kvs e _ q r =>
      rw [List.map_cons, List.map_cons]
      by_cases el : l = k
      · rw [if_pos (by exact el), if_pos (by rw [keyIs?_of]; exact decide_eq_true el)]
        exact .cons hv (kv_map hv r)
      · rw [if_neg (by exact el), if_neg (by rw [keyIs?_of]; simpa using el)]
        exact .cons q (kv_map hv r)
theorem kv_put {G : Hp} {k : Key} {v : V} {d : Dt} {ds : List (Dt × Dt)} {kvs : List (Key × V)} (hv : Rp K G v d) (h : RpKv K G kvs ds) : RpKv K G (putK kvs k v) (dPut ds k d) := by
  unfold putK dPut
  rw [kv_any h]
  by_cases e : (ds.any fun kv => keyIs? kv.1 k) = true
  · rw [if_pos e, if_pos e]
    exact kv_map hv h
  · rw [if_neg e, if_neg e]
    exact kv_snoc hv h
/-- x[k] = v, x a dict of the name's own -/
theorem ws_putD {i : Nat} {ds : List (Dt × Dt)} (hi : δ[i]? = some (.own (.dict ds))) (hz : ds.length < sizeLine) (h : W K te δ fun d => W K tb δ fun c => ∃ k, c = keyD k ∧ nx (δ.set i (.own (.dict (dPut ds k d))))) : WS K (sDPut (tVar i) tb te) δ nx rt bk ct := fun ω σ G H D s n r b c => by
  refine run_wg (Rel := fun G v d => Rp K G v d) h s fun v d G' H' g s' rp q1 => ?_
  obtain ⟨p, vs, h1, h2, h3, h4, h5⟩ := s'.dct hi
  refine ⟨.ref p, h1, run_wg (Rel := fun G v d => Rp K G v d) q1 s' fun u e G2 H2 g2 s2 rp2 ⟨k, e1, q⟩ => ?_⟩
  subst e1
  obtain ⟨p', vs', k1, k2, k3, k4, k5⟩ := s2.dct hi
  rw [h1] at k1
  cases k1
  have eu : u = kV k := by cases k <;> first | exact rp2.int_inv | exact rp2.str_inv
  subst eu
  exact ⟨p, _, rfl, DPut.k k2 (by rw [kv_len k3]; exact hz), n σ _ G2 _ (g.trans g2) (s2.chg (ws := .dK _) (ds' := .dict _) hi h1 k4 k5 (kv_put (rp.mono g2) k3)) q⟩
theorem w_inD {R : Dt → Prop} (h : W K te δ fun c => W K tb δ fun d => ∃ k ds, c = keyD k ∧ d = .dict ds ∧ R (.bool (dGet ds k).isSome)) : W K (tDIn te tb) δ R := fun ω σ G H Q e k q =>
  h ω σ G H _ e k fun u c G1 H1 g1 k1 r1 h1 => h1 ω σ G1 H1 _ (e.mono g1) k1 fun v d G2 H2 g2 k2 r2 ⟨l, ds, e1, e2, hr⟩ => by
    subst e1 e2
    have r1' := r1.mono g2
    have eu : u = kV l := by cases l <;> first | exact r1'.int_inv | exact r1'.str_inv
    subst eu
    obtain ⟨a, kvs, rfl, ha, rk⟩ := r2.dict_inv
    refine ⟨a, _, rfl, DGet.k (k2.1 _ _ ha), q _ _ G2 H2 (g1.trans g2) k2 ?_ hr⟩
    have e3 : (valV kvs l).isSome = (dGet ds l).isSome := by
      cases hd : dGet ds l with
      | none =>
        rw [(kv_get rk).2 hd]
        rfl
      | some d =>
        obtain ⟨v, hv, _⟩ := (kv_get rk).1 d hd
        rw [hv]
        rfl
    rw [e3]
    exact .bl _

/-! ### targets: what a value is stored as -/
def WGs (K : PySem.W.Frag) (g : TGs) (ds : List Dt) (δ : Nm) (nx : Nm → Prop) : Prop :=
  ∀ (ω : Wd) (σ : L2.St) (G H : Hp) (vs : List V) (Q : L2.St → Hp → Prop), Std K ω G H δ σ → RpAll K G vs ds → (∀ σ' δ', Std K ω G H δ' σ' → nx δ' → Q σ' H) → g vs σ H Q
theorem g_name {i : Nat} {d : Dt} (h : nx (δ.set i (.dat d))) : WGt K (gName i) d δ nx := fun ω σ G H v Q s r q => q _ _ (s.set r) h
theorem gs_nil (h : nx δ) : WGs K gNil [] δ nx := fun ω σ G H vs Q s r q => by
  cases r
  exact ⟨rfl, q _ _ s h⟩
theorem gs_cons {g : TG} {gs : TGs} {d : Dt} {ds : List Dt} (h : WGt K g d δ fun δ' => WGs K gs ds δ' nx) : WGs K (gCons g gs) (d :: ds) δ nx := fun ω σ G H vs Q s r q => by
  cases r with
  | cons a b => exact ⟨_, _, rfl, h ω σ G H _ _ s a fun σ' δ' s' h' => h' ω σ' G H _ Q s' b q⟩
theorem g_tup {gs : TGs} {n : Nat} {ds : List Dt} (hn : ds.length = n) (h : WGs K gs ds δ nx) : WGt K (gTup K n gs) (.tuple ds) δ nx := fun ω σ G H v Q s r q => by
  obtain ⟨a, xs, rfl, hs, ra⟩ := r.tuple_inv
  exact ⟨a, xs, rfl, same_t s.ok.1 hs, by rw [ra.len]; exact hn, h ω σ G H xs Q s ra q⟩
theorem ws_asgT {g : TG} (h : W K te δ fun d => WGt K g d δ nx) : WS K (tAsg te g) δ nx rt bk ct := fun ω σ G H D s n r b c =>
  run_wg (Rel := fun G v d => Rp K G v d) h s fun v d G' H' g' s' p q => q ω σ G' H' v _ s' p fun σ2 δ2 s2 h2 => n _ _ G' H' g' s2 h2

/-! ### what is walked -/
/-- the iterator gives the data xs, one by one -/
def Gives (K : PySem.W.Frag) (G : Hp) (J : It) (xs : List Dt) : Prop := ∀ (ω : Wd) (G2 H2 : Hp) (i : Nat), Same G G2 → Ok ω G2 H2 →
  (xs.length = i → J.stop i H2) ∧ ∀ x, xs[i]? = some x → J.go i H2 ∧ ∀ v H3, J.yld i H2 v H3 → ∃ G3, Same G2 G3 ∧ Ok ω G3 H3 ∧ Rp K G3 v x
def WI (K : PySem.W.Frag) (wi : TI) (δ : Nm) (R : List Dt → Prop) : Prop := WG K (fun _ G J xs => Gives K G J xs) wi δ R
theorem Gives.std {ω : Wd} {G G2 H2 : Hp} {J : It} {xs : List Dt} {σ : L2.St} {i : Nat} {x : Dt} (gv : Gives K G J xs) (g : Same G G2) (s : Std K ω G2 H2 δ σ) (hx : xs[i]? = some x) :
    J.go i H2 ∧ ∀ v H3, J.yld i H2 v H3 → ∃ G3, Same G2 G3 ∧ Std K ω G3 H3 δ σ ∧ Rp K G3 v x := by
  obtain ⟨g1, g2⟩ := (gv ω G2 H2 i g s.ok).2 x hx
  refine ⟨g1, fun v H3 y => ?_⟩
  obtain ⟨L, k, h1, _⟩ := s.guard δ.length
  obtain ⟨G3, a1, a2, a3⟩ := ((gv (L ++ ω) G2 H2 i g k).2 x hx).2 v H3 y
  exact ⟨G3, a1, s.back a1 a2 h1, a3⟩
theorem wi_list {tl : TE} {Rx : List Dt → Prop} (h : W K tl δ fun d => ∃ xs, d = .list xs ∧ Rx xs) : WI K (iList K tl) δ Rx := fun ω σ G H Q e k q => h ω σ G H _ e k fun v d G1 H1 g1 k1 r ⟨xs, e1, rx⟩ => by
  subst e1
  obtain ⟨a, vs, rfl, hs, ra⟩ := r.list_inv
  refine ⟨a, rfl, ⟨vs, .inl (.inl (k1.1 _ _ hs))⟩, q _ xs G1 H1 g1 k1 (fun ω2 G2 H2 i g2 k2 => ⟨fun hi0 => have hi := Nat.le_of_eq hi0; ?_, fun x hx => ?_⟩) rx⟩
  · exact ⟨vs, .inl (.inl (k2.1 _ _ (g2 _ _ hs))), by rw [ra.len]; exact hi⟩
  · obtain ⟨v, hv, rv⟩ := ra.at hx
    have hl : SqL K H2 a vs := .inl (.inl (k2.1 _ _ (g2 _ _ hs)))
    refine ⟨⟨vs, v, hl, hv⟩, fun u H3 ⟨e3, f⟩ => ?_⟩
    subst e3
    have eu := f vs hl
    rw [hv] at eu
    cases eu
    exact ⟨G2, Same.refl _, k2, rv.mono g2⟩
theorem wi_tup {tl : TE} {Rx : List Dt → Prop} (h : W K tl δ fun d => ∃ xs, d = .tuple xs ∧ Rx xs) : WI K (iTup K tl) δ Rx := fun ω σ G H Q e k q => h ω σ G H _ e k fun v d G1 H1 g1 k1 r ⟨xs, e1, rx⟩ => by
  subst e1
  obtain ⟨a, vs, rfl, hs, ra⟩ := r.tuple_inv
  refine ⟨a, rfl, ⟨vs, same_t k1.1 hs⟩, q _ xs G1 H1 g1 k1 (fun ω2 G2 H2 i g2 k2 => ⟨fun hi0 => have hi := Nat.le_of_eq hi0; ?_, fun x hx => ?_⟩) rx⟩
  · exact ⟨vs, same_t (g2.trans k2.1) hs, by rw [ra.len]; exact hi⟩
  · obtain ⟨v, hv, rv⟩ := ra.at hx
    have hl : SqT K H2 a vs := same_t (g2.trans k2.1) hs
    refine ⟨⟨vs, v, hl, hv⟩, fun u H3 ⟨e3, f⟩ => ?_⟩
    subst e3
    have eu := f vs hl
    rw [hv] at eu
    cases eu
    exact ⟨G2, Same.refl _, k2, rv.mono g2⟩
/-- lo, lo + 1, .. -/
def upTo (lo : Int) (n : Nat) : List Dt := (List.range n).map fun (i : Nat) => PyData.int (lo + (i : Int))
theorem up_len (lo : Int) (n : Nat) : (upTo lo n).length = n := by unfold upTo; rw [List.length_map, List.length_range]
theorem up_get {lo : Int} {n i : Nat} {x : Dt} (h : (upTo lo n)[i]? = some x) : i < n ∧ x = .int (lo + (i : Int)) := by
  unfold upTo at h
  rw [List.getElem?_map] at h
  rcases Nat.lt_or_ge i n with z | z
  · rw [List.getElem?_range z] at h
    exact ⟨z, (Option.some.inj h).symm⟩
  · rw [List.getElem?_eq_none (by rw [List.length_range]; exact z)] at h
    cases h
theorem gives_rng {G : Hp} {lo : Int} {n : Nat} : Gives K G (Itr lo n) (upTo lo n) := fun ω2 G2 H2 i g2 k2 => ⟨fun hi0 => have hi := Nat.le_of_eq hi0; by rw [up_len] at hi; exact hi, fun x hx => by
  obtain ⟨h1, h2⟩ := up_get hx
  subst h2
  refine ⟨h1, fun v H3 ⟨e1, e2⟩ => ?_⟩
  subst e1 e2
  exact ⟨G2, Same.refl _, k2, .int _⟩⟩
theorem rp_int1 {ω : Wd} {G : Hp} {vs : List V} {i : Int} (h : RelA K ω G vs [.dat (.int i)]) : vs = [.int i] := by
  cases h with
  | cons a b =>
    cases b
    obtain ⟨v, e, r⟩ := a
    cases e
    rw [r.int_inv]
theorem rp_int2 {ω : Wd} {G : Hp} {vs : List V} {i j : Int} (h : RelA K ω G vs [.dat (.int i), .dat (.int j)]) : vs = [.int i, .int j] := by
  cases h with
  | cons a b =>
    obtain ⟨v, e, r⟩ := a
    cases e
    rw [r.int_inv, rp_int1 b]
theorem wi_rng1 {ar : TA} {Rx : List Dt → Prop} (h : WA K ar δ fun es => ∃ n : Int, es = [.dat (.int n)] ∧ -(2 ^ 62) ≤ n ∧ n < 2 ^ 62 ∧ Rx (upTo 0 n.toNat)) : WI K (iRng1 ar) δ Rx := fun ω σ G H Q e k q => h ω σ G H _ e k fun vs es G1 H1 g1 k1 r ⟨n, e1, h1, h2, rx⟩ => by
  subst e1
  exact ⟨n, rp_int1 r, h1, h2, q _ _ G1 H1 g1 k1 gives_rng rx⟩
theorem wi_rng2 {ar : TA} {Rx : List Dt → Prop} (h : WA K ar δ fun es => ∃ m n : Int, es = [.dat (.int m), .dat (.int n)] ∧ (-(2 ^ 62) ≤ m ∧ m < 2 ^ 62 ∧ -(2 ^ 62) ≤ n ∧ n < 2 ^ 62) ∧ Rx (upTo m (n - m).toNat)) : WI K (iRng2 ar) δ Rx := fun ω σ G H Q e k q => h ω σ G H _ e k fun vs es G1 H1 g1 k1 r ⟨m, n, e1, h1, rx⟩ => by
  subst e1
  exact ⟨m, n, rp_int2 r, h1, q _ _ G1 H1 g1 k1 gives_rng rx⟩
/-- pairs of two lists, as far as both go -/
def pairs : List Dt → List Dt → List Dt
  | x :: xs, y :: ys => .tuple [x, y] :: pairs xs ys
  | _, _ => []
theorem pairs_get : ∀ {xs ys : List Dt} {i : Nat} {z : Dt}, (pairs xs ys)[i]? = some z → ∃ x y, xs[i]? = some x ∧ ys[i]? = some y ∧ z = .tuple [x, y]
  | [], _, _, _, h => by simp [pairs] at h
  | _ :: _, [], _, _, h => by simp [pairs] at h
  | x :: xs, y :: ys, 0, z, h => ⟨x, y, rfl, rfl, (Option.some.inj h).symm⟩
  | x :: xs, y :: ys, i + 1, z, h => pairs_get (xs := xs) (ys := ys) (i := i) h
theorem pairs_end : ∀ {xs ys : List Dt} {i : Nat}, (pairs xs ys).length ≤ i → xs.length ≤ i ∨ ys.length ≤ i
  | [], _, _, _ => .inl (Nat.zero_le _)
  | _ :: _, [], _, _ => .inr (Nat.zero_le _)
  | x :: xs, y :: ys, 0, h => absurd h (Nat.not_succ_le_zero _)
  | x :: xs, y :: ys, i + 1, h => by
    have h' : (pairs xs ys).length ≤ i := Nat.le_of_succ_le_succ h
    rcases pairs_end h' with z | z
    · exact .inl (Nat.succ_le_succ z)
    · exact .inr (Nat.succ_le_succ z)
theorem wi_zipT {ar : TA} {Rx : List Dt → Prop} (h : WA K ar δ fun es => ∃ xs ys, es = [.dat (.tuple xs), .dat (.tuple ys)] ∧ Rx (pairs xs ys)) : WI K (RZ.iZipA K ar) δ Rx := fun ω σ G H Q e k q => h ω σ G H _ e k fun vs es G1 H1 g1 k1 r ⟨xs, ys, e1, rx⟩ => by
  subst e1
  cases r with
  | cons a b =>
    cases b with
    | cons b c =>
      cases c
      obtain ⟨v, e1, r1⟩ := a
      obtain ⟨u, e2, r2⟩ := b
      cases e1
      cases e2
      obtain ⟨a, vs, rfl, hs, ra⟩ := r1.tuple_inv
      obtain ⟨b, us, rfl, hs2, rb⟩ := r2.tuple_inv
      refine ⟨a, b, vs, us, rfl, .inr ⟨same_t k1.1 hs, same_t k1.1 hs2, q _ _ G1 H1 g1 k1 (fun ω2 G2 H2 i g2 k2 => ?_) rx⟩⟩
      have hl : SqT K H2 a vs := same_t (g2.trans k2.1) hs
      have hl2 : SqT K H2 b us := same_t (g2.trans k2.1) hs2
      refine ⟨fun hi0 => have hi := Nat.le_of_eq hi0; ⟨vs, us, hl, hl2, ?_⟩, fun z hz => ?_⟩
      · rw [ra.len, rb.len]
        exact pairs_end hi
      · obtain ⟨x, y, hx, hy, e3⟩ := pairs_get hz
        subst e3
        obtain ⟨v, hv, rv⟩ := ra.at hx
        obtain ⟨u, hu, ru⟩ := rb.at hy
        refine ⟨⟨vs, us, v, u, hl, hl2, hv, hu⟩, fun w H3 ⟨T, x', y', e4, hT, e5, f1, f2⟩ => ?_⟩
        have ex := f1 _ hl
        have ey := f2 _ hl2
        rw [hv] at ex
        rw [hu] at ey
        cases ex
        cases ey
        subst e4 e5
        have hg := k2.1.free hT
        exact ⟨upd G2 T (.tup [v, u]), same_new hg, k2.new hT, .tup (.inl (.inl upd_same)) (.cons ((rv.mono g2).mono (same_new hg)) (.cons ((ru.mono g2).mono (same_new hg)) .nil))⟩
theorem wi_zipL {ar : TA} {Rx : List Dt → Prop} (h : WA K ar δ fun es => ∃ xs ys, es = [.dat (.list xs), .dat (.list ys)] ∧ Rx (pairs xs ys)) : WI K (RZ.iZipA K ar) δ Rx := fun ω σ G H Q e k q => h ω σ G H _ e k fun vs es G1 H1 g1 k1 r ⟨xs, ys, e1, rx⟩ => by
  subst e1
  cases r with
  | cons a b =>
    cases b with
    | cons b c =>
      cases c
      obtain ⟨v, e1, r1⟩ := a
      obtain ⟨u, e2, r2⟩ := b
      cases e1
      cases e2
      obtain ⟨a, vs, rfl, hs, ra⟩ := r1.list_inv
      obtain ⟨b, us, rfl, hs2, rb⟩ := r2.list_inv
      refine ⟨a, b, vs, us, rfl, .inl ⟨.inl (.inl (k1.1 _ _ hs)), .inl (.inl (k1.1 _ _ hs2)), q _ _ G1 H1 g1 k1 (fun ω2 G2 H2 i g2 k2 => ?_) rx⟩⟩
      have hl : SqL K H2 a vs := .inl (.inl (k2.1 _ _ (g2 _ _ hs)))
      have hl2 : SqL K H2 b us := .inl (.inl (k2.1 _ _ (g2 _ _ hs2)))
      refine ⟨fun hi0 => have hi := Nat.le_of_eq hi0; ⟨vs, us, hl, hl2, ?_⟩, fun z hz => ?_⟩
      · rw [ra.len, rb.len]
        exact pairs_end hi
      · obtain ⟨x, y, hx, hy, e3⟩ := pairs_get hz
        subst e3
        obtain ⟨v, hv, rv⟩ := ra.at hx
        obtain ⟨u, hu, ru⟩ := rb.at hy
        refine ⟨⟨vs, us, v, u, hl, hl2, hv, hu⟩, fun w H3 ⟨T, x', y', e4, hT, e5, f1, f2⟩ => ?_⟩
        have ex := f1 _ hl
        have ey := f2 _ hl2
        rw [hv] at ex
        rw [hu] at ey
        cases ex
        cases ey
        subst e4 e5
        have hg := k2.1.free hT
        exact ⟨upd G2 T (.tup [v, u]), same_new hg, k2.new hT, .tup (.inl (.inl upd_same)) (.cons ((rv.mono g2).mono (same_new hg)) (.cons ((ru.mono g2).mono (same_new hg)) .nil))⟩

/-! ### loops -/
/-- a for loop: P by the turn -/
theorem ws_for {wi : TI} {g : TG} (h : WI K wi δ fun xs => ∃ P : Nat → Nm → Prop, P 0 δ ∧ (∀ i x δ', xs[i]? = some x → P i δ' → WGt K g x δ' fun δ2 => WS K tu δ2 (P (i + 1)) rt nx (P (i + 1))) ∧ ∀ δ', P xs.length δ' → nx δ') :
    WS K (tFor wi g tu) δ nx rt bk ct := fun ω σ G H D s n r b c => by
  refine run_wg (Rel := fun G J xs => Gives K G J xs) h s fun J xs G1 H1 g1 s1 gv ⟨P, p0, turn, done⟩ => ?_
  refine ⟨fun i m σ' H' => m = xs.length - i ∧ i ≤ xs.length ∧ ∃ δ' G', Same G1 G' ∧ Std K ω G' H' δ' σ' ∧ P i δ', ⟨_, rfl, Nat.zero_le _, δ, G1, Same.refl G1, s1, p0⟩, ?_⟩
  rintro i m σ' H' ⟨rfl, hi, δ', G', g', s', p⟩
  by_cases hlt : i < xs.length
  · have hx : xs[i]? = some xs[i] := List.getElem?_eq_getElem hlt
    obtain ⟨go, yl⟩ := gv.std g' s' hx
    refine .inr ⟨go, fun σ2 H2 => ∃ δ2 G2, Same G1 G2 ∧ Std K ω G2 H2 δ2 σ2 ∧ P (i + 1) δ2, fun σ2 H2 ⟨δ2, G2, g2, s2, p2⟩ => ⟨xs.length - (i + 1), by omega, rfl, hlt, δ2, G2, g2, s2, p2⟩, fun v H3 y => ?_⟩
    obtain ⟨G3, g3, s3, rv⟩ := yl v H3 y
    refine turn i _ δ' hx p ω σ' G3 H3 v _ s3 rv fun σ2 δ2 s2 h2 => h2 ω σ2 G3 H3 _ s2 ?_ ?_ ?_ ?_
    · exact fun σ4 δ4 G4 H4 g4 s4 p4 => ⟨δ4, G4, (g'.trans g3).trans g4, s4, p4⟩
    · exact fun v d G4 H4 g4 k4 r4 q4 => r v d G4 H4 (((g1.trans g').trans g3).trans g4) k4 r4 q4
    · exact fun σ4 δ4 G4 H4 g4 s4 p4 => n σ4 δ4 G4 H4 (((g1.trans g').trans g3).trans g4) s4 p4
    · exact fun σ4 δ4 G4 H4 g4 s4 p4 => ⟨δ4, G4, (g'.trans g3).trans g4, s4, p4⟩
  · have e : i = xs.length := by omega
    subst e
    exact .inl ⟨(gv ω G' H' _ g' s'.ok).1 rfl, n σ' δ' G' H' (g1.trans g') s' (done δ' p)⟩
/-- while, by a word that falls -/
theorem ws_while (P : Nat → Nm → Prop) (m0 : Nat) (h0 : P m0 δ)
    (hs : ∀ m δ', P m δ' → WT K tt (δ'.map seen) fun b => if b = true then WS K tu δ' (fun δ2 => ∃ m', m' < m ∧ P m' δ2) rt nx (fun δ2 => ∃ m', m' < m ∧ P m' δ2) else nx δ') : WS K (tWhile tt tu) δ nx rt bk ct := fun ω σ G H D s n r b c => by
  refine ⟨fun m σ' H' => ∃ δ' G', Same G G' ∧ Std K ω G' H' δ' σ' ∧ P m δ', ⟨m0, δ, G, Same.refl G, s, h0⟩, fun m σ' H' ⟨δ', G', g', s', p⟩ => ?_⟩
  refine run_seen (Rel := fun a b => a = b) (hs m δ' p) s' fun x y H2 s2 e q => ?_
  subst e
  cases x with
  | true =>
    rw [if_pos rfl] at q ⊢
    refine ⟨fun σ3 H3 => ∃ m', m' < m ∧ ∃ δ3 G3, Same G G3 ∧ Std K ω G3 H3 δ3 σ3 ∧ P m' δ3, fun σ3 H3 h3 => h3, q ω σ' G' H2 _ s2 ?_ ?_ ?_ ?_⟩
    · exact fun σ4 δ4 G4 H4 g4 s4 ⟨m', hm, p4⟩ => ⟨m', hm, δ4, G4, g'.trans g4, s4, p4⟩
    · exact fun v d G4 H4 g4 k4 r4 q4 => r v d G4 H4 (g'.trans g4) k4 r4 q4
    · exact fun σ4 δ4 G4 H4 g4 s4 p4 => n σ4 δ4 G4 H4 (g'.trans g4) s4 p4
    · exact fun σ4 δ4 G4 H4 g4 s4 ⟨m', hm, p4⟩ => ⟨m', hm, δ4, G4, g'.trans g4, s4, p4⟩
  | false =>
    rw [if_neg Bool.false_ne_true] at q ⊢
    exact n σ' δ' G' H2 g' s2 q

/-! ### list comprehensions -/
/-- a target that stores into these slots alone -/
def GIn (g : TG) (vs : List Nat) : Prop := ∀ (v : V) (σ : L2.St) (H : Hp) (Q : L2.St → Hp → Prop), g v σ H Q → g v σ H fun σ' H' => wipe σ' vs = wipe σ vs ∧ Q σ' H'
def GsIn (g : TGs) (vs : List Nat) : Prop := ∀ (us : List V) (σ : L2.St) (H : Hp) (Q : L2.St → Hp → Prop), g us σ H Q → g us σ H fun σ' H' => wipe σ' vs = wipe σ vs ∧ Q σ' H'
theorem wipe_get (σ : L2.St) (j : Nat) : ∀ vs : List Nat, (wipe σ vs)[j]? = if j ∈ vs then (σ[j]?).map fun _ => none else σ[j]?
  | [] => by simp [wipe]
  | v :: vs => by
    have hl : ((wipe σ vs)).length = σ.length := wipe_length σ vs
    show ((wipe σ vs).set v none)[j]? = _
    by_cases hv : v = j
    · subst hv
      by_cases hj : v < σ.length
      · rw [List.getElem?_set_self (by rw [hl]; exact hj), if_pos List.mem_cons_self, List.getElem?_eq_getElem hj]
        rfl
      · rw [List.getElem?_eq_none (by rw [List.length_set, hl]; omega), if_pos List.mem_cons_self, List.getElem?_eq_none (by omega)]
        rfl
    · rw [List.getElem?_set_ne hv, wipe_get σ j vs]
      by_cases hm : j ∈ vs
      · rw [if_pos hm, if_pos (List.mem_cons_of_mem _ hm)]
      · rw [if_neg hm, if_neg fun z => (List.mem_cons.mp z).elim (fun z => hv z.symm) hm]
theorem gin_name {j : Nat} {vs : List Nat} (h : j ∈ vs) : GIn (gName j) vs := fun v σ H Q q => ⟨by
  apply List.ext_getElem?
  intro l
  rw [wipe_get, wipe_get]
  by_cases hj : j = l
  · subst hj
    rw [if_pos h, if_pos h]
    by_cases hl : j < σ.length
    · rw [List.getElem?_set_self hl, List.getElem?_eq_getElem hl]
      rfl
    · rw [List.getElem?_eq_none (by rw [List.length_set]; omega), List.getElem?_eq_none (by omega)]
  · rw [List.getElem?_set_ne hj], q⟩
theorem gsin_nil {vs : List Nat} : GsIn gNil vs := fun us σ H Q ⟨e, q⟩ => ⟨e, rfl, q⟩
def GsMono (g : TGs) : Prop := ∀ (us : List V) (σ : L2.St) (H : Hp) (Q Q' : L2.St → Hp → Prop), g us σ H Q → (∀ σ' H', Q σ' H' → Q' σ' H') → g us σ H Q'
theorem gm_name {j : Nat} : GMono (gName j) := fun v σ H Q Q' q m => m _ _ q
theorem gsm_nil : GsMono gNil := fun us σ H Q Q' ⟨e, q⟩ m => ⟨e, m _ _ q⟩
theorem gsm_cons {g : TG} {gs : TGs} (h1 : GMono g) (h2 : GsMono gs) : GsMono (gCons g gs) := fun us σ H Q Q' ⟨v, r, e, q⟩ m => ⟨v, r, e, h1 v σ H _ _ q fun σ' H' q' => h2 r σ' H' _ _ q' m⟩
theorem gm_tup {gs : TGs} {n : Nat} (h : GsMono gs) : GMono (gTup K n gs) := fun v σ H Q Q' ⟨a, xs, e, hs, hl, q⟩ m => ⟨a, xs, e, hs, hl, h xs σ H _ _ q m⟩
theorem gsin_cons {g : TG} {gs : TGs} {vs : List Nat} (h1 : GIn g vs) (m1 : GMono g) (h2 : GsIn gs vs) (m2 : GsMono gs) : GsIn (gCons g gs) vs := fun us σ H Q ⟨v, r, e, q⟩ =>
  ⟨v, r, e, m1 v σ H _ _ (h1 v σ H _ q) fun σ' H' ⟨w, q'⟩ => m2 r σ' H' _ _ (h2 r σ' H' Q q') fun σ2 H2 ⟨w2, q2⟩ => ⟨w2.trans w, q2⟩⟩
theorem gin_tup {gs : TGs} {n : Nat} {vs : List Nat} (h : GsIn gs vs) : GIn (gTup K n gs) vs := fun v σ H Q ⟨a, xs, e, hs, hl, q⟩ => ⟨a, xs, e, hs, hl, h xs σ H Q q⟩
/-- own lists hidden -/
def blind : E → E
  | .own _ => .unk
  | e => e
theorem env_blind {ω : Wd} {G : Hp} {σ : L2.St} (h : EnvE K ω G δ σ) : EnvE K ω G (δ.map blind) σ := fun i e hi => by
  rw [List.getElem?_map] at hi
  cases hd : δ[i]? with
  | none => rw [hd] at hi; cases hi
  | some c =>
    rw [hd] at hi
    obtain rfl : blind c = e := Option.some.inj hi
    obtain ⟨s, h1, h2⟩ := h i c hd
    refine ⟨s, h1, ?_⟩
    cases c <;> first | exact trivial | exact h2
theorem blind_own {i : Nat} {ds : Dt} {vs : List Nat} (h : (wipeE (δ.map blind) vs)[i]? = some (.own ds)) : False := by
  induction vs with
  | nil =>
    have h' : (δ.map blind)[i]? = some (.own ds) := h
    rw [List.getElem?_map] at h'
    cases hd : δ[i]? with
    | none => rw [hd] at h'; cases h'
    | some c => rw [hd] at h'; cases c <;> cases h'
  | cons v vs ih =>
    have h' : ((wipeE (δ.map blind) vs).set v .unk)[i]? = some (.own ds) := h
    by_cases hv : v = i
    · subst hv
      by_cases hl : v < (wipeE (δ.map blind) vs).length
      · rw [List.getElem?_set_self hl] at h'
        cases h'
      · rw [List.getElem?_eq_none (by rw [List.length_set]; omega)] at h'
        cases h'
    · rw [List.getElem?_set_ne hv] at h'
      exact ih h'
/-- [e for .. in .. if ..]: P by the turn and what is made so far -/
theorem w_lc {wi : TI} {g : TG} {vs : List Nat} {R : Dt → Prop} (gin : GIn g vs) (gm : GMono g)
    (h : WI K wi δ fun xs => xs.length ≤ 1000000 ∧ ∃ P : Nat → List Dt → Prop, P 0 [] ∧
      (∀ i x acc, xs[i]? = some x → P i acc → WGt K g x (wipeE (δ.map blind) vs) fun δ2 => WT K tt δ2 fun b => if b = true then W K te δ2 (fun y => P (i + 1) (acc ++ [y])) else P (i + 1) acc) ∧ ∀ acc, P xs.length acc → R (.list acc)) :
    W K (tLc wi g tt te vs) δ R := fun ω σ G H Q e k q => h ω σ G H _ e k fun J xs G1 H1 g1 k1 gv ⟨hz, P, p0, turn, done⟩ D hD => by
  have hg := k1.1.free hD
  have ap := k1.apart hD
  refine ⟨fun i m H' => m = xs.length - i ∧ i ≤ xs.length ∧ ∃ G' acc av, Same G1 G' ∧ Ok ω G' H' ∧ G' D = none ∧ H' D = some (.lst av) ∧ RpAll K G' av acc ∧ acc.length ≤ i ∧ P i acc,
    ⟨_, rfl, Nat.zero_le _, G1, [], [], Same.refl _, k1.put hg ap, hg, upd_same, .nil, Nat.le_refl _, p0⟩, ?_⟩
  rintro i m H' ⟨rfl, hi, G', acc, av, g', k', d1, d2, ra, hl, p⟩
  by_cases hlt : i < xs.length
  · have hx : xs[i]? = some xs[i] := List.getElem?_eq_getElem hlt
    have kD : Ok ((D, fun o => o = .lst av) :: ω) G' H' := k'.push d1 d2 rfl ap
    obtain ⟨go, yl⟩ := (gv _ G' H' i g' kD).2 _ hx
    refine .inr ⟨go, fun H2 => ∃ G2 acc av, Same G1 G2 ∧ Ok ω G2 H2 ∧ G2 D = none ∧ H2 D = some (.lst av) ∧ RpAll K G2 av acc ∧ acc.length ≤ i + 1 ∧ P (i + 1) acc, fun H2 ⟨G2, acc2, av2, z⟩ => ⟨xs.length - (i + 1), by omega, rfl, hlt, G2, acc2, av2, z⟩, fun v H3 y => ?_⟩
    obtain ⟨G3, g3, k3, rv⟩ := yl v H3 y
    have e3 : EnvE K ((D, fun o => o = .lst av) :: ω) G3 (wipeE (δ.map blind) vs) (wipe σ vs) := (((env_blind (e.mono ((g1.trans g').trans g3))).wipe vs).more fun q hq => List.mem_cons_of_mem _ hq)
    have s3 : Std K ((D, fun o => o = .lst av) :: ω) G3 H3 (wipeE (δ.map blind) vs) (wipe σ vs) := ⟨e3, k3, fun j ds hj => (blind_own hj).elim, fun j l ds es hj _ => (blind_own hj).elim⟩
    have ww : wipe (wipe σ vs) vs = wipe σ vs := by
      apply List.ext_getElem?
      intro l
      rw [wipe_get, wipe_get]
      by_cases hm : l ∈ vs
      · rw [if_pos hm, if_pos hm]
        cases σ[l]? <;> rfl
      · rw [if_neg hm, if_neg hm]
    refine gm v _ H3 _ _ (gin v _ H3 _ (turn i _ acc hx p _ (wipe σ vs) G3 H3 v (fun σ2 H2 => H2 = H3 ∧ ∃ δ2, Std K ((D, fun o => o = .lst av) :: ω) G3 H3 δ2 σ2 ∧ WT K tt δ2 fun b => if b = true then W K te δ2 (fun y => P (i + 1) (acc ++ [y])) else P (i + 1) acc) s3 rv fun σ2 δ2 s2 h2 => ⟨rfl, δ2, s2, h2⟩)) fun σ2 H2 ⟨w2, e2, δ2, s2, h2⟩ => ⟨w2.trans ww, ?_⟩
    subst e2
    refine h2 _ σ2 G3 H2 _ s2.env s2.ok fun b b' G4 H4 g4 k4 eb h4 => ?_
    subst eb
    cases b with
    | true =>
      rw [if_pos rfl] at h4 ⊢
      refine h4 _ σ2 G4 H4 _ (s2.env.mono g4) k4 fun y d G5 H5 g5 k5 r5 p5 => ?_
      obtain ⟨k6, f1, ⟨o, f2, f3⟩, f4⟩ := k5.pop
      have f3' : o = .lst av := f3
      subst f3'
      refine ⟨av, f2, by rw [ra.len, sizeLine_eq]; omega, G5, acc ++ [d], av ++ [y], (((g'.trans g3).trans g4).trans g5), k6.put f1 f4, f1, upd_same, (ra.mono ((g3.trans g4).trans g5)).append (.cons r5 .nil), by rw [List.length_append]; show acc.length + 1 ≤ _; omega, p5⟩
    | false =>
      rw [if_neg Bool.false_ne_true] at h4 ⊢
      obtain ⟨k6, f1, ⟨o, f2, f3⟩, f4⟩ := k4.pop
      have f3' : o = .lst av := f3
      subst f3'
      exact ⟨G4, acc, av, ((g'.trans g3).trans g4), k6, f1, f2, ra.mono (g3.trans g4), by omega, h4⟩
  · have e1 : i = xs.length := by omega
    subst e1
    refine .inl ⟨(gv ω G' H' _ g' k').1 rfl, ?_⟩
    have kn : Ok ω (upd G' D (.lst av)) H' := ⟨fun b o e => by
      by_cases hb : b = D
      · subst hb
        rw [upd_same] at e
        cases e
        exact d2
      · rw [upd_ne hb] at e
        exact k'.1 b o e, ⟨k'.2.1.1, k'.2.1.2.know d2 trivial⟩, fun q hq => ⟨by rw [upd_ne (ap q hq)]; exact (k'.2.2 q hq).1, (k'.2.2 q hq).2⟩⟩
    exact q (.ref D) _ (upd G' D (.lst av)) H' ((g1.trans g').trans (same_new d1)) kn (.lst upd_same (ra.mono (same_new d1))) (done acc p)
theorem wt_yes {Rb : Bool → Prop} (h : Rb true) : WT K tYes δ Rb := fun ω σ G H Q e k q => q true true G H (Same.refl G) k rfl h
end
end DW
namespace DW
open PySem PySem.Spec PyProof.Rows L2
variable [Tabl]

/-! ### data without dicts, for == and repr -/
mutual
theorem Rp.dp {K : PySem.W.Frag} {G : Hp} : ∀ {d : Dt} {v : V}, d.canLay0 = true → Rp K G v d → Dp K G v d
  | .none, _, _, h => by cases h; exact .non
  | .bool b, _, _, h => by cases h; exact .bl b
  | .int i, _, _, h => by cases h; exact .int i
  | .str x, _, _, h => by cases h; exact .str x
  | .list ds, _, c, h => by
    cases h with
    | lst q r => exact .lst (.inl (.inl q)) (RpAll.dp (by simpa [PyData.canLay0] using c) r)
  | .tuple ds, _, c, h => by
    cases h with
    | tup q r => exact .tup q (RpAll.dp (by simpa [PyData.canLay0] using c) r)
  | .dict ds, _, c, _ => by simp [PyData.canLay0] at c
theorem RpAll.dp {K : PySem.W.Frag} {G : Hp} : ∀ {ds : List Dt} {vs : List V}, PyData.canLayAll0 ds = true → RpAll K G vs ds → DpAll K G vs ds
  | [], _, _, h => by cases h; exact .nil
  | d :: ds, _, c, h => by
    have c' : d.canLay0 = true ∧ PyData.canLayAll0 ds = true := by simpa [PyData.canLayAll0] using c
    cases h with
    | cons q r => exact .cons (Rp.dp c'.1 q) (RpAll.dp c'.2 r)
end
section
variable {K : PySem.W.Frag} {δ : Nm} {te ta tb tc : TE} {ar : TA} {R : Dt → Prop} {Rb : Bool → Prop}
theorem shaped_lay {d : Dt} (h : SeqAt.shaped d = true) : d.canLay0 = true := by
  unfold SeqAt.shaped at h
  exact (Bool.and_eq_true _ _ ▸ h).1
theorem o_eq {x y : Dt} (sx : SeqAt.shaped x = true) (sy : SeqAt.shaped y = true) (r : R (.bool (PyData.eqv x y))) : OpD K (rEqD K) x y R := fun ω G H v u Q k h1 h2 q =>
  ⟨x, y, (h1.mono k.1).dp (shaped_lay sx), (h2.mono k.1).dp (shaped_lay sy), sx, sy, q _ _ G H (Same.refl G) k (.bl _) r⟩
theorem o_ne {x y : Dt} (sx : SeqAt.shaped x = true) (sy : SeqAt.shaped y = true) (r : R (.bool (!PyData.eqv x y))) : OpD K (rNeD K) x y R := fun ω G H v u Q k h1 h2 q =>
  ⟨x, y, (h1.mono k.1).dp (shaped_lay sx), (h2.mono k.1).dp (shaped_lay sy), sx, sy, q _ _ G H (Same.refl G) k (.bl _) r⟩
def isNone : Dt → Bool
  | .none => true
  | _ => false
theorem rp_isNone {G : Hp} {v : V} {d : Dt} (h : Rp K G v d) : decide (v = .non) = isNone d := by
  cases h <;> rfl
theorem o_isN {x : Dt} (r : R (.bool (isNone x))) : OpD K rIsN x .none R := fun ω G H v u Q k h1 h2 q => ⟨h2.none_inv, q _ _ G H (Same.refl G) k (by rw [rp_isNone h1]; exact .bl _) r⟩
theorem o_notN {x : Dt} (r : R (.bool (!isNone x))) : OpD K rNotN x .none R := fun ω G H v u Q k h1 h2 q => ⟨h2.none_inv, q _ _ G H (Same.refl G) k (by rw [rp_isNone h1]; exact .bl _) r⟩
theorem inV_ints (i : Int) (ns : List Int) : inV (.int i) (ns.map V.int) = decide (i ∈ ns) := by
  unfold inV
  induction ns with
  | nil => rfl
  | cons n ns ih =>
    rw [List.map_cons, List.any_cons, ih]
    have e : eqV (V.int n) (V.int i) = decide (n = i) := by
      have e0 : eqV (V.int n) (V.int i) = (n == i) := rfl
      rw [e0, Bool.beq_eq_decide_eq]
    rw [e]
    by_cases h : n = i
    · simp [h]
    · have h' : ¬ i = n := fun z => h z.symm
      simp [h, h']
theorem flat_ints (ns : List Int) : (ns.map V.int).all flatV = true := by
  rw [List.all_eq_true]
  intro x hx
  obtain ⟨n, _, rfl⟩ := List.mem_map.mp hx
  rfl
theorem o_inT {i : Int} {ns : List Int} (r : R (.bool (decide (i ∈ ns)))) : OpD K (rIn K false) (.int i) (.tuple (ns.map .int)) R := fun ω G H v u Q k h1 h2 q => by
  obtain ⟨a, xs, rfl, hs, ra⟩ := h2.tuple_inv
  obtain rfl := ra.ints
  obtain rfl := h1.int_inv
  exact ⟨a, _, rfl, .inr (same_t k.1 hs), rfl, flat_ints ns, q _ _ G H (Same.refl G) k (by rw [if_neg Bool.false_ne_true, inV_ints]; exact .bl _) r⟩
theorem o_inL {i : Int} {ns : List Int} (r : R (.bool (decide (i ∈ ns)))) : OpD K (rIn K false) (.int i) (.list (ns.map .int)) R := fun ω G H v u Q k h1 h2 q => by
  obtain ⟨a, xs, rfl, hs, ra⟩ := h2.list_inv
  obtain rfl := ra.ints
  obtain rfl := h1.int_inv
  exact ⟨a, _, rfl, .inl (.inl (.inl (k.1 _ _ hs))), rfl, flat_ints ns, q _ _ G H (Same.refl G) k (by rw [if_neg Bool.false_ne_true, inV_ints]; exact .bl _) r⟩
theorem o_niL {i : Int} {ns : List Int} (r : R (.bool (!decide (i ∈ ns)))) : OpD K (rIn K true) (.int i) (.list (ns.map .int)) R := fun ω G H v u Q k h1 h2 q => by
  obtain ⟨a, xs, rfl, hs, ra⟩ := h2.list_inv
  obtain rfl := ra.ints
  obtain rfl := h1.int_inv
  exact ⟨a, _, rfl, .inl (.inl (.inl (k.1 _ _ hs))), rfl, flat_ints ns, q _ _ G H (Same.refl G) k (by rw [if_pos rfl, inV_ints]; exact .bl _) r⟩

/-! ### calls of built-ins, by data -/
def CbD (K : PySem.W.Frag) (r : List V → Hp → VK → Prop) (es : List E) (R : Dt → Prop) : Prop :=
  ∀ (ω : Wd) (G H : Hp) (vs : List V) (Q : VK), Ok ω G H → RelA K ω G vs es → (∀ w d G' H', Same G G' → Ok ω G' H' → Rp K G' w d → R d → Q w H') → r vs H Q
theorem w_cb {r : List V → Hp → VK → Prop} (h : WA K ar δ fun es => CbD K r es R) : W K (tCB r ar) δ R := fun ω σ G H Q e k q =>
  h ω σ G H _ e k fun vs es G1 H1 g1 k1 r1 h1 => h1 ω G1 H1 vs Q k1 r1 fun w d G2 H2 g2 k2 r2 h2 => q w d G2 H2 (g1.trans g2) k2 r2 h2
theorem rel1 {ω : Wd} {G : Hp} {vs : List V} {d : Dt} (h : RelA K ω G vs [.dat d]) : ∃ v, vs = [v] ∧ Rp K G v d := by
  cases h with
  | cons a b =>
    cases b
    obtain ⟨v, e, r⟩ := a
    cases e
    exact ⟨_, rfl, r⟩
theorem rel2 {ω : Wd} {G : Hp} {vs : List V} {d c : Dt} (h : RelA K ω G vs [.dat d, .dat c]) : ∃ v u, vs = [v, u] ∧ Rp K G v d ∧ Rp K G u c := by
  cases h with
  | cons a b =>
    obtain ⟨v, e, r⟩ := a
    cases e
    obtain ⟨u, rfl, r2⟩ := rel1 b
    exact ⟨_, _, rfl, r, r2⟩
/-- len of a list, of a tuple -/
def rLen (K : PySem.W.Frag) : List V → Hp → VK → Prop := fun xs H Q => ∃ p ys, xs = [.ref p] ∧ (SqL K H p ys ∨ SqT K H p ys) ∧ Q (.int ys.length) H
theorem call_len1 {X : Cx} : CallR X (.builtin "len") (rLen X.K) := call_len_seq
theorem b_lenL {ds : List Dt} (r : R (.int (ds.length : Int))) : CbD K (rLen K) [.dat (.list ds)] R := fun ω G H vs Q k h q => by
  obtain ⟨v, rfl, rv⟩ := rel1 h
  obtain ⟨a, xs, rfl, hs, ra⟩ := rv.list_inv
  exact ⟨a, xs, rfl, .inl (.inl (.inl (k.1 _ _ hs))), q _ _ G H (Same.refl G) k (by rw [ra.len]; exact .int _) r⟩
theorem b_lenT {ds : List Dt} (r : R (.int (ds.length : Int))) : CbD K (rLen K) [.dat (.tuple ds)] R := fun ω G H vs Q k h q => by
  obtain ⟨v, rfl, rv⟩ := rel1 h
  obtain ⟨a, xs, rfl, hs, ra⟩ := rv.tuple_inv
  exact ⟨a, xs, rfl, .inr (same_t k.1 hs), q _ _ G H (Same.refl G) k (by rw [ra.len]; exact .int _) r⟩
theorem w_lenScr {ns : List Int} {i : Nat} (hi : δ[i]? = some (.scr ns)) (r : R (.int (ns.length : Int))) : W K (tCB (rLen K) (tCons (tVar i) tNil)) δ R := fun ω σ G H Q e k q => by
  obtain ⟨s, h1, p, h2, h3⟩ := e i _ hi
  subst h2
  exact ⟨.ref p, h1, p, _, rfl, .inl (k.1.seq h3), q _ _ G H (Same.refl G) k (by rw [List.length_map]; exact .int _) r⟩
/-- isinstance(x, T) -/
def isTy : Dt → String → Bool
  | .bool _, "bool" => true
  | .bool _, "int" => true
  | .int _, "int" => true
  | .str _, "str" => true
  | .tuple _, "tuple" => true
  | .list _, "list" => true
  | .dict _, "dict" => true
  | _, _ => false
def tyD : Dt → Value
  | .none => .type "NoneType"
  | .bool _ => .type "bool"
  | .int _ => .type "int"
  | .str _ => .type "str"
  | .list _ => .type "list"
  | .tuple _ => .type "tuple"
  | .dict _ => .type "dict"
theorem rp_ty {G : Hp} {v : V} {d : Dt} (h : Rp K G v d) : TyX K G v (tyD d) := by
  cases h with
  | non => exact .base .non
  | bl b => exact .base (.bl b)
  | int i => exact .base (.int i)
  | str x => exact .base (.str x)
  | lst h r => exact .base (.lst h)
  | tup h r =>
    rcases h with (h | ⟨o, h⟩) | ⟨o, its, n, h1, h2, _⟩
    · exact .base (.tup h)
    · exact .fTuple h
    · exact .kTuple h1 h2
  | dct h r => exact .base (.dK h)
theorem w_isi {T : String} (hT : T = "int" ∨ T = "bool" ∨ T = "tuple" ∨ T = "list") (h : W K te δ fun d => R (.bool (isTy d T))) : W K (tCB (rIsi K) (tCons te (tCons (tC (.ty T)) tNil))) δ R := fun ω σ G H Q e k q =>
  h ω σ G H _ e k fun v d G1 H1 g1 k1 r1 h1 => by
    refine ⟨v, .ty T, tyD d, .type T, isTy d T, rfl, .ty T, rp_ty (r1.mono k1.1), ?_, q _ _ G1 H1 g1 k1 (.bl _) h1⟩
    rcases hT with e | e | e | e <;> subst e <;> cases d <;> rfl
/-- list(x), tuple(x) -/
def rListOf (K : PySem.W.Frag) : List V → Hp → VK → Prop := fun xs H Q => ∃ p ys, xs = [.ref p] ∧ (SqL K H p ys ∨ SqT K H p ys) ∧ ∀ l, H l = none → Q (.ref l) (upd H l (.lst ys))
def rTupOf (K : PySem.W.Frag) : List V → Hp → VK → Prop := fun xs H Q => ∃ p ys, xs = [.ref p] ∧ ((SqL K H p ys ∧ ∀ l, H l = none → Q (.ref l) (upd H l (.tup ys))) ∨ (SqT K H p ys ∧ Q (.ref p) H))
theorem call_list1 {X : Cx} : CallR X (.type "list") (rListOf X.K) := call_list_of
theorem call_tup1 {X : Cx} : CallR X (.type "tuple") (rTupOf X.K) := call_tuple_of
theorem b_listT {ds : List Dt} (r : R (.list ds)) : CbD K (rListOf K) [.dat (.tuple ds)] R := fun ω G H vs Q k h q => by
  obtain ⟨v, rfl, rv⟩ := rel1 h
  obtain ⟨a, xs, rfl, hs, ra⟩ := rv.tuple_inv
  exact ⟨a, xs, rfl, .inr (same_t k.1 hs), q_lst k ra q r⟩
theorem b_listL {ds : List Dt} (r : R (.list ds)) : CbD K (rListOf K) [.dat (.list ds)] R := fun ω G H vs Q k h q => by
  obtain ⟨v, rfl, rv⟩ := rel1 h
  obtain ⟨a, xs, rfl, hs, ra⟩ := rv.list_inv
  exact ⟨a, xs, rfl, .inl (.inl (.inl (k.1 _ _ hs))), q_lst k ra q r⟩
theorem b_tupL {ds : List Dt} (r : R (.tuple ds)) : CbD K (rTupOf K) [.dat (.list ds)] R := fun ω G H vs Q k h q => by
  obtain ⟨v, rfl, rv⟩ := rel1 h
  obtain ⟨a, xs, rfl, hs, ra⟩ := rv.list_inv
  exact ⟨a, xs, rfl, .inl ⟨.inl (.inl (k.1 _ _ hs)), q_tup k ra q r⟩⟩
theorem b_tupT {ds : List Dt} (r : R (.tuple ds)) : CbD K (rTupOf K) [.dat (.tuple ds)] R := fun ω G H vs Q k h q => by
  obtain ⟨v, rfl, rv⟩ := rel1 h
  obtain ⟨a, xs, rfl, hs, ra⟩ := rv.tuple_inv
  exact ⟨a, xs, rfl, .inr ⟨same_t k.1 hs, q _ _ G H (Same.refl G) k (.tup hs ra) r⟩⟩
theorem b_all {bs : List Bool} (r : R (.bool (bs.all id))) : CbD K (rAll K) [.dat (.list (bs.map .bool))] R := fun ω G H vs Q k h q => by
  obtain ⟨v, rfl, rv⟩ := rel1 h
  obtain ⟨a, xs, rfl, hs, ra⟩ := rv.list_inv
  obtain rfl := ra.bools
  exact ⟨a, bs, rfl, .inl (.inl (k.1 _ _ hs)), q _ _ G H (Same.refl G) k (.bl _) r⟩
def rMx : List V → Hp → VK → Prop := fun xs H Q => ∃ i j, xs = [.int i, .int j] ∧ Q (.int (if j > i then j else i)) H
theorem call_mx {X : Cx} (hc : X.calm = true) : CallR X (.builtin "max") rMx := call_max2 hc
theorem b_max2 {i j : Int} (r : R (.int (if j > i then j else i))) : CbD K rMx [.dat (.int i), .dat (.int j)] R := fun ω G H vs Q k h q => by
  obtain ⟨v, u, rfl, r1, r2⟩ := rel2 h
  obtain rfl := r1.int_inv
  obtain rfl := r2.int_inv
  exact ⟨i, j, rfl, q _ _ G H (Same.refl G) k (.int _) r⟩
theorem b_gcd {i j : Int} (r : R (.int ((Nat.gcd i.natAbs j.natAbs : Nat) : Int))) : CbD K rGcd [.dat (.int i), .dat (.int j)] R := fun ω G H vs Q k h q => by
  obtain ⟨v, u, rfl, r1, r2⟩ := rel2 h
  obtain rfl := r1.int_inv
  obtain rfl := r2.int_inv
  exact ⟨i, j, rfl, q _ _ G H (Same.refl G) k (.int _) r⟩
end

/-! ### repr -/
def rRepr (K : PySem.W.Frag) : List V → Hp → VK → Prop := fun xs H Q => ∃ x d, xs = [x] ∧ Dp K H x d ∧ d.canLay0 = true ∧ d.showable = true ∧ d.depth ≤ 64 ∧ d.shown.length ≤ sizeLine ∧ Q (.str d.shown) H
theorem call_repr {X : Cx} (hG : X.A.guards = some []) (hu : X.A.units + 70 < cLine) : CallR X (.builtin "repr") (rRepr X.K) := by
  intro pins s σ H xs us Q I r h
  obtain ⟨x, d, rfl, hd, hc, hs, hdep, hz, q⟩ := h
  obtain ⟨u, rfl, rx⟩ := Vals.one r
  obtain ⟨as, rd⟩ := Dp.reads I d x u hd rx
  have hno : d.hasDict = true → sysModules ∉ as := PyData.noDict_hsm (PyData.hasDict_of_canLay d hc)
  cases hd with
  | non =>
    cases rx
    refine PySem.P.repr_of_none ⟨.str _, H, I.tok _, ⟨_, rfl⟩, ?_⟩
    rw [PyData.shown_none] at q
    exact q
  | bl b =>
    cases rx
    refine PySem.P.repr_of_bool ⟨.str _, H, I.tok _, ⟨_, rfl⟩, ?_⟩
    rw [PyData.shown_bool] at q
    exact q
  | int i =>
    obtain ⟨t, rfl⟩ := rx
    have h1 : i.natAbs.log2 < 1920 := by
      unfold PyData.showable at hs
      exact of_decide_eq_true hs
    refine PySem.P.repr_of_int h1 ⟨.str _, H, I.tok _, ⟨_, rfl⟩, ?_⟩
    rw [PyData.shown_int] at q
    exact q
  | str x =>
    obtain ⟨t, rfl⟩ := rx
    rw [PyData.shown_str] at hz q
    exact PySem.P.repr_of_str ⟨.str _, H, I.tok _, ⟨_, rfl⟩, q⟩ hz
  | lst h1 h2 =>
    cases rx
    exact repr_of_reads' (h₀ := s.heap) rd hs hno hG (by omega) (fun _ _ e => e) (fun h' u tk hk => ⟨.str _, H, I.kept (t' := tk) hk, ⟨u, rfl⟩, q⟩) hz
  | tup h1 h2 =>
    cases rx
    exact repr_of_reads' (h₀ := s.heap) rd hs hno hG (by omega) (fun _ _ e => e) (fun h' u tk hk => ⟨.str _, H, I.kept (t' := tk) hk, ⟨u, rfl⟩, q⟩) hz
theorem b_repr {K : PySem.W.Frag} {R : Dt → Prop} {d : Dt} (hc : d.canLay0 = true) (hs : d.showable = true) (hd : d.depth ≤ 64) (hz : d.shown.length ≤ sizeLine) (r : R (.str d.shown)) : CbD K (rRepr K) [.dat d] R := fun ω G H vs Q k h q => by
  obtain ⟨v, rfl, rv⟩ := rel1 h
  exact ⟨v, d, rfl, (rv.mono k.1).dp hc, hc, hs, hd, hz, q _ _ G H (Same.refl G) k (.str _) r⟩

/-! ### defs, where no repr is running -/
structure FnG (P : Program) (w : World) (K : PySem.W.Frag) (mg : Str → Option Value) (base : Heap) (k : Nat) (f : Addr) (fd : FuncData) (ps : List Str) (sp : Sp) : Prop where
  many : ∀ vs H Q E, sp vs H Q E → vs.length = ps.length
  runs : ∀ (A : Around) (out : List PySem.Env) (s : Shared) (H : Hp) (args : Args) (us : List Value) (vs : List V) (Q : VK) (E : XK), A.guards = some [] → Room k A → Env0 P w K mg base A out s H →
    BindsTo s fd args (ps.zip us) → Vals vs us → sp vs H Q E → codeAny (model P w) A (.call (.ref f) args) (CR CX0 out P w H s Q E) s
/-- a def's promise, by data: what is asked of the arguments, what it hands back -/
structure Ct where
  pre : List E → Prop
  post : List E → Dt → Prop
def spD (K : PySem.W.Frag) (c : Ct) : Sp := fun vs H Q _ => ∃ (ω : Wd) (G : Hp) (es : List E), Ok ω G H ∧ RelA K ω G vs es ∧ c.pre es ∧ ∀ v d G' H', Same G G' → Ok ω G' H' → Rp K G' v d → c.post es d → Q v H'
theorem rel_len {K : PySem.W.Frag} {ω : Wd} {G : Hp} {vs : List V} {es : List E} (h : RelA K ω G vs es) : vs.length = es.length := (Paired.length h).symm
theorem w_call {K : PySem.W.Frag} {δ : Nm} {R : Dt → Prop} {ar : TA} {c : Ct} {E : XK} (h : WA K ar δ fun es => c.pre es ∧ ∀ d, c.post es d → R d) : W K (tCall (spD K c) [] E ar) δ R := fun ω σ G H Q e k q =>
  h ω σ G H _ e k fun vs es G1 H1 g1 k1 r1 ⟨h1, h2⟩ => by
    rw [List.append_nil]
    exact ⟨ω, G1, es, k1, r1, h1, fun v d G2 H2 g2 k2 r2 p2 => q v d G2 H2 (g1.trans g2) k2 r2 (h2 d p2)⟩
section
variable {X : Cx} {k : Nat} {f : Addr} {fd : FuncData} {ps : List Str} {sp : Sp} {E : XK} {x : Str} {p pos : Pos} {e : Expr} {es : List Expr} {t : TA}
theorem run_g {pins : List (Addr × Obj)} {σ : L2.St} {H : Hp} {s : Shared} {Q : VK} {us : List Value} {vs : List V} (F : FnG X.prog X.w X.K X.mg X.base k f fd ps sp) (hG : X.A.guards = some []) (hr : Room k X.A) (hb : Binds X.K fd ps [])
    (I : Inv X pins σ H s) (r : Vals vs us) (h : sp vs H Q E) : wpAny (model X.prog X.w) X.A (call (.ref f) us) (EP X pins σ Q) X.xe s := by
  have hl : (us ++ []).length = ps.length := by
    rw [List.append_nil, ← r.length]
    exact F.many _ _ _ _ h
  have b1 := hb s us I.kIn hl
  rw [List.append_nil] at b1
  refine wpAny_call (codeAny_mono (F.runs X.A X.stack s H ⟨us, []⟩ us vs Q E hG hr I.env0 b1 r h) fun rs s' hq => ?_)
  match rs, hq with
  | .error _, z => exact z.elim
  | .ok (.ret _), z => exact I.after z
  | .ok .next, z => exact z.elim
  | .ok .brk, z => exact z.elim
  | .ok .cont, z => exact z.elim
theorem pe_g (F : FnG X.prog X.w X.K X.mg X.base k f fd ps sp) (hG : X.A.guards = some []) (hr : Room k X.A) (hg : Gl X x) (hm : X.mg x = some (.ref f)) (hk : PySem.W.keepIn X.K (.ref f) = true) (hb : Binds X.K fd ps [])
    (ha : PA X (e :: es) t) (hdb : (x == ("__debug__" : Str)) = false := by decide) (he : starEach (e :: es) X.env = (false, eval e X.env) :: starEach es X.env := by rfl) (hpl : (backTo pos (starEach es X.env)).any (·.1) = false := by rfl) :
    PE X (.Call (.Name x p) (e :: es) [] pos) (tCall sp [] E t) := ⟨fun pins s σ H Q I h =>
  wpAny_Call_Name_kw (ld_glob I hg hm (PySem.W.callWith_K (h₀ := X.base) I.ok.mod.kin hk (thn (ha.run pos pins s σ H _ I h) fun us s1 ⟨vs, H1, I1, r, q⟩ => ⟨I1.kIn, run_g (E := E) F hG hr hb I1 r (by
    have q' : sp (vs ++ []) H1 Q E := q
    rw [List.append_nil] at q'
    exact q')⟩) he hpl) hdb)⟩
theorem pe_g0 (F : FnG X.prog X.w X.K X.mg X.base k f fd ps sp) (hG : X.A.guards = some []) (hr : Room k X.A) (hg : Gl X x) (hm : X.mg x = some (.ref f)) (hk : PySem.W.keepIn X.K (.ref f) = true) (hb : Binds X.K fd ps [])
    (hdb : (x == ("__debug__" : Str)) = false := by decide) : PE X (.Call (.Name x p) [] [] pos) (tCall sp [] E tNil) := ⟨fun pins s σ H Q I h =>
  wpAny_Call_Name_kw (ld_glob I hg hm (PySem.W.callWith_K0 I.kIn hk (run_g (us := []) (vs := []) (E := E) F hG hr hb I .nil h)) hdb)⟩
end
section
variable {P : Program} {w : World} {K : PySem.W.Frag} {mg : Str → Option Value} {base : Heap}
/-- the rule for a def of the text: its body as a term of rules, and what that term makes -/
theorem fng_mkC {x qual : Str} {st : Stmt} {f : Addr} {fd : FuncData} {N ps : List Str} {k : Nat} {sp : Sp} (F : Fun K x qual st f fd) (S : FnScope N ps (defScope st)) (many : ∀ vs H Q E, sp vs H Q E → vs.length = ps.length)
    (hbody : ∀ (cdv : Value), fd.code = cdv → ∀ (A : Around) (out : List PySem.Env) (s : Shared) (H : Hp) (vs : List V) (Q : VK) (E : XK), A.guards = some [] → Room k (A.deeper (envOfC qual (defScope st) s.heap.objs.size f cdv)) → sp vs H Q E →
      ∃ t, PSs (cxOf CX0 P w K mg base N qual (defScope st) f cdv A out s H E).nox (defBody st) t ∧ t { nx := fun _ H' => Q .non H', rt := Q } (L2.start N vs) H) : FnG P w K mg base (k + 1) f fd ps sp := by
  obtain ⟨oc, od, kV, doc, pm, an, cdv, ct, osl, rfl, lk, hcd⟩ := F.ex
  refine ⟨many, fun A out s H args us vs Q E hG hr e0 hb r hsp => ?_⟩
  have hl := many _ _ _ _ hsp
  have stay : ∀ b o, base.get? b = some o → s.heap.get? b = some o := fun b o e => (e0.bs b o e).1
  have inK : K.In s.heap := e0.mod.kin.keeps stay
  refine codeAny_call_function hr.depth (inK _ _ lk) rfl S.co S.gen rfl (PySem.W.codeRec_of inK hcd) (hb _ _ _ _ (wpAny_newFunctionEnv_cells S.kind (fun y hy => ?_) fun env he s1 z => ?_))
  · rcases S.par y.1 (List.of_mem_zip (a := y.1) (b := y.2) hy).1 with q | q
    · exact Or.inl q
    · exact Or.inr ⟨q, PySem.W.cellsFrom_some _ _ _ (Or.inl q)⟩
  subst he
  refine ⟨(e0.mod.nolimit.keeps stay).keeps z.toInCall.keep, codeAny_func ?_⟩
  obtain ⟨t, ht, hq⟩ := hbody cdv rfl A out s H vs Q E hG (hr.deeper _) hsp
  have J0 := inv_start (CX := CX0) (E := E) S hr.hd e0 hl r z
  have close : ∀ {σ' : L2.St} {H' : Hp} {v : V} {u : Value} {s' : Shared}, Inv (cxOf CX0 P w K mg base N qual (defScope st) f cdv A out s H E) [] σ' H' s' → RelV v u → Q v H' → CE out P w H s Q u s' :=
    fun {_ H' v _ _} J rv q => ⟨v, H', J.os, J.bare, J.base, J.hok, rv, q⟩
  refine wpAny_mono (ht.nox.run [] s1 (L2.start N vs) H _ J0 hq) (fun fl s' hs => ?_) fun _ _ hs => hs
  match fl, hs with
  | .ret _, ⟨_, _, _, J, rv, q⟩ => exact close J rv q
  | .next, ⟨_, _, J, q⟩ => exact close (v := V.non) (u := Value.none) J rfl q
  | .brk, ⟨_, _, _, q⟩ => exact q.elim
  | .cont, ⟨_, _, _, q⟩ => exact q.elim
theorem fng_mk {x qual : Str} {st : Stmt} {f : Addr} {fd : FuncData} {N ps : List Str} {k : Nat} {sp : Sp} (F : Fun K x qual st f fd) (S : FnScope N ps (defScope st)) (many : ∀ vs H Q E, sp vs H Q E → vs.length = ps.length)
    (hbody : ∀ (cdv : Value) (A : Around) (out : List PySem.Env) (s : Shared) (H : Hp) (vs : List V) (Q : VK) (E : XK), A.guards = some [] → Room k (A.deeper (envOfC qual (defScope st) s.heap.objs.size f cdv)) → sp vs H Q E →
      ∃ t, PSs (cxOf CX0 P w K mg base N qual (defScope st) f cdv A out s H E).nox (defBody st) t ∧ t { nx := fun _ H' => Q .non H', rt := Q } (L2.start N vs) H) : FnG P w K mg base (k + 1) f fd ps sp :=
  fng_mkC F S many fun cdv _ => hbody cdv
/-- the names at a def's entry, by data -/
def startE (N : List Str) (es : List E) : Nm := es ++ List.replicate (N.length - es.length) .unk
theorem env_start {ω : Wd} {G : Hp} {vs : List V} {es : List E} (N : List Str) (h : RelA K ω G vs es) : EnvE K ω G (startE N es) (L2.start N vs) := by
  have hl := rel_len h
  intro i e hi
  unfold startE at hi
  unfold L2.start
  rcases Nat.lt_or_ge i es.length with z | z
  · rw [List.getElem?_append_left z] at hi
    rw [List.getElem?_append_left (by rw [List.length_map, hl]; exact z), List.getElem?_map]
    have hp : ∀ {es : List E} {vs : List V} {i : Nat} {e : E}, RelA K ω G vs es → es[i]? = some e → ∃ v, vs[i]? = some v ∧ SlotE K ω G e (some v) := by
      intro es vs i e h
      induction h generalizing i with
      | nil => intro q; simp at q
      | @cons a b as bs q r ih =>
        intro z
        cases i with
        | zero =>
          obtain rfl : a = e := by simpa using z
          exact ⟨b, rfl, q⟩
        | succ i =>
          obtain ⟨v, h1, h2⟩ := ih (i := i) (by simpa using z)
          exact ⟨v, by simpa using h1, h2⟩
    obtain ⟨v, h1, h2⟩ := hp h hi
    exact ⟨some v, by rw [h1]; rfl, h2⟩
  · rw [List.getElem?_append_right z, List.getElem?_replicate] at hi
    split at hi
    · rename_i hlt
      cases hi
      refine ⟨none, ?_, trivial⟩
      rw [List.getElem?_append_right (by rw [List.length_map, hl]; exact z), List.getElem?_replicate, List.length_map, hl, if_pos (by omega)]
    · cases hi
def noOwn : List E → Bool := fun es => !es.any isOwn
/-- a def by data -/
theorem fng_wsC {x qual : Str} {st : Stmt} {f : Addr} {fd : FuncData} {N ps : List Str} {k : Nat} {c : Ct} (F : Fun K x qual st f fd) (S : FnScope N ps (defScope st)) (many : ∀ es, c.pre es → es.length = ps.length ∧ noOwn es = true)
    (hbody : ∀ (cdv : Value), fd.code = cdv → ∀ (A : Around) (out : List PySem.Env) (s : Shared) (H : Hp) (E : XK), A.guards = some [] → Room k (A.deeper (envOfC qual (defScope st) s.heap.objs.size f cdv)) →
      ∃ t, PSs (cxOf CX0 P w K mg base N qual (defScope st) f cdv A out s H E).nox (defBody st) t ∧
        ∀ es, c.pre es → WS K t (startE N es) (fun _ => c.post es .none) (c.post es) (fun _ => False) (fun _ => False)) : FnG P w K mg base (k + 1) f fd ps (spD K c) := by
  refine fng_mkC F S (fun vs H Q E ⟨ω, G, es, _, r, h, _⟩ => by rw [rel_len r]; exact (many es h).1) fun cdv hcdv A out s H vs Q E hG hr ⟨ω, G, es, k0, r, h, q⟩ => ?_
  obtain ⟨t, ht, hw⟩ := hbody cdv hcdv A out s H E hG hr
  have no : ∀ (i : Nat) (ds : Dt), (startE N es)[i]? = some (.own ds) → False := fun i ds hi => by
    have hm : (DW.E.own ds) ∈ startE N es := List.mem_of_getElem? hi
    rcases List.mem_append.mp hm with z | z
    · have := (many es h).2
      unfold noOwn at this
      rw [Bool.not_eq_true'] at this
      exact List.any_eq_false.mp this _ z rfl
    · cases (List.mem_replicate.mp z).2
  refine ⟨t, ht, hw es h ω (L2.start N vs) G H _ ⟨env_start N r, k0, fun i ds hi => (no i ds hi).elim, fun i j ds _ hi _ => (no i ds hi).elim⟩ ?_ ?_ ?_ ?_⟩
  · exact fun σ' δ' G' H' g s' p => q .non .none G' H' g s'.ok .non p
  · exact fun v d G' H' g k' rv p => q v d G' H' g k' rv p
  · exact fun _ _ _ _ _ _ z => z.elim
  · exact fun _ _ _ _ _ _ z => z.elim
theorem fng_ws {x qual : Str} {st : Stmt} {f : Addr} {fd : FuncData} {N ps : List Str} {k : Nat} {c : Ct} (F : Fun K x qual st f fd) (S : FnScope N ps (defScope st)) (many : ∀ es, c.pre es → es.length = ps.length ∧ noOwn es = true)
    (hbody : ∀ (cdv : Value) (A : Around) (out : List PySem.Env) (s : Shared) (H : Hp) (E : XK), A.guards = some [] → Room k (A.deeper (envOfC qual (defScope st) s.heap.objs.size f cdv)) →
      ∃ t, PSs (cxOf CX0 P w K mg base N qual (defScope st) f cdv A out s H E).nox (defBody st) t ∧
        ∀ es, c.pre es → WS K t (startE N es) (fun _ => c.post es .none) (c.post es) (fun _ => False) (fun _ => False)) : FnG P w K mg base (k + 1) f fd ps (spD K c) :=
  fng_wsC F S many fun cdv _ => hbody cdv
end

/-! ### the law's own call -/
theorem ends_g {l : PySem.W.OpenLaw} {n k : Nat} {q : Program} {loose : List Str} {XP : (Str → Option Value) → Heap → Prop} {YP : World → Heap → Prop} {d : DefRec} {K : Params → PySem.W.Frag} {c : Ct} {x : Str}
    (hn : l.most = some n) (hn2 : n ≤ sizeLine) (hdf : d.params.defaults = []) (hr : Room k callerA)
    (hY : ∀ (w : World) (h : Heap), YP w h → (K w.params).In h) (cs : List (Addr × Addr))
    (hcs : ∀ (w : World), ∀ p ∈ cs, ∃ (y : Str) (e : DefRec), (recsOf q).find? (fun e => e.name == y) = some e ∧ PySem.W.tabIn (K w.params) y = some p ∧ (K w.params).lookup p.2 = none)
    (hT : ∀ t ∈ Tabl.l, ∃ b, (b, t.1) ∈ cs)
    (F : ∀ (w : World) (mg : Str → Option Value) (fa : Addr) (h : Heap), (K w.params).In h → h.Ns mainGlobals mg → mg d.name = some (.ref fa) →
      ∃ fd : FuncData, (∀ (s : Shared) (u : Value), BindsTo s fd ⟨[u], []⟩ [(x, u)]) ∧
        ∀ base : Heap, (K w.params).In base → base.Ns mainGlobals mg → (∀ p ∈ cs, LamX.TabB base mg p.1 p.2) → FnG l.prog w (K w.params) mg base k fa fd [x] (spD (K w.params) c))
    (hp : ∀ ns : List Int, ns.length ≤ n → (∀ z ∈ ns, Builtin.Int.intBits z ≤ 1048576) → c.pre [.scr ns] ∧ ∀ r, c.post [.scr ns] r → r = .bool true) :
    PySem.W.WalkO q loose XP YP l.row.toRowW d [] (fun f vs => PySem.call f vs) := by
  refine Att.attach_callB hn hdf fun w s0 s1 mg mb fa o pm cd doc a vs ns GR Y ho hd hcd hmg hobj hints hlen hbits hg => ?_
  have inK := hY w _ Y
  obtain ⟨fd, hb, hF⟩ := F w mg fa _ inK GR.T.g hmg
  have rv := vals_ints hints
  have hz : ns.length ≤ sizeLine := Nat.le_trans hlen hn2
  have tb : ∀ p ∈ cs, PySem.W.CodeHd s1.heap p.1 p.2 ∧ s1.heap.get? p.2 = some { cls := .none, data := .fields #[] } := fun p hp => by
    obtain ⟨y, e, h1, h2, _⟩ := hcs w p hp
    exact PySem.W.tab_of GR.T inK h1 h2
  have kt : ∀ p ∈ cs, (K w.params).lookup p.2 = none := fun p hp => by
    obtain ⟨y, e, _, _, h3⟩ := hcs w p hp
    exact h3
  let ts : List Addr := cs.map Prod.snd
  have ts_of : ∀ {b : Addr}, b ∈ ts → ∃ p ∈ cs, p.2 = b := fun {b} hb => List.mem_map.mp hb
  have ts_obj : ∀ {b : Addr}, b ∈ ts → s1.heap.get? b = some { cls := .none, data := .fields #[] } := fun {b} hb => by
    obtain ⟨p, hp, rfl⟩ := ts_of hb
    exact (tb p hp).2
  have a_ts : a ∉ ts := fun z => by
    have q := ts_obj z
    rw [hobj] at q
    exact nomatch congrArg Obj.data (Option.some.inj q)
  -- H: nothing is tracked but the tables and, perhaps, the script
  have main : ∀ H : Hp, (∀ b, H b = none ∨ (b ∈ ts ∧ H b = some (.tbl #[])) ∨ ∃ o xs, H b = some (.frz o (.lst xs))) → (∀ b ∈ ts, H b = some (.tbl #[])) → SqL (K w.params) H a (ns.map V.int) → HOk l.prog w H s1.heap →
      (∀ b, H b ≠ none → b = a ∨ b ∈ ts) → (H a ≠ none → (K w.params).lookup a = none) →
      codeAny (model l.prog w) callerA (.call (.ref fa) ⟨[.ref a], []⟩) (fun r s' => r = .ok (.ret (.bool true)) ∧ OldK s1.heap s'.heap ∧ s'.os = s1.os ∧ AllBare s'.gens) s1 := by
    intro H only tt hS hok only_a apart
    have none_of : ∀ {b : Addr} {ob : Obj}, s1.heap.get? b = some ob → (b = a → False) → (b ∈ ts → False) → H b = none := fun {b _} _ ne nt => by
      cases q : H b with
      | none => rfl
      | some u =>
        rcases only_a b (by rw [q]; exact fun z => nomatch z) with z | z
        · exact (ne z).elim
        · exact (nt z).elim
    have plain_of : ∀ {b : Addr} {ob : Obj}, s1.heap.get? b = some ob → (∀ u m, ob.data = .seq u m → False) → (ob.data = .fields #[] → False) → H b = none := fun {b ob} e h1 h2 => none_of e
      (fun z => by
        rw [z, hobj] at e
        cases e
        exact h1 _ _ rfl)
      (fun z => by
        rw [ts_obj z] at e
        cases e
        exact h2 rfl)
    have keepNs : ∀ {b : Addr} {m : Str → Option Value}, s1.heap.Ns b m → (hidT s1.heap H).Ns b m := fun {b m} ⟨ob, es, ep, e, dd, r⟩ =>
      ⟨ob, es, ep, hidT_get e (plain_of e (fun u v z => by rw [dd] at z; cases z) (fun z => by rw [dd] at z; cases z)), dd, r⟩
    have keepK : (K w.params).In (hidT s1.heap H) := fun b ob e => hidT_get (inK b ob e) (by
      cases q : H b with
      | none => rfl
      | some u =>
        have nn : H b ≠ none := by rw [q]; exact fun z => nomatch z
        rcases only_a b nn with eb | eb
        · rw [eb] at nn e
          rw [apart nn] at e
          cases e
        · obtain ⟨p, hp, ep⟩ := ts_of eb
          rw [← ep, kt p hp] at e
          cases e)
    have lim := GR.T.nolimit
    have md : Mod (K w.params) mg (hidT s1.heap H) := ⟨keepK, keepNs GR.T.g, ⟨mb, keepNs GR.T.b, GR.T.builtins⟩, by
      obtain ⟨mc, h1, h2⟩ := lim
      exact ⟨mc, keepNs h1, h2⟩⟩
    have e0 : Env0 l.prog w (K w.params) mg (hidT s1.heap H) callerA [] s1 H := ⟨rfl, md, fun _ _ e => of_hidT e, Nat.le_of_eq (hidT_size _ _), trivial, fun b hb => (nomatch hb), hok, .of_eq hg⟩
    have TB : ∀ p ∈ cs, LamX.TabB (hidT s1.heap H) mg p.1 p.2 := fun p hp => by
      obtain ⟨c1, c2⟩ := tb p hp
      have mainNs := GR.T.g
      refine { code := ?_, bm := ?_, gP := fun z => ?_ }
      · obtain ⟨oc, us, n1, n2, n3, n4, n5, n6, n7, q1, q2, q3, q4, rest⟩ := c1
        exact ⟨oc, us, n1, n2, n3, n4, n5, n6, n7, hidT_get q1 (plain_of q1 (fun u m z => by rw [q3] at z; cases z) (fun z => by rw [q3] at z; cases z; exact nomatch q4)), q2, q3, q4, rest⟩
      · obtain ⟨bm, om, m1, m2, m3, m4, m5, m6⟩ := GR.T.bmain
        refine ⟨bm, om, m1, m2, fun z => ?_, fun z => ?_, hidT_get m3 (plain_of m3 (fun u m z => by rw [m6] at z; cases z) (fun z => by rw [m6] at z; cases z)), m4, m5, m6⟩
        · obtain ⟨og, es, ep, e, dd, _⟩ := mainNs
          rw [z, e] at m3
          cases m3
          rw [dd] at m6
          cases m6
        · rw [z, c2] at m3
          cases m3
          cases m6
      · obtain ⟨og, es, ep, e, dd, _⟩ := mainNs
        rw [z, c2] at e
        cases e
        cases dd
    -- what is known: all but the tables
    let G : Hp := fun b => if b ∈ ts then none else H b
    have gH : Same G H := fun b o e => by
      have e : (if b ∈ ts then none else H b) = some o := e
      by_cases hb : b ∈ ts
      · rw [if_pos hb] at e
        cases e
      · rw [if_neg hb] at e
        exact e
    have gS : SqL (K w.params) G a (ns.map V.int) := by
      have ga : G a = H a := if_neg a_ts
      rcases hS with (z | ⟨oz, z⟩) | z
      · exact .inl (.inl (ga.trans z))
      · exact .inl (.inr ⟨oz, ga.trans z⟩)
      · exact .inr z
    have mem_ts : ∀ t ∈ Tabl.l, t.1 ∈ ts := fun t ht => by
      obtain ⟨b, hb⟩ := hT t ht
      exact List.mem_map_of_mem (f := Prod.snd) hb
    have gN : ∀ b ps, G b ≠ some (.tbl ps) := fun b ps e => by
      have e : (if b ∈ ts then none else H b) = some (.tbl ps) := e
      by_cases hb : b ∈ ts
      · rw [if_pos hb] at e
        cases e
      · rw [if_neg hb] at e
        rcases only b with z | ⟨z, _⟩ | ⟨_, _, z⟩
        · rw [z] at e
          cases e
        · exact hb z
        · rw [z] at e
          cases e
    have k0 : Ok [] G H := ⟨gH, ⟨List.nodup_nil, gN, fun t ht => if_pos (mem_ts t ht), fun t ht => LamX.TabS.nil (tt _ (mem_ts t ht)), fun _ z => nomatch z⟩, fun _ z => nomatch z⟩
    have sp0 : spD (K w.params) c [.ref a] H (fun v _ => v = .bl true) (fun _ _ _ => False) := ⟨[], G, [.scr ns], k0, .cons ⟨a, rfl, gS⟩ .nil, (hp ns hlen hbits).1, fun v d G' H' _ _ r p => by
      have ed := (hp ns hlen hbits).2 d p
      subst ed
      exact r.bool_inv⟩
    refine codeAny_mono ((hF _ keepK (keepNs GR.T.g) TB).runs callerA [] s1 H ⟨[.ref a], []⟩ [.ref a] [.ref a] _ _ rfl hr e0 (hb s1 (.ref a)) (.cons rfl .nil) sp0) fun r s' h => ?_
    match r, h with
    | .error _, z => exact z.elim
    | .ok .next, z => exact z.elim
    | .ok .brk, z => exact z.elim
    | .ok .cont, z => exact z.elim
    | .ok (.ret u), ⟨v, H', os, bare, un, hok', r', q⟩ =>
      have q' : v = .bl true := q
      subst q'
      obtain rfl : u = Value.bool true := r'
      have tgrow : ∀ b ∈ ts, ∃ more : Array Value, s'.heap.get? b = some { cls := .none, data := .fields more } := fun b hb => by
        obtain ⟨more, z⟩ := un.tbls b #[] (tt b hb)
        exact ⟨_, hok' b _ z⟩
      have stay : ∀ (b : Addr) (ob : Obj), b ∉ ts → s1.heap.get? b = some ob → s'.heap.get? b = some ob := fun b ob nb e => by
        rcases only b with z | ⟨z, _⟩ | ⟨ob', xs, z⟩
        · exact un.keep b ob e z (fun hb => by cases hb) (fun hb => by cases hb)
        · exact (nb z).elim
        · obtain ⟨e1, _⟩ := hok b _ z
          obtain ⟨e2, _⟩ := hok' b _ (un.frzs b ob' _ z)
          rw [e1] at e
          cases e
          exact e2
      refine ⟨rfl, { old := fun b ob e => ?_, there := fun b ob e => ?_ }, os, bare⟩
      · by_cases hb : b ∈ ts
        · obtain ⟨more, hm⟩ := tgrow b hb
          have tobj := ts_obj hb
          rw [tobj] at e
          cases e
          obtain ⟨p, hp, ep⟩ := ts_of hb
          subst ep
          refine Or.inr (Or.inl ⟨((tb p hp).1.tab tobj).isCodeTable, rfl, #[], more, rfl, ?_⟩)
          rw [Array.empty_append]
          exact hm
        · exact Or.inl (stay b ob hb e)
      · by_cases hb : b ∈ ts
        · obtain ⟨more, hm⟩ := tgrow b hb
          exact ⟨_, hm⟩
        · exact ⟨ob, stay b ob hb e⟩
  cases hk : (K w.params).lookup a with
  | some ob =>
    have e := inK a ob hk
    rw [hobj] at e
    cases e
    refine main (fun b => if b ∈ ts then some (.tbl #[]) else none) (fun b => ?_) (fun b hb => if_pos hb) (.inr ⟨_, vs.toArray, _, hk, rfl, rfl, rfl, by rw [List.size_toArray, hints.length]; exact hz, by simpa using rv⟩) (fun b u z => ?_)
      (fun b z => .inr (Classical.byContradiction fun hb => z (if_neg hb))) fun z => absurd (if_neg a_ts) z
    · by_cases hb : b ∈ ts
      · exact .inr (.inl ⟨hb, if_pos hb⟩)
      · exact .inl (if_neg hb)
    · by_cases hb : b ∈ ts
      · have z' := (if_pos hb).symm.trans z
        cases z'
        exact ts_obj hb
      · cases (if_neg hb).symm.trans z
  | none =>
    let ob : Obj := { cls := .type "list", data := .seq vs.toArray }
    refine main (fun b => if b ∈ ts then some (.tbl #[]) else if b = a then some (.frz ob (.lst (ns.map V.int))) else none) (fun b => ?_) (fun b hb => if_pos hb) (.inl (.inr ⟨ob, (if_neg a_ts).trans (if_pos rfl)⟩)) (fun b u z => ?_)
      (fun b z => ?_) fun _ => hk
    · by_cases hb : b ∈ ts
      · exact .inr (.inl ⟨hb, if_pos hb⟩)
      · by_cases hc : b = a
        · exact .inr (.inr ⟨ob, _, (if_neg hb).trans (if_pos hc)⟩)
        · exact .inl ((if_neg hb).trans (if_neg hc))
    · by_cases hb : b ∈ ts
      · have z' := (if_pos hb).symm.trans z
        cases z'
        exact ts_obj hb
      · have z1 := (if_neg hb).symm.trans z
        by_cases hc : b = a
        · have z' := (if_pos hc).symm.trans z1
          cases z'
          subst hc
          exact ⟨hobj, by rw [List.length_map]; exact hz, vs, _, rv, hobj⟩
        · cases (if_neg hc).symm.trans z1
    · by_cases hc : b = a
      · exact .inl hc
      · exact .inr (Classical.byContradiction fun hb => z ((if_neg hb).trans (if_neg hc)))
end DW
namespace DW
open PySem PySem.Spec PyProof.Rows L2
variable [Tabl]

/-! ### a def as its callers see it -/
/-- calls by keywords alone: in the order turned round, in the two orders shifted by one -/
abbrev KwB (fd : FuncData) (ps : List Str) : Prop := ∀ us : List Value, us.length = ps.length → bindArgs fd ⟨[], ps.reverse.zip us⟩ = pure (ps.zip us.reverse) ∧
  bindArgs fd ⟨[], (ps.drop 1 ++ ps.take 1).zip us⟩ = pure (ps.zip (us.drop (us.length - 1) ++ us.take (us.length - 1))) ∧
  bindArgs fd ⟨[], (ps.drop (ps.length - 1) ++ ps.take (ps.length - 1)).zip us⟩ = pure (ps.zip (us.drop 1 ++ us.take 1))
structure Use (P : Program) (w : World) (K : PySem.W.Frag) (mg : Str → Option Value) (base : Heap) (x : Str) (k : Nat) (ps : List Str) (sp : Sp) : Prop where
  ex : ∃ (f : Addr) (fd : FuncData), FnG P w K mg base k f fd ps sp ∧ mg x = some (.ref f) ∧ PySem.W.keepIn K (.ref f) = true ∧ L2.Binds K fd ps [] ∧ KwB fd ps
/-- a def of the text, as the top leaves it -/
structure Dfn (K : PySem.W.Frag) (mg : Str → Option Value) (x : Str) (st : Stmt) (ps : List Str) : Prop where
  ex : ∃ (f : Addr) (fd : FuncData), Fun K x x st f fd ∧ mg x = some (.ref f) ∧ (∀ us : List Value, us.length = ps.length → bindArgs fd ⟨us, []⟩ = pure (ps.zip us)) ∧ KwB fd ps
  code : ∀ (f : Addr) (fd : FuncData), Fun K x x st f fd → mg x = some (.ref f) → ∀ c P : Addr, PySem.W.tabIn K x = some (c, P) → fd.code = .ref c
theorem tab_code {K : PySem.W.Frag} {x : Str} {f : Addr} {fd : FuncData} {st : Stmt} {c P : Addr} (a : PySem.W.nsIn K mainGlobals x = some (some (.ref f))) (F : Fun K x x st f fd) (h : PySem.W.tabIn K x = some (c, P)) : fd.code = .ref c := by
  obtain ⟨oc, od, kV, doc, pm, an, cdv, ct, osl, e, lk, _⟩ := F.ex
  unfold PySem.W.tabIn at h
  rw [a] at h
  dsimp only at h
  rw [lk] at h
  dsimp only at h
  split at h
  · rename_i c' hc'
    split at h
    · split at h
      · cases h
        exact hc'
      · cases h
    · cases h
  · cases h
theorem dfn_mk {K : PySem.W.Frag} {mg : Str → Option Value} {h : Heap} {x : Str} {st : Stmt} {ps : List Str} {f : Addr} {oc : Value} {od an : Option Addr} {osl : Array (Option Value)} {kV doc pm cdv ct : Value} (X : K.In h) (G : h.Ns mainGlobals mg)
    (a : PySem.W.nsIn K mainGlobals x = some (some (.ref f))) (l : K.lookup f = some ⟨oc, od, .func (PySem.W.fnOf x x (defArgs st) (defBody st) (defScope st) .none kV doc pm an cdv ct), osl⟩) (c : PySem.W.codeIn K cdv x = true) (k : PySem.W.keepIn K (.ref f) = true)
    (b : ∀ (kV doc pm : Value) (an : Option Addr) (cdv ct : Value) (us : List Value), us.length = ps.length → bindArgs (PySem.W.fnOf x x (defArgs st) (defBody st) (defScope st) .none kV doc pm an cdv ct) ⟨us, []⟩ = pure (ps.zip us))
    (b2 : ∀ (kV doc pm : Value) (an : Option Addr) (cdv ct : Value), KwB (PySem.W.fnOf x x (defArgs st) (defBody st) (defScope st) .none kV doc pm an cdv ct) ps) : Dfn K mg x st ps :=
  ⟨⟨f, _, fun_mk l c k, PySem.W.mg_of X G a, b _ _ _ _ _ _, b2 _ _ _ _ _ _⟩, fun f' fd' F' m' c' P' h' => by
    have e : f' = f := by
      rw [PySem.W.mg_of X G a] at m'
      cases m'
      rfl
    subst e
    exact tab_code a F' h'⟩
section
variable {P : Program} {w : World} {K : PySem.W.Frag} {mg : Str → Option Value} {base : Heap}
theorem Use.mk' {x : Str} {st : Stmt} {N ps : List Str} {k : Nat} {c : Ct} (F : Dfn K mg x st ps) (S : FnScope N ps (defScope st)) (many : ∀ es, c.pre es → es.length = ps.length ∧ noOwn es = true)
    (hbody : ∀ (f : Addr) (cdv : Value) (A : Around) (out : List PySem.Env) (s : Shared) (H : Hp) (E : XK), A.guards = some [] → Room k (A.deeper (envOfC x (defScope st) s.heap.objs.size f cdv)) →
      ∃ t, PSs (cxOf CX0 P w K mg base N x (defScope st) f cdv A out s H E).nox (defBody st) t ∧
        ∀ es, c.pre es → WS K t (startE N es) (fun _ => c.post es .none) (c.post es) (fun _ => False) (fun _ => False)) : Use P w K mg base x (k + 1) ps (spD K c) := by
  obtain ⟨f, fd, F1, m, b, b2⟩ := F.ex
  exact ⟨f, fd, fng_ws F1 S many (hbody f), m, F1.kp, .all b, b2⟩
/-- .. of a def that makes lambdas: its code object and its table are known -/
theorem Use.tab {x : Str} {st : Stmt} {N ps : List Str} {k : Nat} {ct : Ct} {c T : Addr} (F : Dfn K mg x st ps) (S : FnScope N ps (defScope st)) (ht : PySem.W.tabIn K x = some (c, T)) (many : ∀ es, ct.pre es → es.length = ps.length ∧ noOwn es = true)
    (hbody : ∀ (f : Addr) (A : Around) (out : List PySem.Env) (s : Shared) (H : Hp) (E : XK), A.guards = some [] → Room k (A.deeper (envOfC x (defScope st) s.heap.objs.size f (.ref c))) →
      ∃ t, PSs (cxOf CX0 P w K mg base N x (defScope st) f (.ref c) A out s H E).nox (defBody st) t ∧
        ∀ es, ct.pre es → WS K t (startE N es) (fun _ => ct.post es .none) (ct.post es) (fun _ => False) (fun _ => False)) : Use P w K mg base x (k + 1) ps (spD K ct) := by
  obtain ⟨f, fd, F1, m, b, b2⟩ := F.ex
  refine ⟨f, fd, fng_wsC F1 S many fun cdv hcdv => ?_, m, F1.kp, .all b, b2⟩
  have e := F.code f fd F1 m c T ht
  rw [hcdv] at e
  subst e
  exact hbody f
/-- .. where the reading is shown as it stands -/
theorem Use.raw {x : Str} {st : Stmt} {N ps : List Str} {k : Nat} {c : Ct} (F : Dfn K mg x st ps) (S : FnScope N ps (defScope st)) (many : ∀ es, c.pre es → es.length = ps.length)
    (hbody : ∀ (f : Addr) (cdv : Value) (A : Around) (out : List PySem.Env) (s : Shared) (H0 : Hp) (E : XK), A.guards = some [] → Room k (A.deeper (envOfC x (defScope st) s.heap.objs.size f cdv)) →
      ∃ t, PSs (cxOf CX0 P w K mg base N x (defScope st) f cdv A out s H0 E).nox (defBody st) t ∧
        ∀ (ω : Wd) (G H : Hp) (vs : List V) (es : List DW.E) (Q : VK), Ok ω G H → RelA K ω G vs es → c.pre es → (∀ v d G' H', Same G G' → Ok ω G' H' → Rp K G' v d → c.post es d → Q v H') → t { nx := fun _ H' => Q .non H', rt := Q } (L2.start N vs) H) :
    Use P w K mg base x (k + 1) ps (spD K c) := by
  obtain ⟨f, fd, F1, m, b, b2⟩ := F.ex
  refine ⟨f, fd, fng_mk F1 S (fun vs H Q E ⟨ω, G, es, _, r, h, _⟩ => by rw [rel_len r]; exact many es h) (fun cdv A out s H vs Q E hG hr ⟨ω, G, es, k0, r, h, q⟩ => ?_), m, F1.kp, .all b, b2⟩
  obtain ⟨t, ht, hw⟩ := hbody f cdv A out s H E hG hr
  exact ⟨t, ht, hw ω G H vs es Q k0 r h q⟩
/-- a def whose promise is told in the layer's own words -/
theorem Use.low {x : Str} {st : Stmt} {N ps : List Str} {k : Nat} {sp : Sp} (F : Dfn K mg x st ps) (S : FnScope N ps (defScope st)) (many : ∀ vs H Q E, sp vs H Q E → vs.length = ps.length)
    (hbody : ∀ (f : Addr) (cdv : Value) (A : Around) (out : List PySem.Env) (s : Shared) (H : Hp) (vs : List V) (Q : VK) (E : XK), A.guards = some [] → Room k (A.deeper (envOfC x (defScope st) s.heap.objs.size f cdv)) → sp vs H Q E →
      ∃ t, PSs (cxOf CX0 P w K mg base N x (defScope st) f cdv A out s H E).nox (defBody st) t ∧ t { nx := fun _ H' => Q .non H', rt := Q } (L2.start N vs) H) : Use P w K mg base x (k + 1) ps sp := by
  obtain ⟨f, fd, F1, m, b, b2⟩ := F.ex
  exact ⟨f, fd, fng_mk F1 S many (hbody f), m, F1.kp, .all b, b2⟩
theorem Use.imp {x : Str} {k : Nat} {ps : List Str} {c c' : Ct} (U : Use P w K mg base x k ps (spD K c)) (h : ∀ es, c'.pre es → c.pre es) (h2 : ∀ es d, c'.pre es → c.post es d → c'.post es d) : Use P w K mg base x k ps (spD K c') := by
  obtain ⟨f, fd, F, m, kp, b, b2⟩ := U.ex
  have sub : ∀ vs H Q E, spD K c' vs H Q E → spD K c vs H Q E := fun vs H Q E ⟨ω, G, es, k0, r, p, q⟩ => ⟨ω, G, es, k0, r, h es p, fun v d G' H' g k' rv po => q v d G' H' g k' rv (h2 es d p po)⟩
  exact ⟨f, fd, ⟨fun vs H Q E z => F.many vs H Q E (sub vs H Q E z), fun A out s H args us vs Q E hG hr e0 hb r z => F.runs A out s H args us vs Q E hG hr e0 hb r (sub vs H Q E z)⟩, m, kp, b, b2⟩
end
section
variable {X : Cx} {k : Nat} {ps : List Str} {sp : Sp} {E : XK} {x : Str} {p pos : Pos} {e : Expr} {es : List Expr} {t : TA}
theorem pe_u (U : Use X.prog X.w X.K X.mg X.base x k ps sp) (hG : X.A.guards = some []) (hr : Room k X.A) (hg : Gl X x) (ha : PA X (e :: es) t) (hdb : (x == ("__debug__" : Str)) = false := by decide)
    (he : starEach (e :: es) X.env = (false, eval e X.env) :: starEach es X.env := by rfl) (hpl : (backTo pos (starEach es X.env)).any (·.1) = false := by rfl) : PE X (.Call (.Name x p) (e :: es) [] pos) (tCall sp [] E0 t) := by
  obtain ⟨f, fd, F, m, kp, b, b2⟩ := U.ex
  exact pe_g F hG hr hg m kp b ha hdb he hpl
theorem pe_u0 (U : Use X.prog X.w X.K X.mg X.base x k ps sp) (hG : X.A.guards = some []) (hr : Room k X.A) (hg : Gl X x) (hdb : (x == ("__debug__" : Str)) = false := by decide) : PE X (.Call (.Name x p) [] [] pos) (tCall sp [] E0 tNil) := by
  obtain ⟨f, fd, F, m, kp, b, b2⟩ := U.ex
  exact pe_g0 F hG hr hg m kp b hdb
/-! operators that go by the kinds of their operands -/
def rAddK (K : PySem.W.Frag) : R2 := fun x y H Q => (rI0 fun i j => .int (i + j)) x y H Q ∨ rCat x y H Q ∨ rCatA K x y H Q
theorem op_addK : OpR X (binaryOp .Add) (rAddK X.K) := op_add.or (op_cat.or op_catA)
def rMulK (K : PySem.W.Frag) : R2 := fun x y H Q => (rI CMul fun i j => .int (i * j)) x y H Q ∨ rRep x y H Q ∨ rRepT K x y H Q
theorem op_mulK : OpR X (binaryOp .Mult) (rMulK X.K) := op_mul.or (op_rep.or op_repT)
def rEqK (K : PySem.W.Frag) : R2 := fun x y H Q => rEqD K x y H Q ∨ rEq x y H Q
theorem op_eqK (hu : X.A.units + 64 < cLine) : OpR X (compareOp .Eq) (rEqK X.K) := (op_eqD hu).or op_eq
def rNeK (K : PySem.W.Frag) : R2 := fun x y H Q => rNeD K x y H Q ∨ rNe x y H Q
theorem op_neK (hu : X.A.units + 64 < cLine) : OpR X (compareOp .NotEq) (rNeK X.K) := (op_neD hu).or op_ne
def rIxK (K : PySem.W.Frag) : R2 := fun x y H Q => rIxL K x y H Q ∨ rIxT K x y H Q
theorem ix_k : IxR X (rIxK X.K) := ix_list.or ix_tup
def rSlK (K : PySem.W.Frag) : V → Option Int → Option Int → Hp → VK → Prop := fun x lo hi H Q => rSlL K x lo hi H Q ∨ rSlA K x lo hi H Q
theorem sl_k : SlR X (rSlK X.K) := sl_list.or sl_tupA
end
section
variable {K : PySem.W.Frag} {δ : Nm} {te ta tb tc : TE} {R : Dt → Prop}
theorem op_l {r r' : R2} {x y : Dt} (h : OpD K r x y R) : OpD K (fun x y H Q => r x y H Q ∨ r' x y H Q) x y R := fun ω G H v u Q k h1 h2 q => .inl (h ω G H v u Q k h1 h2 q)
theorem op_r {r r' : R2} {x y : Dt} (h : OpD K r' x y R) : OpD K (fun x y H Q => r x y H Q ∨ r' x y H Q) x y R := fun ω G H v u Q k h1 h2 q => .inr (h ω G H v u Q k h1 h2 q)
theorem k_addI {i j : Int} (r : R (.int (i + j))) : OpD K (rAddK K) (.int i) (.int j) R := op_l (o_I0i (g := fun i j => i + j) r)
theorem k_addL {xs ys : List Dt} (hz : xs.length + ys.length ≤ sizeLine) (r : R (.list (xs ++ ys))) : OpD K (rAddK K) (.list xs) (.list ys) R := op_r (op_l (o_cat hz r))
theorem k_addT {xs ys : List Dt} (hz : xs.length + ys.length ≤ sizeLine) (r : R (.tuple (xs ++ ys))) : OpD K (rAddK K) (.tuple xs) (.tuple ys) R := op_r (op_r (o_catT hz r))
theorem k_sub {i j : Int} (r : R (.int (i - j))) : OpD K (rI0 fun i j => .int (i - j)) (.int i) (.int j) R := o_I0i (g := fun i j => i - j) r
theorem k_mulI {i j : Int} (c : CMul i j) (r : R (.int (i * j))) : OpD K (rMulK K) (.int i) (.int j) R := op_l (o_I (g := fun i j => i * j) c r)
theorem k_mulL {xs : List Dt} {m : Int} (h1 : -(2 ^ 63) ≤ m) (h2 : m < 2 ^ 63) (hz : xs.length * m.toNat ≤ sizeLine) (r : R (.list (List.replicate m.toNat xs).flatten)) : OpD K (rMulK K) (.list xs) (.int m) R := op_r (op_l (o_rep h1 h2 hz r))
theorem k_mod {i j : Int} (c : 0 < j) (r : R (.int (i % j))) : OpD K (rI (fun _ j => 0 < j) fun i j => .int (i % j)) (.int i) (.int j) R := o_I (g := fun i j => i % j) c r
theorem k_fdiv {i j : Int} (c : 0 < j ∧ j < 1073741824) (r : R (.int (i / j))) : OpD K (rI CDiv fun i j => .int (i / j)) (.int i) (.int j) R := o_I (g := fun i j => i / j) c r
theorem k_pow {i j : Int} (c : CPow i j) (r : R (.int (i ^ j.toNat))) : OpD K (rI CPow fun i j => .int (i ^ j.toNat)) (.int i) (.int j) R := o_I (g := fun i j => i ^ j.toNat) c r
theorem k_lt {i j : Int} (r : R (.bool (decide (i < j)))) : OpD K (rI0 fun i j => .bl (decide (i < j))) (.int i) (.int j) R := o_I0b (g := fun i j => decide (i < j)) r
theorem k_le {i j : Int} (r : R (.bool (decide (i ≤ j)))) : OpD K (rI0 fun i j => .bl (decide (i ≤ j))) (.int i) (.int j) R := o_I0b (g := fun i j => decide (i ≤ j)) r
theorem k_gt {i j : Int} (r : R (.bool (decide (j < i)))) : OpD K (rI0 fun i j => .bl (decide (j < i))) (.int i) (.int j) R := o_I0b (g := fun i j => decide (j < i)) r
theorem k_ge {i j : Int} (r : R (.bool (decide (j ≤ i)))) : OpD K (rI0 fun i j => .bl (decide (j ≤ i))) (.int i) (.int j) R := o_I0b (g := fun i j => decide (j ≤ i)) r
theorem k_eq {x y : Dt} (sx : SeqAt.shaped x = true) (sy : SeqAt.shaped y = true) (r : R (.bool (PyData.eqv x y))) : OpD K (rEqK K) x y R := op_l (o_eq sx sy r)
theorem k_ne {x y : Dt} (sx : SeqAt.shaped x = true) (sy : SeqAt.shaped y = true) (r : R (.bool (!PyData.eqv x y))) : OpD K (rNeK K) x y R := op_l (o_ne sx sy r)
theorem k_eqS {x y : Str} (r : R (.bool (decide (x = y)))) : OpD K (rEqK K) (.str x) (.str y) R := fun ω G H v u Q k h1 h2 q => by
  obtain rfl := h1.str_inv
  obtain rfl := h2.str_inv
  have e : decide (V.str x = V.str y) = decide (x = y) := by
    by_cases h : x = y
    · subst h
      simp
    · simp [h]
  exact .inr ⟨rfl, q _ _ G H (Same.refl G) k (by rw [e]; exact .bl _) r⟩
theorem k_neS {x y : Str} (r : R (.bool (!decide (x = y)))) : OpD K (rNeK K) (.str x) (.str y) R := fun ω G H v u Q k h1 h2 q => by
  obtain rfl := h1.str_inv
  obtain rfl := h2.str_inv
  have e : decide (V.str x = V.str y) = decide (x = y) := by
    by_cases h : x = y
    · subst h
      simp
    · simp [h]
  exact .inr ⟨rfl, q _ _ G H (Same.refl G) k (by rw [e]; exact .bl _) r⟩
theorem k_ixL {ds : List Dt} {i : Int} {d : Dt} (h : atI ds i = some d) (r : R d) : OpD K (rIxK K) (.list ds) (.int i) R := op_l (o_ixL h r)
theorem k_ixT {ds : List Dt} {i : Int} {d : Dt} (h : atI ds i = some d) (r : R d) : OpD K (rIxK K) (.tuple ds) (.int i) R := op_r (o_ixT h r)
theorem k_slL {ds : List Dt} {lo hi : Option Int} (r : R (.list (cutD ds lo hi))) : SlD K (rSlK K) (.list ds) lo hi R := fun ω G H v Q k h q => .inl (sl_L r ω G H v Q k h q)
theorem k_slT {ds : List Dt} {lo hi : Option Int} (r : R (.tuple (cutD ds lo hi))) : SlD K (rSlK K) (.tuple ds) lo hi R := fun ω G H v Q k h q => .inr (sl_T r ω G H v Q k h q)
theorem k_ixScr {ns : List Int} {n : Int} {i : Nat} (hi : δ[i]? = some (.scr ns)) (h : W K tb δ fun d => ∃ j, d = .int j ∧ atI ns j = some n ∧ R (.int n)) : W K (tOp (rIxK K) (tVar i) tb) δ R := fun ω σ G H Q e k q => by
  obtain ⟨v, h1, h2⟩ := w_ixScr hi h ω σ G H Q e k q
  refine ⟨v, h1, ?_⟩
  obtain ⟨s, a1, p, a2, a3⟩ := e i _ hi
  rw [h1] at a1
  subst a2
  cases a1
  refine h ω σ G H _ e k fun u d G1 H1 g1 k1 r1 ⟨j, e1, ha, hr⟩ => ?_
  subst e1
  refine .inl ⟨p, ns.map V.int, j, .int n, rfl, r1.int_inv, k1.1.seq (g1.seq a3), ?_, q _ _ G1 H1 g1 k1 (.int n) hr⟩
  unfold atI at ha ⊢
  rw [List.length_map]
  cases e : ixN ns.length j with
  | none => rw [e] at ha; cases ha
  | some l =>
    rw [e] at ha
    have ha' : ns[l]? = some n := ha
    show (ns.map V.int)[l]? = some (V.int n)
    rw [List.getElem?_map, ha']
    rfl
theorem k_slScr {ns : List Int} {i : Nat} {tl th : TO} (hi : δ[i]? = some (.scr ns)) (h : WO K tl δ fun lo => WO K th δ fun hi => R (.list (cutD (ns.map .int) lo hi))) : W K (tSl (rSlK K) (tVar i) tl th) δ R := fun ω σ G H Q e k q => by
  obtain ⟨s, h1, p, h2, h3⟩ := e i _ hi
  subst h2
  refine ⟨.ref p, h1, h ω σ G H _ e k fun lo lo' G2 H2 g2 k2 e2 h2 => h2 ω σ G2 H2 _ (e.mono g2) k2 fun hi hi' G3 H3 g3 k3 e3 h3' => ?_⟩
  subst e2 e3
  exact .inl ⟨p, ns.map V.int, rfl, k3.1.seq ((g2.trans g3).seq h3), q_lst k3 (rp_cut (RpAll.of_ints ns) lo hi) (fun w d G4 H4 g4 k4 r4 h4 => q w d G4 H4 ((g2.trans g3).trans g4) k4 r4 h4) h3'⟩
end
section
variable {X : Cx}
/-- what is walked by its kind: a list or a tuple -/
def iSeq (K : PySem.W.Frag) (tl : TE) : TI := fun σ H R => tl σ H fun x H1 => ∃ a, x = .ref a ∧ (((∃ xs, SqL K H1 a xs) ∧ R (Itl K a) H1) ∨ ((∃ xs, SqT K H1 a xs) ∧ R (Itt K a) H1))
theorem pi_seq {tg l : Expr} {tl : TE} (hl : PE X l tl) : PI X tg l (iSeq X.K tl) := by
  refine ⟨fun pins s σ H R I h => ?_⟩
  refine thn (hl.run pins s σ H _ I h) fun v s1 ⟨x, H1, I1, r1, a, e, q1⟩ => ?_
  subst e
  cases r1
  rcases q1 with ⟨⟨xs, hq⟩, q⟩ | ⟨⟨xs, hq⟩, q⟩
  · obtain ⟨its, rv, p, hz⟩ := I1.list hq
    refine wpAny_pyIter_list p.isList ⟨s1.heap.objs.size, [s1.heap.objs.size], _, _, H1, rfl, I1.kept (t' := s1.toks) fun b o e => Heap.get?_push_of_some _ e, turn_list a _, ⟨_, Heap.get?_push_size _ rfl, rfl, rfl⟩, fun b hb => ?_, q⟩
    obtain rfl : b = s1.heap.objs.size := by simpa using hb
    exact I1.fpOk (Nat.le_refl _) (I1.hok.fresh (Nat.le_refl _))
  · obtain ⟨its, rv, p, hz⟩ := I1.tuple hq
    refine wpAny_pyIter_tuple (show s1.heap.IsTuple a its.toArray from p) ⟨s1.heap.objs.size, [s1.heap.objs.size], _, _, H1, rfl, I1.kept (t' := s1.toks) fun b o e => Heap.get?_push_of_some _ e, turn_tuple a _, ⟨_, Heap.get?_push_size _ rfl, rfl, rfl⟩, fun b hb => ?_, q⟩
    obtain rfl : b = s1.heap.objs.size := by simpa using hb
    exact I1.fpOk (Nat.le_refl _) (I1.hok.fresh (Nat.le_refl _))
end
section
variable {K : PySem.W.Frag} {δ : Nm} {tl : TE}
theorem gives_list {G : Hp} {a : Addr} {vs : List V} {xs : List Dt} (hs : G a = some (.lst vs)) (ra : RpAll K G vs xs) : Gives K G (Itl K a) xs := fun ω2 G2 H2 i g2 k2 => by
  have hl : SqL K H2 a vs := .inl (.inl (k2.1 _ _ (g2 _ _ hs)))
  refine ⟨fun hi0 => have hi := Nat.le_of_eq hi0; ⟨vs, hl, by rw [ra.len]; exact hi⟩, fun x hx => ?_⟩
  obtain ⟨v, hv, rv⟩ := ra.at hx
  refine ⟨⟨vs, v, hl, hv⟩, fun u H3 ⟨e3, f⟩ => ?_⟩
  subst e3
  have eu := f vs hl
  rw [hv] at eu
  cases eu
  exact ⟨G2, Same.refl _, k2, rv.mono g2⟩
theorem gives_tup {G : Hp} {a : Addr} {vs : List V} {xs : List Dt} (hs : SqT K G a vs) (ra : RpAll K G vs xs) : Gives K G (Itt K a) xs := fun ω2 G2 H2 i g2 k2 => by
  have hl : SqT K H2 a vs := same_t (g2.trans k2.1) hs
  refine ⟨fun hi0 => have hi := Nat.le_of_eq hi0; ⟨vs, hl, by rw [ra.len]; exact hi⟩, fun x hx => ?_⟩
  obtain ⟨v, hv, rv⟩ := ra.at hx
  refine ⟨⟨vs, v, hl, hv⟩, fun u H3 ⟨e3, f⟩ => ?_⟩
  subst e3
  have eu := f vs hl
  rw [hv] at eu
  cases eu
  exact ⟨G2, Same.refl _, k2, rv.mono g2⟩
theorem wi_seqL {Rx : List Dt → Prop} (h : W K tl δ fun d => ∃ xs, d = .list xs ∧ Rx xs) : WI K (iSeq K tl) δ Rx := fun ω σ G H Q e k q =>
  h ω σ G H _ e k fun v d G1 H1 g1 k1 r ⟨xs, e1, rx⟩ => by
    subst e1
    obtain ⟨a, vs, rfl, hs, ra⟩ := r.list_inv
    exact ⟨a, rfl, .inl ⟨⟨vs, .inl (.inl (k1.1 _ _ hs))⟩, q _ xs G1 H1 g1 k1 (gives_list hs ra) rx⟩⟩
theorem wi_seqT {Rx : List Dt → Prop} (h : W K tl δ fun d => ∃ xs, d = .tuple xs ∧ Rx xs) : WI K (iSeq K tl) δ Rx := fun ω σ G H Q e k q =>
  h ω σ G H _ e k fun v d G1 H1 g1 k1 r ⟨xs, e1, rx⟩ => by
    subst e1
    obtain ⟨a, vs, rfl, hs, ra⟩ := r.tuple_inv
    exact ⟨a, rfl, .inr ⟨⟨vs, same_t k1.1 hs⟩, q _ xs G1 H1 g1 k1 (gives_tup hs ra) rx⟩⟩
end
end DW
namespace DW
open PySem PySem.Spec PyProof.Rows L2
variable [Tabl]

theorem room70 {A : Around} {k : Nat} (hr : Room k A) : A.units + 70 < cLine := by
  have := hr.un
  omega
/-- a module's constant -/
def gv (K : PySem.W.Frag) (x : Str) : Value := ((PySem.W.nsIn K mainGlobals x).bind id).getD .none
theorem gv_mk {K : PySem.W.Frag} {mg : Str → Option Value} {h : Heap} {x : Str} {i : Int} {t : Tok} (X : K.In h) (G : h.Ns mainGlobals mg) (a : PySem.W.nsIn K mainGlobals x = some (some (.int i t))) : RelV (.int i) (gv K x) ∧ mg x = some (gv K x) := by
  have e : gv K x = .int i t := by unfold gv; rw [a]; rfl
  rw [e]
  exact ⟨⟨t, rfl⟩, PySem.W.mg_of X G a⟩
theorem law_fd {P : Program} {w : World} {K : PySem.W.Frag} {mg : Str → Option Value} {x y : Str} {st : Stmt} {k : Nat} {fa : Addr} {sp : Sp} (hm : mg x = some (.ref fa)) (F : Dfn K mg x st [y])
    (U : ∀ (base : Heap) (f : Addr) (fd : FuncData), Fun K x x st f fd → FnG P w K mg base k f fd [y] sp) :
    ∃ fd : FuncData, (∀ (s : Shared) (u : Value), BindsTo s fd ⟨[u], []⟩ [(y, u)]) ∧ ∀ base : Heap, K.In base → base.Ns mainGlobals mg → FnG P w K mg base k fa fd [y] sp := by
  obtain ⟨f, fd, F1, m, b, _⟩ := F.ex
  obtain rfl : f = fa := by
    rw [hm] at m
    cases m
    rfl
  exact ⟨fd, fun s u => .of_eq (b [u] rfl), fun base _ _ => U base f fd F1⟩

/-! ### comprehensions, in short -/
section
variable {K : PySem.W.Frag} {δ : Nm} {te : TE} {tt : TT} {R : Dt → Prop}
theorem take_snoc {α : Type} {xs : List α} {i : Nat} {x : α} (h : xs[i]? = some x) : xs.take (i + 1) = xs.take i ++ [x] := by
  rw [List.take_add_one, h]
  rfl
/-- [f(x) for x in ..] -/
theorem w_map {wi : TI} {j : Nat} {vs : List Nat} (f : Dt → Dt) (hj : j ∈ vs) (h : WI K wi δ fun xs => xs.length ≤ 1000000 ∧ (∀ x, x ∈ xs → W K te ((wipeE (δ.map blind) vs).set j (.dat x)) fun y => y = f x) ∧ R (.list (xs.map f))) :
    W K (tLc wi (gName j) tYes te vs) δ R := by
  refine w_lc (gin_name hj) gm_name fun ω σ G H Q e k q => h ω σ G H Q e k fun J xs G' H' g k' gv ⟨hz, ht, hr⟩ => q J xs G' H' g k' gv ⟨hz, fun i acc => acc = (xs.take i).map f, rfl, fun i x acc hx p => ?_, fun acc p => ?_⟩
  · refine g_name (wt_yes (iteT (w_mono (ht x (List.mem_of_getElem? hx)) fun y e => ?_)))
    subst e p
    rw [take_snoc hx, List.map_append]
    rfl
  · subst p
    rw [List.take_length]
    exact hr
/-- [x for x in .. if p(x)] -/
theorem w_filter {wi : TI} {j : Nat} {vs : List Nat} (p : Dt → Bool) (f : Dt → Dt) (hj : j ∈ vs) (h : WI K wi δ fun xs => xs.length ≤ 1000000 ∧
    (∀ x, x ∈ xs → WT K tt ((wipeE (δ.map blind) vs).set j (.dat x)) fun b => b = p x ∧ (p x = true → W K te ((wipeE (δ.map blind) vs).set j (.dat x)) fun y => y = f x)) ∧ R (.list ((xs.filter p).map f))) :
    W K (tLc wi (gName j) tt te vs) δ R := by
  refine w_lc (gin_name hj) gm_name fun ω σ G H Q e k q => h ω σ G H Q e k fun J xs G' H' g k' gv ⟨hz, ht, hr⟩ => q J xs G' H' g k' gv ⟨hz, fun i acc => acc = ((xs.take i).filter p).map f, rfl, fun i x acc hx pa => ?_, fun acc pa => ?_⟩
  · refine g_name (wt_mono (ht x (List.mem_of_getElem? hx)) fun b ⟨eb, hb⟩ => ?_)
    subst eb
    cases hp : p x with
    | true =>
      rw [if_pos rfl]
      refine w_mono (hb hp) fun y e => ?_
      subst e pa
      rw [take_snoc hx, List.filter_append, List.map_append, List.filter_cons, if_pos hp]
      rfl
    | false =>
      rw [if_neg Bool.false_ne_true]
      subst pa
      rw [take_snoc hx, List.filter_append, List.map_append, List.filter_cons, if_neg (by rw [hp]; exact Bool.false_ne_true)]
      show _ = _ ++ []
      rw [List.append_nil]
  · subst pa
    rw [List.take_length] at *
    exact hr
/-- [f(x, y) for x, y in ..] -/
theorem w_map2 {wi : TI} {j l : Nat} {vs : List Nat} {α : Type} (a b f : α → Dt) (hj : j ∈ vs) (hl : l ∈ vs)
    (h : WI K wi δ fun xs => ∃ ps : List α, xs = ps.map (fun p => .tuple [a p, b p]) ∧ ps.length ≤ 1000000 ∧ (∀ p, p ∈ ps → W K te (((wipeE (δ.map blind) vs).set j (.dat (a p))).set l (.dat (b p))) fun y => y = f p) ∧ R (.list (ps.map f))) :
    W K (tLc wi (gTup K 2 (gCons (gName j) (gCons (gName l) gNil))) tYes te vs) δ R := by
  refine w_lc (gin_tup (gsin_cons (gin_name hj) gm_name (gsin_cons (gin_name hl) gm_name gsin_nil gsm_nil) (gsm_cons gm_name gsm_nil))) (gm_tup (gsm_cons gm_name (gsm_cons gm_name gsm_nil))) fun ω σ G H Q e k q =>
    h ω σ G H Q e k fun J xs G' H' g k' gv ⟨ps, e1, hz, ht, hr⟩ => q J xs G' H' g k' gv ⟨by rw [e1, List.length_map]; exact hz, fun i acc => acc = (ps.take i).map f, rfl, fun i x acc hx p => ?_, fun acc p => ?_⟩
  · subst e1
    rw [List.getElem?_map] at hx
    cases hp : ps[i]? with
    | none => rw [hp] at hx; cases hx
    | some y =>
      rw [hp] at hx
      cases hx
      refine g_tup rfl (gs_cons (g_name (gs_cons (g_name (gs_nil (wt_yes (iteT (w_mono (ht y (List.mem_of_getElem? hp)) fun y' e => ?_))))))))
      subst e p
      rw [take_snoc hp, List.map_append]
      rfl
  · subst p e1
    rw [List.length_map, List.take_length]
    exact hr
theorem pairs_zip : ∀ xs ys : List Dt, pairs xs ys = (xs.zip ys).map fun p => .tuple [p.1, p.2]
  | [], _ => by simp [pairs]
  | _ :: _, [] => by simp [pairs]
  | x :: xs, y :: ys => by
    rw [List.zip_cons_cons, List.map_cons, ← pairs_zip xs ys]
    rfl
theorem b_allM {α : Type} {xs : List α} {g : α → Bool} (r : R (.bool (xs.all g))) : CbD K (rAll K) [.dat (.list (xs.map fun x => .bool (g x)))] R := by
  have e : xs.map (fun x => PyData.bool (g x)) = (xs.map g).map PyData.bool := by
    rw [List.map_map]
    rfl
  rw [e]
  refine b_all ?_
  have e2 : (xs.map g).all id = xs.all g := by
    rw [List.all_map]
    rfl
  rw [e2]
  exact r
def lenOf : Dt → Nat
  | .tuple xs => xs.length
  | .list xs => xs.length
  | _ => 0
end

/-! ### == of data -/
theorem eqv_int (i j : Int) : PyData.eqv (.int i) (.int j) = decide (i = j) := by
  unfold PyData.eqv
  exact Bool.beq_eq_decide_eq i j
theorem eqv_str (x y : Str) : PyData.eqv (.str x) (.str y) = decide (x = y) := by
  unfold PyData.eqv
  exact Bool.beq_eq_decide_eq x y
theorem eqvAll_ints : ∀ ns ms : List Int, PyData.eqvAll (ns.map .int) (ms.map .int) = decide (ns = ms)
  | [], [] => by simp [PyData.eqvAll]
  | [], _ :: _ => by simp [PyData.eqvAll]
  | _ :: _, [] => by simp [PyData.eqvAll]
  | n :: ns, m :: ms => by
    rw [List.map_cons, List.map_cons, PyData.eqvAll, eqv_int, eqvAll_ints ns ms]
    by_cases h1 : n = m <;> by_cases h2 : ns = ms <;> simp [h1, h2]
theorem eqv_ints (ns ms : List Int) : PyData.eqv (.tuple (ns.map .int)) (.tuple (ms.map .int)) = decide (ns = ms) := by
  unfold PyData.eqv
  exact eqvAll_ints ns ms
theorem eqv_nilL (ds : List Dt) : PyData.eqv (.list ds) (.list []) = decide (ds = []) := by
  unfold PyData.eqv
  cases ds <;> simp [PyData.eqvAll]
theorem lay_ints : ∀ ns : List Int, PyData.canLayAll0 (ns.map .int) = true
  | [] => rfl
  | n :: ns => by
    rw [List.map_cons, PyData.canLayAll0, lay_ints ns]
    rfl
theorem depth_ints : ∀ ns : List Int, PyData.depthAll (ns.map .int) = 0
  | [] => rfl
  | n :: ns => by
    rw [List.map_cons, PyData.depthAll, depth_ints ns]
    rfl
theorem shaped_int (i : Int) : SeqAt.shaped (.int i) = true := rfl
theorem shaped_tints (ns : List Int) : SeqAt.shaped (.tuple (ns.map .int)) = true := by
  unfold SeqAt.shaped
  rw [PyData.canLay0, PyData.depth, lay_ints, depth_ints]
  rfl
theorem shaped_lints (ns : List Int) : SeqAt.shaped (.list (ns.map .int)) = true := by
  unfold SeqAt.shaped
  rw [PyData.canLay0, PyData.depth, lay_ints, depth_ints]
  rfl
theorem ite_both {b : Bool} {A B : Prop} (h1 : b = true → A) (h2 : b = false → B) : if b = true then A else B := by
  cases b with
  | true => exact iteT (h1 rfl)
  | false => exact iteF (h2 rfl)

/-! ### the pen at hand -/
section
variable {K : PySem.W.Frag} {σ : L2.St} {H : Hp} {D : Ends} {p : Addr} {xs : List V} {te : TE}
theorem pen_get {i : Nat} {j : Int} {v : V} {Q : VK} (hs : σ[i]? = some (some (.ref p))) (h : H p = some (.lst xs)) (hj : atI xs j = some v) (q : Q v H) : tOp (rIxK K) (tVar i) (tC (.int j)) σ H Q :=
  ⟨.ref p, hs, .inl ⟨p, xs, j, v, rfl, rfl, .inl (.inl h), hj, q⟩⟩
end
end DW
namespace DW
open PySem PySem.Spec PyProof.Rows L2
variable [Tabl]
/-! ### a new pen -/
/-- a new pen, of an int -/
def sp_pen : Sp := fun vs H Q _ => ∃ n : Int, vs = [.int n] ∧ ∀ p a b c, H p = none → 0 ≤ b → b < 2147483648 → Q (.ref p) (upd H p (.lst [.int a, .int b, .int c]))
/-- pens forgotten -/
def unpen : E → E
  | .pen => .unk
  | e => e
section
variable {K : PySem.W.Frag} {δ : Nm} {ω : Wd} {G H : Hp} {σ : L2.St}
theorem unpen_own {i : Nat} {d : Dt} (h : (δ.map unpen)[i]? = some (.own d)) : δ[i]? = some (.own d) := by
  rw [List.getElem?_map] at h
  cases hd : δ[i]? with
  | none => rw [hd] at h; cases h
  | some c =>
    rw [hd] at h
    cases c <;> first | exact (Option.some.inj h) ▸ rfl | cases h
theorem env_unpen {ω' : Wd} (h : EnvE K ω G δ σ) : EnvE K ω' G (δ.map unpen) σ := fun i e hi => by
  rw [List.getElem?_map] at hi
  cases hd : δ[i]? with
  | none => rw [hd] at hi; cases hi
  | some c =>
    rw [hd] at hi
    obtain rfl : unpen c = e := Option.some.inj hi
    obtain ⟨s, h1, h2⟩ := h i c hd
    refine ⟨s, h1, ?_⟩
    cases c <;> first | exact trivial | exact h2
theorem Std.unpen {p : Addr} {φ : HO → Prop} (s : Std K ((p, φ) :: ω) G H δ σ) : Std K ω G H (δ.map unpen) σ := by
  obtain ⟨k, g, _, ap⟩ := s.ok.pop
  refine ⟨env_unpen s.env, k, fun i d hi => ?_, fun i j c d h1 h2 => s.one i j c d (unpen_own h1) (unpen_own h2)⟩
  obtain ⟨q, o, h1, h2, h3, h4, h5⟩ := s.own i d (unpen_own hi)
  exact ⟨q, o, h1, h2, h3, h4, fun r hr => h5 r (List.mem_cons_of_mem _ hr)⟩
theorem dats_ints : ∀ ns : List Int, dats (ns.map fun n => E.dat (.int n)) = some (ns.map .int)
  | [] => rfl
  | n :: ns => by
    show (dats (ns.map fun n => E.dat (.int n))).map _ = _
    rw [dats_ints ns]
    rfl
/-- arguments of ints, from a statement's state -/
theorem run_ints {ar : TA} {Q : List V → Hp → Prop} {Rn : List Int → Prop} (h : WA K ar δ fun es => ∃ ns : List Int, es = ns.map (fun n => .dat (.int n)) ∧ Rn ns) (s : Std K ω G H δ σ)
    (q : ∀ ns G' H', Same G G' → Std K ω G' H' δ σ → Rn ns → Q (ns.map V.int) H') : ar σ H Q :=
  run_wg (Rel := fun _ (vs : List V) (ns : List Int) => vs = ns.map V.int) (R := Rn) (t := fun σ H Q => ar σ H Q) (fun ω σ G H Q e k q => h ω σ G H Q e k fun vs es G' H' g k' ra ⟨ns, e1, e2⟩ => q vs ns G' H' g k' (by
    subst e1
    exact (rpAll_of ra (dats_ints ns)).ints) e2) s fun vs ns G' H' g s' e1 e2 => by
    subst e1
    exact q ns G' H' g s' e2
/-- x = pen(n); .. -/
theorem ws_pen {i : Nat} {ar : TA} {E : XK} {tw : TS} {nx bk ct : Nm → Prop} {rt : Dt → Prop} (hi : (δ[i]?).isSome = true) (ho : δ.any isOwn = false) (h : WA K ar δ fun es => ∃ ns : List Int, es = ns.map (fun n => .dat (.int n)) ∧ ∃ n, ns = [n])
    (hw : WS K tw ((δ.map DW.unpen).set i .pen) (fun δ' => nx (δ'.map DW.unpen)) rt (fun δ' => bk (δ'.map DW.unpen)) (fun δ' => ct (δ'.map DW.unpen))) : WS K (tSeq (tAsg (tCall sp_pen [] E ar) (gName i)) tw) δ nx rt bk ct := fun ω σ G H D s n r b c => by
  refine run_ints h s fun ns G1 H1 g1 s1 ⟨m, e1⟩ => ?_
  subst e1
  refine ⟨m, rfl, fun p x y z hp y0 y1 => ?_⟩
  have hg := s1.ok.1.free hp
  have ap := s1.ok.apart hp
  have k1 : Ok ((p, PenS) :: ω) G1 (upd H1 p (.lst [.int x, .int y, .int z])) := (s1.ok.put hg ap).push hg upd_same ⟨x, y, z, rfl, y0, y1⟩ ap
  have noown : ∀ (j : Nat) (d : Dt), ((δ.map DW.unpen).set i .pen)[j]? = some (.own d) → False := fun j d hj => by
    by_cases hij : i = j
    · subst hij
      have hl : i < (δ.map DW.unpen).length := by rw [List.length_map]; exact lt_of_isSome hi
      rw [List.getElem?_set_self hl] at hj
      cases hj
    · rw [List.getElem?_set_ne hij] at hj
      exact List.any_eq_false.mp ho _ (List.mem_of_getElem? (unpen_own hj)) rfl
  have s2 : Std K ((p, PenS) :: ω) G1 (upd H1 p (.lst [.int x, .int y, .int z])) ((δ.map DW.unpen).set i .pen) (σ.set i (some (.ref p))) :=
    ⟨(env_unpen s1.env).set (e := .pen) ⟨p, rfl, List.mem_cons_self⟩, k1, fun j d hj => (noown j d hj).elim, fun j l d _ hj _ => (noown j d hj).elim⟩
  refine hw _ _ G1 _ D s2 ?_ ?_ ?_ ?_
  · exact fun σ' δ' G' H' g' s' h' => n σ' _ G' H' (g1.trans g') s'.unpen h'
  · exact fun v d G' H' g' k' rv h' => r v d G' H' (g1.trans g') k'.pop.1 rv h'
  · exact fun σ' δ' G' H' g' s' h' => b σ' _ G' H' (g1.trans g') s'.unpen h'
  · exact fun σ' δ' G' H' g' s' h' => c σ' _ G' H' (g1.trans g') s'.unpen h'
end
theorem wa_scr {K : PySem.W.Frag} {δ : Nm} {ar : TA} {Ra : List E → Prop} {i : Nat} {ns : List Int} (hp : δ[i]? = some (.scr ns)) (h : WA K ar δ fun es => Ra (.scr ns :: es)) : WA K (tCons (tVar i) ar) δ Ra := fun ω σ G H Q e k q => by
  obtain ⟨s, h1, p, h2, h3⟩ := e i _ hp
  subst h2
  exact ⟨.ref p, h1, h ω σ G H _ e k fun vs es G2 H2 g2 k2 r2 h2 => q (.ref p :: vs) (.scr ns :: es) G2 H2 g2 k2 (.cons ⟨p, rfl, g2.seq h3⟩ r2) h2⟩
theorem cut_len (xs : List Dt) (lo hi : Option Int) : (DW.cutD xs lo hi).length ≤ xs.length := by
  unfold DW.cutD
  rw [List.length_take, List.length_drop]
  omega
/-- the cells that a law goes through are ints -/
theorem ints_cells {c0 : Int} {ns : List Int} {lo hi : Option Int} {i : Nat} {x : Dt} (h : ([PyData.int c0] ++ DW.cutD (ns.map PyData.int) lo hi)[i]? = some x) : ∃ c : Int, x = .int c := by
  have hm := List.mem_of_getElem? h
  rcases List.mem_append.mp hm with z | z
  · exact ⟨c0, List.mem_singleton.mp z⟩
  · obtain ⟨c, _, e⟩ := List.mem_map.mp (List.mem_of_mem_drop (List.mem_of_mem_take z))
    exact ⟨c, e.symm⟩

/-! ### data that can be shown -/
def Shows (d : Dt) : Prop := d.canLay0 = true ∧ d.showable = true ∧ d.depth ≤ 64 ∧ d.shown.length ≤ sizeLine
/-! ### patterns as data -/
def patD (n : Int) (ms : List Int) : Dt := .tuple [.int n, .tuple (ms.map .int)]
/-- the slots of turns 0, 1, .. below k, of a pattern of period n -/
def rep (n : Int) (ms : List Int) : Nat → List Int
  | 0 => []
  | k + 1 => rep n ms k ++ ms.map fun s => (k : Int) * n + s
theorem rep_len (n : Int) (ms : List Int) : ∀ k, (rep n ms k).length = k * ms.length
  | 0 => by simp [rep]
  | k + 1 => by rw [rep, List.length_append, rep_len n ms k, List.length_map, Nat.succ_mul]
/-- some slots of a period, ascending, not none and not all -/
structure Beat (n : Int) (ms : List Int) : Prop where
  n0 : 2 ≤ n
  n1 : n ≤ 60
  inn : ∀ s ∈ ms, 0 ≤ s ∧ s < n
  asc : ms.Pairwise (· < ·)
  ne : ms ≠ []
  few : (ms.length : Int) < n
theorem patD_inj {n m : Int} {ms ks : List Int} (h : patD n ms = patD m ks) : n = m ∧ ms = ks := by
  unfold patD at h
  injection h with h
  injection h with h1 h2
  injection h1 with h1
  injection h2 with h2
  injection h2 with h2
  exact ⟨h1, (List.map_inj_right (fun a b h => by injection h)).mp h2⟩
theorem es1 {a b : Dt} (h : [E.dat a] = [E.dat b]) : a = b := by
  injection h with h
  injection h
theorem es2 {a b c d : Dt} (h : [E.dat a, E.dat b] = [E.dat c, E.dat d]) : a = c ∧ b = d := by
  injection h with h1 h2
  injection h1 with h1
  exact ⟨h1, es1 h2⟩
theorem es3 {a b c d x y : Dt} (h : [E.dat a, E.dat b, E.dat x] = [E.dat c, E.dat d, E.dat y]) : a = c ∧ b = d ∧ x = y := by
  injection h with h1 h2
  injection h1 with h1
  exact ⟨h1, es2 h2⟩
theorem es2p {b d : Dt} (h : [E.pen, E.dat b] = [E.pen, E.dat d]) : b = d := by
  injection h with h1 h2
  exact es1 h2
theorem int_inj {i j : Int} (h : PyData.int i = .int j) : i = j := by injection h
theorem asc_len : ∀ {ms : List Int} {lo hi : Int}, ms.Pairwise (· < ·) → (∀ s ∈ ms, lo ≤ s ∧ s < hi) → lo ≤ hi → (ms.length : Int) ≤ hi - lo
  | [], lo, hi, _, _, h => by show ((0 : Nat) : Int) ≤ _; omega
  | m :: ms, lo, hi, hp, hb, h => by
    have h1 := hb m List.mem_cons_self
    have h2 := List.pairwise_cons.mp hp
    have ih := asc_len (lo := m + 1) (hi := hi) h2.2 (fun s hs => ⟨h2.1 s hs, (hb s (List.mem_cons_of_mem _ hs)).2⟩) (by omega)
    rw [List.length_cons]
    omega
theorem pw_snoc {ms : List Int} {x : Int} (h : ms.Pairwise (· < ·)) (hx : ∀ s ∈ ms, s < x) : (ms ++ [x]).Pairwise (· < ·) := by
  rw [List.pairwise_append]
  exact ⟨h, List.pairwise_singleton _ _, fun a ha b hb => by rw [List.mem_singleton.mp hb]; exact hx a ha⟩
theorem asc_ext : ∀ {xs ys : List Int}, xs.Pairwise (· < ·) → ys.Pairwise (· < ·) → (∀ a, a ∈ xs ↔ a ∈ ys) → xs = ys
  | [], [], _, _, _ => rfl
  | [], y :: ys, _, _, h => absurd ((h y).mpr List.mem_cons_self) (by simp)
  | x :: xs, [], _, _, h => absurd ((h x).mp List.mem_cons_self) (by simp)
  | x :: xs, y :: ys, hx, hy, h => by
    obtain ⟨hx1, hx2⟩ := List.pairwise_cons.mp hx
    obtain ⟨hy1, hy2⟩ := List.pairwise_cons.mp hy
    have e : x = y := by
      rcases List.mem_cons.mp ((h x).mp List.mem_cons_self) with z | z
      · exact z
      · rcases List.mem_cons.mp ((h y).mpr List.mem_cons_self) with w | w
        · exact w.symm
        · have := hx1 y w
          have := hy1 x z
          omega
    subst e
    rw [asc_ext hx2 hy2 fun a => ⟨fun ha => ?_, fun ha => ?_⟩]
    · rcases List.mem_cons.mp ((h a).mp (List.mem_cons_of_mem _ ha)) with z | z
      · have := hx1 a ha
        omega
      · exact z
    · rcases List.mem_cons.mp ((h a).mpr (List.mem_cons_of_mem _ ha)) with z | z
      · have := hy1 a ha
        omega
      · exact z
theorem rep_in {n : Int} {ms : List Int} (n0 : 0 < n) (h : ∀ s ∈ ms, 0 ≤ s ∧ s < n) : ∀ k : Nat, ∀ s ∈ rep n ms k, 0 ≤ s ∧ s < (k : Int) * n
  | 0, s, hs => nomatch hs
  | k + 1, s, hs => by
    have e : ((k + 1 : Nat) : Int) * n = (k : Int) * n + n := by rw [Int.natCast_succ, Int.add_mul, Int.one_mul]
    have nn : 0 ≤ (k : Int) * n := Int.mul_nonneg (by omega) (by omega)
    rcases List.mem_append.mp hs with z | z
    · have := rep_in n0 h k s z
      omega
    · obtain ⟨m, hm, rfl⟩ := List.mem_map.mp z
      have := h m hm
      omega
theorem rep_asc {n : Int} {ms : List Int} (n0 : 0 < n) (h : ∀ s ∈ ms, 0 ≤ s ∧ s < n) (hp : ms.Pairwise (· < ·)) : ∀ k : Nat, (rep n ms k).Pairwise (· < ·)
  | 0 => .nil
  | k + 1 => by
    show (rep n ms k ++ ms.map fun s => (k : Int) * n + s).Pairwise (· < ·)
    rw [List.pairwise_append]
    refine ⟨rep_asc n0 h hp k, ?_, fun a ha b hb => ?_⟩
    · rw [List.pairwise_map]
      exact hp.imp fun hab => by omega
    · obtain ⟨m, hm, rfl⟩ := List.mem_map.mp hb
      have h1 := rep_in n0 h k a ha
      have h2 := h m hm
      omega
/-- a pattern, its period times a number -/
theorem Beat.rep {n : Int} {ms : List Int} (b : Beat n ms) {k : Nat} (hk : 1 ≤ k) (h60 : (k : Int) * n ≤ 60) : Beat ((k : Int) * n) (rep n ms k) := by
  have n0 := b.n0
  have k1 : n ≤ (k : Int) * n := by
    have : 1 * n ≤ (k : Int) * n := Int.mul_le_mul_of_nonneg_right (by omega) (by omega)
    omega
  refine ⟨by omega, h60, rep_in (by omega) b.inn k, rep_asc (by omega) b.inn b.asc k, fun z => ?_, ?_⟩
  · have l := rep_len n ms k
    rw [z] at l
    have hm : 0 < ms.length := List.length_pos_iff.mpr b.ne
    have : 0 < k * ms.length := Nat.mul_pos (by omega) hm
    simp at l
    omega
  · rw [rep_len, Int.natCast_mul]
    have := b.few
    exact Int.mul_lt_mul_of_pos_left this (by omega)
end DW
namespace DW
open PySem PySem.Spec PyProof.Rows L2
variable [Tabl]
/-! ### pairs of names, least and sorted ints, a tuple of a range with a step -/
section
variable {K : PySem.W.Frag} {δ : Nm} {ar : TA} {nx bk ct : Nm → Prop} {rt : Dt → Prop} {R : Dt → Prop}
/-- x, y = a, b -/
theorem ws_par {i j : Nat} (h : WA K ar δ fun es => ∃ a b, es = [.dat a, .dat b] ∧ nx ((δ.set i (.dat a)).set j (.dat b))) : WS K (tPar i j ar) δ nx rt bk ct := fun ω σ G H D s n r b c =>
  run_wg (Rel := fun G (vs : List V) (p : Dt × Dt) => ∃ u v, vs = [u, v] ∧ Rp K G u p.1 ∧ Rp K G v p.2) (R := fun p => nx ((δ.set i (.dat p.1)).set j (.dat p.2))) (t := fun σ H Q => ar σ H Q)
    (fun ω σ G H Q e k q => h ω σ G H Q e k fun vs es G' H' g k' ra ⟨a, b, e1, e2⟩ => by
      subst e1
      obtain ⟨u, v, z1, z2, z3⟩ := rel2 ra
      exact q vs (a, b) G' H' g k' ⟨u, v, z1, z2, z3⟩ e2) s fun vs p G1 H1 g1 s1 ⟨u, v, e1, r1, r2⟩ q => ⟨u, v, e1, n _ _ G1 H1 g1 ((s1.set r1).set r2) q⟩
theorem b_min {ns : List Int} (hne : ns ≠ []) (r : ∀ m, m ∈ ns → (∀ y ∈ ns, m ≤ y) → R (.int m)) : CbD K (rMin K) [.dat (.list (ns.map .int))] R := fun ω G H vs Q k h q => by
  obtain ⟨v, rfl, rv⟩ := rel1 h
  obtain ⟨a, xs, rfl, hs, ra⟩ := rv.list_inv
  obtain rfl := ra.ints
  exact ⟨a, ns, rfl, .inl (.inl (k.1 _ _ hs)), List.length_pos_iff.mpr hne, fun m h1 h2 => q _ _ G H (Same.refl G) k (.int m) (r m h1 h2)⟩
theorem b_max {ns : List Int} (hne : ns ≠ []) (r : ∀ m, m ∈ ns → (∀ y ∈ ns, y ≤ m) → R (.int m)) : CbD K (L2.rMax K) [.dat (.list (ns.map .int))] R := fun ω G H vs Q k h q => by
  obtain ⟨v, rfl, rv⟩ := rel1 h
  obtain ⟨a, xs, rfl, hs, ra⟩ := rv.list_inv
  obtain rfl := ra.ints
  exact ⟨a, ns, rfl, .inl (.inl (k.1 _ _ hs)), List.length_pos_iff.mpr hne, fun m h1 h2 => q _ _ G H (Same.refl G) k (.int m) (r m h1 h2)⟩
theorem b_sorted {ns : List Int} (hl : ns.length < 64) (r : ∀ ms : List Int, ms.Perm ns → ms.Pairwise (· ≤ ·) → R (.list (ms.map .int))) : CbD K (rSorted K) [.dat (.list (ns.map .int))] R := fun ω G H vs Q k h q => by
  obtain ⟨v, rfl, rv⟩ := rel1 h
  obtain ⟨a, xs, rfl, hs, ra⟩ := rv.list_inv
  obtain rfl := ra.ints
  exact ⟨a, ns, rfl, .inl (.inl (k.1 _ _ hs)), hl, fun ms p h1 h2 hp => q_lst k (RpAll.of_ints ms) q (r ms h1 h2) p hp⟩
end
section
variable {X : Cx} {a b c e : Expr} {ta : TA}
/-- an expression that makes a range with a step -/
def PRs (X : Cx) (e : Expr) (t : L2.St → Hp → (Int → Int → Int → Hp → Prop) → Prop) : Prop :=
  ∀ (pins : List (Addr × Obj)) (s : Shared) (σ : L2.St) (H : Hp) (Q : Int → Int → Int → Hp → Prop), Inv X pins σ H s → t σ H Q →
    wpAny (model X.prog X.w) X.A (eval e X.env) (fun x s' => ∃ r a b c t u v H', x = .ref r ∧ IsRange s'.heap r a b c t u v ∧ Inv X pins σ H' s' ∧ Q a b c H') X.xe s
def tRs (ta : TA) : L2.St → Hp → (Int → Int → Int → Hp → Prop) → Prop := fun σ H Q => ta σ H fun vs H1 => ∃ i j c : Int, vs = [.int i, .int j, .int c] ∧ (c ≠ 0 ∧ c.natAbs < 1073741824) ∧ Q i j c H1
theorem prs_3 {p pos : Pos} (hg : Gl X "range") (hm : X.mg "range" = none) (ha : PA X [a, b, c] ta)
    (hs : starEach [a, b, c] X.env = (false, eval a X.env) :: starEach [b, c] X.env := by rfl) (hpl : (backTo pos (starEach [b, c] X.env)).any (·.1) = false := by rfl) : PRs X (.Call (.Name "range" p) [a, b, c] [] pos) (tRs ta) := by
  intro pins s σ H Q I h
  refine Call_ (ld_blt I hg hm boot_range (PyProof.Rows.callWith_type1 (thn (ha.run pos pins s σ H _ I h) fun us s1 ⟨vs, H1, I1, r1, i, j, k, e1, c1, q1⟩ => ?_) hs hpl))
  subst e1
  cases r1 with
  | cons z1 r1 =>
    cases r1 with
    | cons z2 r1 =>
      cases r1 with
      | cons z3 r1 =>
        cases r1
        obtain ⟨t1, rfl⟩ := z1
        obtain ⟨t2, rfl⟩ := z2
        obtain ⟨t3, rfl⟩ := z3
        exact call_range_3 c1.1 ⟨_, i, j, k, _, _, _, H1, rfl, IsRange.new _ _ _ _ _ _ _, I1.kept fun b u e => Heap.get?_push_of_some _ e, q1⟩ (.inl (PyProof.noPylong_small c1.2))
def stepI (a c : Int) (n : Nat) : List Int := (List.range n).map fun i => a + (i : Nat) * c
def RsOk (a b c : Int) (n : Nat) : Prop := Builtin.Range.small a b c = true ∧ Builtin.Range.rangeSize a b c = n ∧ n ≤ 2 ^ 24
def tTupRs (te : L2.St → Hp → (Int → Int → Int → Hp → Prop) → Prop) : TE := fun σ H Q => te σ H fun a b c H1 => ∃ n, RsOk a b c n ∧ ∀ q, H1 q = none → Q (.ref q) (upd H1 q (.tup ((stepI a c n).map V.int)))
theorem pe_tupRs {te : L2.St → Hp → (Int → Int → Int → Hp → Prop) → Prop} {p pos : Pos} (hc : X.calm = true) (hg : Gl X "tuple") (hm : X.mg "tuple" = none) (he : PRs X e te) (na : starEach [e] X.env = (false, eval e X.env) :: starEach [] X.env := by rfl) : PE X (.Call (.Name "tuple" p) [e] [] pos) (tTupRs te) := by
  refine ⟨fun pins s σ H Q I h => ?_⟩
  refine Call_ (ld_blt I hg hm boot_tuple (PyProof.Rows.callWith_type1 (args_cons (thn (he pins s σ H _ I h) fun x s1 ⟨r, a, b, c, t, u, v, H1, ex, hr, I1, n, ok, q⟩ => args_nil ?_) na) na))
  subst ex
  obtain ⟨b1, b2, b3⟩ := ok
  refine call_tuple_range (n := n) (I1.ok.hd hc) hr b1 b2 b3 fun h' tk acc hk hi => ?_
  have I2 : Inv X pins σ H1 { s1 with heap := h', toks := tk } := I1.kept hk
  have hlen : ((stepI a c n).map V.int).length = n := by
    unfold stepI
    rw [List.length_map, List.length_map, List.length_range]
  have hv : Vals ((stepI a c n).map V.int) acc.toList := by
    have e1 : acc.toList.length = n := by rw [Array.length_toList]; exact hi.1
    have e2 : (stepI a c n).map V.int = (List.range acc.toList.length).map fun i => V.int (a + (i : Nat) * c) := by
      unfold stepI
      rw [List.map_map, e1]
      rfl
    rw [e2]
    refine vals_of_get acc.toList _ fun j u hj => ?_
    obtain ⟨t', rfl⟩ := hi.2 j u (by rw [← hj, Array.getElem?_toList])
    exact ⟨t', rfl⟩
  refine ⟨.ref h'.objs.size, upd H1 h'.objs.size (.tup ((stepI a c n).map V.int)), I2.laid (t' := tk) (fun c o e => Heap.get?_push_of_some _ e) (Nat.le_refl _) (show ObjOk X.prog X.w _ _ _ (.tup ((stepI a c n).map V.int)) from ⟨?_, acc.toList, hv, ?_⟩), rfl, q _ (I2.hok.fresh (Nat.le_refl _))⟩
  · rw [hlen, sizeLine_eq]
    omega
  · rw [Array.toArray_toList]
    exact IsTup.new _ _
end
section
variable {K : PySem.W.Frag} {δ : Nm} {ar : TA} {R : Dt → Prop}
theorem w_tupRs (h : WA K ar δ fun es => ∃ (i j c : Int) (n : Nat), es = [.dat (.int i), .dat (.int j), .dat (.int c)] ∧ (c ≠ 0 ∧ c.natAbs < 1073741824) ∧ RsOk i j c n ∧ R (.tuple ((stepI i c n).map .int))) : W K (tTupRs (tRs ar)) δ R := fun ω σ G H Q e k q =>
  h ω σ G H _ e k fun vs es G1 H1 g1 k1 r ⟨i, j, c, n, e1, h1, h2, h3⟩ => by
    subst e1
    cases r with
    | cons a b =>
      obtain ⟨v1, z1, y1⟩ := a
      cases z1
      obtain ⟨v2, v3, rfl, y2, y3⟩ := rel2 b
      obtain rfl := y1.int_inv
      obtain rfl := y2.int_inv
      obtain rfl := y3.int_inv
      exact ⟨i, j, c, rfl, h1, n, h2, q_tup k1 (RpAll.of_ints _) (fun w d G2 H2 g2 k2 r2 p2 => q w d G2 H2 (g1.trans g2) k2 r2 p2) h3⟩
end

/-! ### data that is short enough to be shown -/
structure Tidy (d : Dt) (p w : Nat) : Prop where
  lay : d.canLay0 = true
  its : d.intsShort 13 = true
  shw : d.showable = true
  dep : d.depth ≤ p
  wgt : d.weight ≤ w
structure TidyAll (ds : List Dt) (p w : Nat) : Prop where
  lay : PyData.canLayAll0 ds = true
  its : PyData.intsShortAll 13 ds = true
  shw : PyData.showableAll ds = true
  dep : PyData.depthAll ds ≤ p
  wgt : PyData.weightAll ds ≤ w
theorem Tidy.mono {d : Dt} {p w p' w' : Nat} (h : Tidy d p w) (hp : p ≤ p') (hw : w ≤ w') : Tidy d p' w' := ⟨h.lay, h.its, h.shw, Nat.le_trans h.dep hp, Nat.le_trans h.wgt hw⟩
theorem TidyAll.mono {d : List Dt} {p w p' w' : Nat} (h : TidyAll d p w) (hp : p ≤ p') (hw : w ≤ w') : TidyAll d p' w' := ⟨h.lay, h.its, h.shw, Nat.le_trans h.dep hp, Nat.le_trans h.wgt hw⟩
theorem Tidy.shows {d : Dt} {p w : Nat} (h : Tidy d p w) (hp : p ≤ 64) (hw : w ≤ 1048576) : Shows d := by
  refine ⟨h.lay, h.shw, Nat.le_trans h.dep hp, PyData.shown_fits_of_layable0 (B := 13) (by decide) (by decide) ?_ h.its⟩
  show (d.canLay0 && decide (d.depth ≤ 64) && decide (d.weight ≤ 2 ^ 20)) = true
  rw [h.lay, decide_eq_true (Nat.le_trans h.dep hp), decide_eq_true (Nat.le_trans h.wgt hw)]
  rfl
theorem tidy_int {i : Int} (h : i.natAbs < 1000000000000) : Tidy (.int i) 0 40 := by
  have hl : i.natAbs ≠ 0 → i.natAbs.log2 < 40 := fun h0 => (Nat.log2_lt h0).mpr (Nat.lt_of_lt_of_le h (by decide))
  refine ⟨rfl, ?_, ?_, Nat.le_refl _, ?_⟩
  · show decide ((PyData.shown (.int i)).length ≤ 13) = true
    exact decide_eq_true (PyData.shown_int_le h)
  · show decide (i.natAbs.log2 < 1920) = true
    refine decide_eq_true ?_
    by_cases h0 : i.natAbs = 0
    · rw [h0]
      decide
    · exact Nat.lt_trans (hl h0) (by decide)
  · show (if i == 0 then 0 else i.natAbs.log2 + 1) ≤ 40
    split
    · exact Nat.zero_le _
    · next h1 =>
      have h0 : i.natAbs ≠ 0 := by
        simp at h1
        omega
      exact hl h0
theorem tidy_bool (b : Bool) : Tidy (.bool b) 0 0 := ⟨rfl, rfl, rfl, Nat.le_refl _, Nat.le_refl _⟩
theorem tidy_none : Tidy .none 0 0 := ⟨rfl, rfl, rfl, Nat.le_refl _, Nat.le_refl _⟩
theorem tidyAll_nil {p : Nat} : TidyAll [] p 0 := ⟨rfl, rfl, rfl, Nat.zero_le _, Nat.le_refl _⟩
theorem tidyAll_cons {d : Dt} {ds : List Dt} {p w w' : Nat} (h : Tidy d p w) (r : TidyAll ds p w') : TidyAll (d :: ds) p (w + 1 + w') := by
  refine ⟨?_, ?_, ?_, ?_, ?_⟩
  · rw [PyData.canLayAll0, h.lay, r.lay]
    rfl
  · rw [PyData.intsShortAll, h.its, r.its]
    rfl
  · rw [PyData.showableAll, h.shw, r.shw]
    rfl
  · rw [PyData.depthAll]
    exact Nat.max_le.mpr ⟨h.dep, r.dep⟩
  · rw [PyData.weightAll]
    have := h.wgt
    have := r.wgt
    omega
theorem tidy_list {ds : List Dt} {p w : Nat} (h : TidyAll ds p w) : Tidy (.list ds) (p + 1) w := ⟨by rw [PyData.canLay0]; exact h.lay, by rw [PyData.intsShort]; exact h.its, by rw [PyData.showable]; exact h.shw, by rw [PyData.depth]; exact Nat.succ_le_succ h.dep, by rw [PyData.weight]; exact h.wgt⟩
theorem tidy_tup {ds : List Dt} {p w : Nat} (h : TidyAll ds p w) : Tidy (.tuple ds) (p + 1) w := ⟨by rw [PyData.canLay0]; exact h.lay, by rw [PyData.intsShort]; exact h.its, by rw [PyData.showable]; exact h.shw, by rw [PyData.depth]; exact Nat.succ_le_succ h.dep, by rw [PyData.weight]; exact h.wgt⟩
theorem tidyAll_of {p w : Nat} : ∀ {ds : List Dt}, (∀ d ∈ ds, Tidy d p w) → TidyAll ds p (ds.length * (w + 1))
  | [], _ => (tidyAll_nil (p := p)).mono (Nat.le_refl _) (Nat.zero_le _)
  | d :: ds, h => (tidyAll_cons (h d List.mem_cons_self) (tidyAll_of fun c hc => h c (List.mem_cons_of_mem _ hc))).mono (Nat.le_refl _) (by rw [List.length_cons, Nat.succ_mul]; omega)
theorem tidy_ints {ns : List Int} (h : ∀ n ∈ ns, n.natAbs < 1000000000000) : TidyAll (ns.map .int) 0 (ns.length * 41) := by
  have z := tidyAll_of (ds := ns.map .int) (p := 0) (w := 40) fun d hd => by
    obtain ⟨n, hn, rfl⟩ := List.mem_map.mp hd
    exact tidy_int (h n hn)
  rw [List.length_map] at z
  exact z
/-- a pattern, and what is as small -/
theorem tidy_pat {n : Int} {ms : List Int} (h0 : 0 ≤ n) (h1 : n ≤ 60) (hm : ∀ s ∈ ms, 0 ≤ s ∧ s < 60) (hl : ms.length ≤ 60) : Tidy (patD n ms) 2 2600 := by
  have h2 := tidy_tup (tidy_ints (ns := ms) fun s hs => by have := hm s hs; omega)
  refine (tidy_tup (tidyAll_cons ((tidy_int (i := n) (by omega)).mono (Nat.zero_le _) (Nat.le_refl _)) (tidyAll_cons h2 tidyAll_nil))).mono (Nat.le_refl _) (by omega)
end DW
namespace DW
open PySem PySem.Spec PyProof.Rows L2
variable [Tabl]
/-! ### comprehensions over data of one make -/
section
variable {K : PySem.W.Frag} {δ : Nm} {te : TE} {tt : TT} {R : Dt → Prop}
/-- [f(x) for x in ..], where the items are g of something -/
theorem w_mapP {wi : TI} {j : Nat} {vs : List Nat} {α : Type} (g f : α → Dt) (hj : j ∈ vs) (h : WI K wi δ fun xs => ∃ ps : List α, xs = ps.map g ∧ ps.length ≤ 1000000 ∧ (∀ p, p ∈ ps → W K te ((wipeE (δ.map blind) vs).set j (.dat (g p))) fun y => y = f p) ∧ R (.list (ps.map f))) :
    W K (tLc wi (gName j) tYes te vs) δ R := by
  refine w_lc (gin_name hj) gm_name fun ω σ G H Q e k q => h ω σ G H Q e k fun J xs G' H' g' k' gv ⟨ps, e1, hz, ht, hr⟩ => q J xs G' H' g' k' gv ⟨by rw [e1, List.length_map]; exact hz, fun i acc => acc = (ps.take i).map f, rfl, fun i x acc hx p => ?_, fun acc p => ?_⟩
  · subst e1
    rw [List.getElem?_map] at hx
    cases hp : ps[i]? with
    | none => rw [hp] at hx; cases hx
    | some y =>
      rw [hp] at hx
      cases hx
      refine g_name (wt_yes (iteT (w_mono (ht y (List.mem_of_getElem? hp)) fun y' e => ?_)))
      subst e p
      rw [take_snoc hp, List.map_append]
      rfl
  · subst p e1
    rw [List.length_map, List.take_length]
    exact hr
/-- [f(x) for x in .. if p(x)], where the items are g of something -/
theorem w_filterP {wi : TI} {j : Nat} {vs : List Nat} {α : Type} (g : α → Dt) (t : α → Bool) (f : α → Dt) (hj : j ∈ vs) (h : WI K wi δ fun xs => ∃ ps : List α, xs = ps.map g ∧ ps.length ≤ 1000000 ∧
    (∀ p, p ∈ ps → WT K tt ((wipeE (δ.map blind) vs).set j (.dat (g p))) fun b => b = t p ∧ (t p = true → W K te ((wipeE (δ.map blind) vs).set j (.dat (g p))) fun y => y = f p)) ∧ R (.list ((ps.filter t).map f))) :
    W K (tLc wi (gName j) tt te vs) δ R := by
  refine w_lc (gin_name hj) gm_name fun ω σ G H Q e k q => h ω σ G H Q e k fun J xs G' H' g' k' gv ⟨ps, e1, hz, ht, hr⟩ => q J xs G' H' g' k' gv ⟨by rw [e1, List.length_map]; exact hz, fun i acc => acc = ((ps.take i).filter t).map f, rfl, fun i x acc hx pa => ?_, fun acc pa => ?_⟩
  · subst e1
    rw [List.getElem?_map] at hx
    cases hp : ps[i]? with
    | none => rw [hp] at hx; cases hx
    | some y =>
      rw [hp] at hx
      cases hx
      refine g_name (wt_mono (ht y (List.mem_of_getElem? hp)) fun b ⟨eb, hb⟩ => ?_)
      subst eb
      cases hy : t y with
      | true =>
        rw [if_pos rfl]
        refine w_mono (hb hy) fun y' e => ?_
        subst e pa
        rw [take_snoc hp, List.filter_append, List.map_append, List.filter_cons, if_pos hy]
        rfl
      | false =>
        rw [if_neg Bool.false_ne_true]
        subst pa
        rw [take_snoc hp, List.filter_append, List.map_append, List.filter_cons, if_neg (by rw [hy]; exact Bool.false_ne_true)]
        show _ = _ ++ []
        rw [List.append_nil]
  · subst pa e1
    rw [List.length_map, List.take_length]
    exact hr
end
/-! ### ints from .. on -/
def upI (lo : Int) (k : Nat) : List Int := (List.range k).map fun i => lo + (i : Nat)
theorem upTo_ints (lo : Int) (k : Nat) : upTo lo k = (upI lo k).map .int := by
  unfold upTo upI
  rw [List.map_map]
  rfl
theorem upI_len (lo : Int) (k : Nat) : (upI lo k).length = k := by
  unfold upI
  rw [List.length_map, List.length_range]
theorem mem_upI {lo : Int} {k : Nat} {t : Int} : t ∈ upI lo k ↔ lo ≤ t ∧ t < lo + k := by
  unfold upI
  rw [List.mem_map]
  refine ⟨fun ⟨i, hi, e⟩ => ?_, fun ⟨h1, h2⟩ => ⟨(t - lo).toNat, List.mem_range.mpr (by omega), by omega⟩⟩
  have := List.mem_range.mp hi
  omega
theorem upI_asc (lo : Int) (k : Nat) : (upI lo k).Pairwise (· < ·) := by
  unfold upI
  rw [List.pairwise_map]
  exact List.pairwise_lt_range.imp fun h => by omega
theorem upI_get {lo : Int} {k i : Nat} (h : i < k) : (upI lo k)[i]? = some (lo + (i : Nat)) := by
  unfold upI
  rw [List.getElem?_map, List.getElem?_range h]
  rfl
theorem atI_up {k : Nat} {t : Int} (f : Int → Dt) (h0 : 0 ≤ t) (h1 : t < k) : atI ((upI 0 k).map f) t = some (f t) := by
  obtain ⟨i, rfl⟩ := Int.eq_ofNat_of_zero_le h0
  have hi : i < k := by omega
  have hn : ((upI 0 k).map f)[i]? = some (f i) := by
    rw [List.getElem?_map, upI_get hi]
    show some (f (0 + (i : Int))) = _
    rw [Int.zero_add]
  unfold atI
  have e : ixN ((upI 0 k).map f).length (i : Int) = some i := by
    rw [List.length_map, upI_len]
    unfold ixN
    simp [hi]
  rw [e]
  exact hn
theorem atI_zero (d : Dt) (ds : List Dt) : atI (d :: ds) 0 = some d := by
  unfold atI
  have e : ixN (d :: ds).length 0 = some 0 := by
    unfold ixN
    simp
  rw [e]
  rfl
theorem eqv_bool (a b : Bool) : PyData.eqv (.bool a) (.bool b) = decide (a = b) := by
  cases a <;> cases b <;> rfl
/-! ### turning -/
theorem em_add (n x b : Int) : (x % n + b) % n = (x + b) % n := by
  rw [Int.emod_def x n, show x - n * (x / n) + b = x + b + n * (-(x / n)) by rw [Int.mul_neg]; omega, Int.add_mul_emod_self_left]
/-- turning by m changes nothing -/
def Fix (n : Int) (ms : List Int) (m : Int) : Prop := ∀ t, 0 ≤ t → t < n → (t % n ∈ ms ↔ (t + m) % n ∈ ms)
def turnS (n : Int) (ms : List Int) (b : Int) : List Int := (upI 0 n.toNat).filter fun t => decide ((t - b) % n ∈ ms)
section
variable {n : Int} {ms : List Int}
theorem mem_turnS (n0 : 0 < n) {b t : Int} : t ∈ turnS n ms b ↔ (0 ≤ t ∧ t < n) ∧ (t - b) % n ∈ ms := by
  unfold turnS
  rw [List.mem_filter, mem_upI, decide_eq_true_iff]
  constructor
  · rintro ⟨⟨h1, h2⟩, h3⟩
    exact ⟨⟨h1, by omega⟩, h3⟩
  · rintro ⟨⟨h1, h2⟩, h3⟩
    exact ⟨⟨h1, by omega⟩, h3⟩
theorem turnS_asc (n : Int) (ms : List Int) (b : Int) : (turnS n ms b).Pairwise (· < ·) := (upI_asc _ _).filter _
theorem turn_sorted (hb : Beat n ms) {b : Int} {L : List Int} (hp : L.Perm (ms.map fun s => (s + b) % n)) (hs : L.Pairwise (· ≤ ·)) : L = turnS n ms b := by
  have n0 : 0 < n := by have := hb.n0; omega
  have nd : (ms.map fun s => (s + b) % n).Pairwise (· ≠ ·) := by
    rw [List.pairwise_map]
    refine List.Pairwise.imp_of_mem (fun {x y} hx hy hxy e => ?_) hb.asc
    have h1 := hb.inn x hx
    have h2 := hb.inn y hy
    have e1 : ((x + b) % n + (-b)) % n = ((y + b) % n + (-b)) % n := by rw [e]
    rw [em_add, em_add, show x + b + -b = x by omega, show y + b + -b = y by omega, Int.emod_eq_of_lt h1.1 h1.2, Int.emod_eq_of_lt h2.1 h2.2] at e1
    omega
  have nd2 : L.Pairwise (· ≠ ·) := (hp.symm.pairwise_iff (fun {x y} h => Ne.symm h)).mp nd
  have asc : L.Pairwise (· < ·) := (hs.and nd2).imp fun ⟨h1, h2⟩ => by omega
  refine asc_ext asc (turnS_asc n ms b) fun t => ?_
  rw [hp.mem_iff, mem_turnS n0, List.mem_map]
  constructor
  · rintro ⟨s, hs, rfl⟩
    refine ⟨⟨Int.emod_nonneg _ (by omega), Int.emod_lt_of_pos _ n0⟩, ?_⟩
    have h1 := hb.inn s hs
    rw [Int.sub_eq_add_neg, em_add, show s + b + -b = s by omega, Int.emod_eq_of_lt h1.1 h1.2]
    exact hs
  · rintro ⟨⟨h1, h2⟩, h3⟩
    refine ⟨_, h3, ?_⟩
    rw [em_add, show t - b + b = t by omega, Int.emod_eq_of_lt h1 h2]
theorem turn_fix (hb : Beat n ms) {b : Int} : turnS n ms b = ms ↔ Fix n ms b := by
  have n0 : 0 < n := by have := hb.n0; omega
  constructor
  · intro h t h0 h1
    have q := mem_turnS (ms := ms) n0 (b := b) (t := (t + b) % n)
    rw [h] at q
    rw [q, Int.sub_eq_add_neg, em_add, show t + b + -b = t by omega]
    exact ⟨fun z => ⟨⟨Int.emod_nonneg _ (by omega), Int.emod_lt_of_pos _ n0⟩, z⟩, fun z => z.2⟩
  · intro h
    refine asc_ext (turnS_asc n ms b) hb.asc fun t => ?_
    rw [mem_turnS n0]
    have q : 0 ≤ t → t < n → ((t - b) % n ∈ ms ↔ t ∈ ms) := fun h0 h1 => by
      have z := h ((t - b) % n) (Int.emod_nonneg _ (by omega)) (Int.emod_lt_of_pos _ n0)
      rw [em_add, show t - b + b = t by omega, Int.emod_eq_of_lt h0 h1, Int.emod_emod_of_dvd _ (Int.dvd_refl n)] at z
      exact z
    constructor
    · rintro ⟨⟨h0, h1⟩, h2⟩
      exact (q h0 h1).mp h2
    · intro h2
      have h3 := hb.inn t h2
      exact ⟨h3, (q h3.1 h3.2).mpr h2⟩
theorem fix_n (n : Int) (ms : List Int) : Fix n ms n := fun t _ _ => by
  rw [Int.add_emod_right]
theorem not_fix1 (hb : Beat n ms) : ¬ Fix n ms 1 := fun h => by
  have n0 : 0 < n := by have := hb.n0; omega
  obtain ⟨s, hs⟩ := List.exists_mem_of_ne_nil ms hb.ne
  have all : ∀ k : Nat, (s + k) % n ∈ ms := fun k => by
    induction k with
    | zero =>
      have h1 := hb.inn s hs
      rw [show s + ((0 : Nat) : Int) = s by omega, Int.emod_eq_of_lt h1.1 h1.2]
      exact hs
    | succ k ih =>
      have z := (h ((s + k) % n) (Int.emod_nonneg _ (by omega)) (Int.emod_lt_of_pos _ n0)).mp (by rw [Int.emod_emod_of_dvd _ (Int.dvd_refl n)]; exact ih)
      rw [em_add] at z
      rw [show s + ((k + 1 : Nat) : Int) = s + k + 1 by omega]
      exact z
  have e : ms = upI 0 n.toNat := asc_ext hb.asc (upI_asc _ _) fun t => by
    rw [mem_upI]
    constructor
    · intro ht
      have := hb.inn t ht
      omega
    · rintro ⟨h0, h1⟩
      have z := all ((t - s) % n).toNat
      rw [Int.toNat_of_nonneg (Int.emod_nonneg _ (by omega)), Int.add_comm, em_add, show t - s + s = t by omega, Int.emod_eq_of_lt h0 (by omega)] at z
      exact z
  have l := hb.few
  rw [e, upI_len] at l
  omega
/-- the least turn that changes nothing -/
structure Short (n : Int) (ms : List Int) (m : Int) : Prop where
  lo : 2 ≤ m
  hi : m ≤ n
  fix : Fix n ms m
  least : ∀ c, 2 ≤ c → c < m → ¬ Fix n ms c
theorem Short.unique {m k : Int} (h : Short n ms m) (h' : Short n ms k) : m = k := by
  rcases Int.lt_trichotomy m k with z | z | z
  · exact absurd h.fix (h'.least m h.lo z)
  · exact z
  · exact absurd h'.fix (h.least k h'.lo z)
def shortM (n : Int) (ms : List Int) : Int := ((upI 2 (n - 1).toNat).filter fun c => decide (turnS n ms c = ms)).headD 0
theorem head_least {L : List Int} {m : Int} {r : List Int} (h : L.Pairwise (· < ·)) (e : L = m :: r) : ∀ y ∈ L, m ≤ y := fun y hy => by
  subst e
  rcases List.mem_cons.mp hy with z | z
  · omega
  · have := (List.pairwise_cons.mp h).1 y z
    omega
theorem shortM_short (hb : Beat n ms) : Short n ms (shortM n ms) := by
  have n2 := hb.n0
  have hn : n ∈ (upI 2 (n - 1).toNat).filter fun c => decide (turnS n ms c = ms) := by
    rw [List.mem_filter, mem_upI, decide_eq_true_iff]
    exact ⟨by omega, (turn_fix hb).mpr (fix_n n ms)⟩
  unfold shortM
  have asc : ((upI 2 (n - 1).toNat).filter fun c => decide (turnS n ms c = ms)).Pairwise (· < ·) := (upI_asc _ _).filter _
  cases e : (upI 2 (n - 1).toNat).filter fun c => decide (turnS n ms c = ms) with
  | nil => rw [e] at hn; cases hn
  | cons m r =>
    have hm : m ∈ (upI 2 (n - 1).toNat).filter fun c => decide (turnS n ms c = ms) := by rw [e]; exact List.mem_cons_self
    have hl := head_least asc e
    rw [List.mem_filter, mem_upI, decide_eq_true_iff] at hm
    refine ⟨hm.1.1, by show m ≤ n; omega, (turn_fix hb).mp hm.2, fun c c0 c1 hc => ?_⟩
    have c1' : c < m := c1
    have := hl c (by
      rw [List.mem_filter, mem_upI, decide_eq_true_iff]
      exact ⟨by omega, (turn_fix hb).mpr hc⟩)
    omega
theorem shortM_eq (hb : Beat n ms) {m : Int} (h : Short n ms m) : shortM n ms = m := (shortM_short hb).unique h
end
/-- the shortest pattern -/
def shortD (n : Int) (ms : List Int) : Dt := patD (shortM n ms) (ms.filter fun s => decide (s < shortM n ms))
/-- a fraction in lowest terms -/
def lowD (a b : Int) : Dt := .tuple [.int (a / ((Nat.gcd a.natAbs b.natAbs : Nat) : Int)), .int (b / ((Nat.gcd a.natAbs b.natAbs : Nat) : Int))]
theorem gcd_some {a b : Int} (h0 : 0 < b) (h1 : b < 1073741824) : 0 < ((Nat.gcd a.natAbs b.natAbs : Nat) : Int) ∧ ((Nat.gcd a.natAbs b.natAbs : Nat) : Int) < 1073741824 := by
  have p : 0 < Nat.gcd a.natAbs b.natAbs := Nat.gcd_pos_of_pos_right _ (by omega)
  have q : Nat.gcd a.natAbs b.natAbs ≤ b.natAbs := Nat.gcd_le_right _ (by omega)
  omega
theorem own_unpen {e : E} (h : isOwn e = false) : isOwn (unpen e) = false := by
  cases e <;> first | rfl | exact h
end DW
namespace DW
open PySem PySem.Spec PyProof.Rows L2
variable [Tabl]
/-! ### senders that send in the same ticks -/
section
variable {n k : Int} {ms ls : List Int}
theorem em_sub (n x b : Int) : (x % n - b) % n = (x - b) % n := by
  rw [Int.sub_eq_add_neg, em_add, ← Int.sub_eq_add_neg]
theorem em_em (n x : Int) : x % n % n = x % n := Int.emod_emod_of_dvd _ (Int.dvd_refl n)
theorem fix_all (n0 : 0 < n) {m : Int} : Fix n ms m ↔ ∀ t, (t % n ∈ ms ↔ (t + m) % n ∈ ms) := by
  constructor
  · intro h t
    have z := h (t % n) (Int.emod_nonneg _ (by omega)) (Int.emod_lt_of_pos _ n0)
    rw [em_em, em_add] at z
    exact z
  · exact fun h t _ _ => h t
theorem per_mul {f : Int → Prop} {m : Int} (h : ∀ t, (f t ↔ f (t + m))) (j : Nat) : ∀ t, (f t ↔ f (t + (j : Int) * m)) := by
  induction j with
  | zero => intro t; simp
  | succ j ih =>
    intro t
    rw [ih t, h (t + (j : Int) * m), show t + ((j + 1 : Nat) : Int) * m = t + (j : Int) * m + m by rw [Int.natCast_succ, Int.add_mul, Int.one_mul]; omega]
theorem per_all {f : Int → Prop} {m : Int} (h : ∀ t, (f t ↔ f (t + m))) (j : Int) (t : Int) : f t ↔ f (t + j * m) := by
  rcases Int.le_total 0 j with z | z
  · obtain ⟨i, rfl⟩ := Int.eq_ofNat_of_zero_le z
    exact per_mul h i t
  · obtain ⟨i, hi⟩ := Int.eq_ofNat_of_zero_le (show 0 ≤ -j by omega)
    have e : j = -(i : Int) := by omega
    subst e
    have q := per_mul h i (t + -(i : Int) * m)
    rw [show t + -(i : Int) * m + (i : Int) * m = t by rw [Int.neg_mul]; omega] at q
    exact q.symm
theorem per_mod {f : Int → Prop} {m : Int} (h : ∀ t, (f t ↔ f (t + m))) (t : Int) : f t ↔ f (t % m) := by
  rw [Int.emod_def, show t - m * (t / m) = t + (-(t / m)) * m by rw [Int.neg_mul, Int.mul_comm]; omega]
  exact per_all h _ t
def shortS (n : Int) (ms : List Int) : List Int := ms.filter fun s => decide (s < shortM n ms)
theorem short_sends (hb : Beat n ms) (t : Int) : t % shortM n ms ∈ shortS n ms ↔ t % n ∈ ms := by
  have hs := shortM_short hb
  have n0 := hb.n0
  have lo := hs.lo
  have hi := hs.hi
  have h0 := Int.emod_nonneg t (show shortM n ms ≠ 0 by omega)
  have h1 := Int.emod_lt_of_pos t (show 0 < shortM n ms by omega)
  have p := per_mod (f := fun t => t % n ∈ ms) ((fix_all (by omega)).mp hs.fix) t
  have p' : t % n ∈ ms ↔ t % shortM n ms % n ∈ ms := p
  rw [Int.emod_eq_of_lt h0 (by omega : t % shortM n ms < n)] at p'
  unfold shortS
  rw [List.mem_filter, decide_eq_true_iff, p']
  exact ⟨fun z => z.1, fun z => ⟨z, h1⟩⟩
theorem missing (hb : Beat n ms) : ∃ t, 0 ≤ t ∧ t < n ∧ t ∉ ms := by
  have n0 := hb.n0
  by_cases h : ∃ t, 0 ≤ t ∧ t < n ∧ t ∉ ms
  · exact h
  · have e : ms = upI 0 n.toNat := asc_ext hb.asc (upI_asc _ _) fun t => by
      rw [mem_upI]
      constructor
      · intro ht
        have := hb.inn t ht
        omega
      · rintro ⟨h0, h1⟩
        by_cases hm : t ∈ ms
        · exact hm
        · exact absurd ⟨t, h0, by omega, hm⟩ h
    have l := hb.few
    rw [e, upI_len] at l
    omega
theorem few_of {m : Int} {S : List Int} (m0 : 0 < m) (asc : S.Pairwise (· < ·)) (inn : ∀ s ∈ S, 0 ≤ s ∧ s < m) {u : Int} (u0 : 0 ≤ u) (u1 : u < m) (hu : u ∉ S) : (S.length : Int) < m := by
  have e : S = (upI 0 m.toNat).filter fun t => decide (t ∈ S) := asc_ext asc ((upI_asc _ _).filter _) fun t => by
    rw [List.mem_filter, mem_upI, decide_eq_true_iff]
    constructor
    · intro ht
      have := inn t ht
      exact ⟨by omega, ht⟩
    · exact fun h => h.2
  have l : ((upI 0 m.toNat).filter fun t => decide (t ∈ S)).length < (upI 0 m.toNat).length := List.length_filter_lt_length_iff_exists.mpr ⟨u, mem_upI.mpr (by omega), by simpa using hu⟩
  rw [← e, upI_len] at l
  omega
theorem short_beat (hb : Beat n ms) : Beat (shortM n ms) (shortS n ms) := by
  have hs := shortM_short hb
  have n0 := hb.n0
  have n1 := hb.n1
  have lo := hs.lo
  have hi := hs.hi
  have inn : ∀ s ∈ shortS n ms, 0 ≤ s ∧ s < shortM n ms := fun s hs => by
    have := List.mem_filter.mp hs
    have h1 := hb.inn s this.1
    have h2 : s < shortM n ms := by simpa using this.2
    exact ⟨h1.1, h2⟩
  have asc : (shortS n ms).Pairwise (· < ·) := hb.asc.filter _
  refine ⟨lo, by omega, inn, asc, fun z => ?_, ?_⟩
  · obtain ⟨s, hs⟩ := List.exists_mem_of_ne_nil ms hb.ne
    have h1 := hb.inn s hs
    have h2 := (short_sends hb s).mpr (by rw [Int.emod_eq_of_lt h1.1 h1.2]; exact hs)
    rw [z] at h2
    cases h2
  · obtain ⟨t, t0, t1, ht⟩ := missing hb
    refine few_of (by omega) asc inn (u := t % shortM n ms) (Int.emod_nonneg _ (by omega)) (Int.emod_lt_of_pos _ (by omega)) fun z => ht ?_
    have := (short_sends hb t).mp z
    rw [Int.emod_eq_of_lt t0 t1] at this
    exact this
theorem turn_beat (hb : Beat n ms) (b : Int) : Beat n (turnS n ms b) := by
  have n0 := hb.n0
  have inn : ∀ s ∈ turnS n ms b, 0 ≤ s ∧ s < n := fun s hs => ((mem_turnS (by omega)).mp hs).1
  refine ⟨n0, hb.n1, inn, turnS_asc n ms b, fun z => ?_, ?_⟩
  · obtain ⟨s, hs⟩ := List.exists_mem_of_ne_nil ms hb.ne
    have h1 := hb.inn s hs
    have h2 : (s + b) % n ∈ turnS n ms b := (mem_turnS (by omega)).mpr ⟨⟨Int.emod_nonneg _ (by omega), Int.emod_lt_of_pos _ (by omega)⟩, by
      rw [em_sub, show s + b - b = s by omega, Int.emod_eq_of_lt h1.1 h1.2]
      exact hs⟩
    rw [z] at h2
    cases h2
  · obtain ⟨t, t0, t1, ht⟩ := missing hb
    refine few_of (by omega) (turnS_asc n ms b) inn (u := (t + b) % n) (Int.emod_nonneg _ (by omega)) (Int.emod_lt_of_pos _ (by omega)) fun z => ht ?_
    have := ((mem_turnS (by omega)).mp z).2
    rw [em_sub, show t + b - b = t by omega, Int.emod_eq_of_lt t0 t1] at this
    exact this
theorem turnS_far (n : Int) (ms : List Int) (b q : Int) : turnS n ms (b + n * q) = turnS n ms b := by
  unfold turnS
  congr 1
  funext t
  rw [show t - (b + n * q) = t - b + n * (-q) by rw [Int.mul_neg]; omega, Int.add_mul_emod_self_left]
/-- one sends in the same ticks as two with the offset o -/
def Al (n : Int) (ms : List Int) (k : Int) (ls : List Int) (o : Int) : Prop := ∀ t, (t % n ∈ ms ↔ (t - o) % k ∈ ls)
theorem turn_al {m : Int} {S T : List Int} (hS : Beat m S) (hT : Beat m T) {o : Int} : turnS m T o = S ↔ Al m S m T o := by
  have m0 := hS.n0
  constructor
  · intro h t
    have q := mem_turnS (ms := T) (show 0 < m by omega) (b := o) (t := t % m)
    rw [h, em_sub] at q
    rw [q]
    exact ⟨fun z => z.2, fun z => ⟨⟨Int.emod_nonneg _ (by omega), Int.emod_lt_of_pos _ (by omega)⟩, z⟩⟩
  · intro h
    refine asc_ext (turnS_asc m T o) hS.asc fun t => ?_
    rw [mem_turnS (by omega)]
    constructor
    · rintro ⟨⟨h0, h1⟩, h2⟩
      have := (h t).mpr h2
      rw [Int.emod_eq_of_lt h0 h1] at this
      exact this
    · intro h2
      have h3 := hS.inn t h2
      refine ⟨h3, (h t).mp ?_⟩
      rw [Int.emod_eq_of_lt h3.1 h3.2]
      exact h2
theorem al_short (hn : Beat n ms) (hk : Beat k ls) {o : Int} : Al (shortM n ms) (shortS n ms) (shortM k ls) (shortS k ls) o ↔ Al n ms k ls o := by
  constructor
  · intro h t
    rw [← short_sends hn, ← short_sends hk]
    exact h t
  · intro h t
    rw [short_sends hn, short_sends hk]
    exact h t
theorem al_fix (hn : Beat n ms) (hk : Beat k ls) {o m : Int} (h : Al n ms k ls o) : Fix n ms m ↔ Fix k ls m := by
  have n0 := hn.n0
  have k0 := hk.n0
  rw [fix_all (by omega), fix_all (by omega)]
  constructor
  · intro f t
    have a := h (t + o)
    have b := h (t + o + m)
    rw [show t + o - o = t by omega] at a
    rw [show t + o + m - o = t + m by omega] at b
    rw [← a, ← b]
    exact f (t + o)
  · intro f t
    have a := h t
    have b := h (t + m)
    rw [show t + m - o = t - o + m by omega] at b
    rw [a, b]
    exact f (t - o)
theorem al_same (hn : Beat n ms) (hk : Beat k ls) {o : Int} (h : Al n ms k ls o) : shortM n ms = shortM k ls := by
  have s := shortM_short hn
  have r := shortM_short hk
  rcases Int.lt_trichotomy (shortM n ms) (shortM k ls) with z | z | z
  · exact absurd ((al_fix hn hk h).mp s.fix) (r.least _ s.lo z)
  · exact z
  · exact absurd ((al_fix hn hk h).mpr r.fix) (s.least _ r.lo z)
theorem al_mod (hk : Beat k ls) {o : Int} (h : Al n ms k ls o) : Al n ms k ls (o % shortM k ls) := fun t => by
  have r := shortM_short hk
  have k0 := hk.n0
  rw [h t]
  have p := per_all (f := fun t => t % k ∈ ls) ((fix_all (by omega)).mp r.fix) (o / shortM k ls) (t - o)
  have p' : (t - o) % k ∈ ls ↔ (t - o + o / shortM k ls * shortM k ls) % k ∈ ls := p
  rw [p', show t - o + o / shortM k ls * shortM k ls = t - o % shortM k ls by rw [Int.emod_def, Int.mul_comm]; omega]
/-- the least offset of two with which it sends in the ticks of one, or None -/
inductive MatchD (n : Int) (ms : List Int) (k : Int) (ls : List Int) : Dt → Prop
  | at {o : Int} (h0 : 0 ≤ o) (h1 : o < k) (h : Al n ms k ls o) (least : ∀ c, 0 ≤ c → c < o → ¬ Al n ms k ls c) : MatchD n ms k ls (.int o)
  | no (h : ∀ c, 0 ≤ c → c < k → ¬ Al n ms k ls c) : MatchD n ms k ls .none
theorem MatchD.unique {d e : Dt} (h : MatchD n ms k ls d) (h' : MatchD n ms k ls e) : d = e := by
  cases h with
  | «at» a0 a1 a2 a3 =>
    cases h' with
    | «at» b0 b1 b2 b3 =>
      rename_i o o'
      rcases Int.lt_trichotomy o o' with z | z | z
      · exact absurd a2 (b3 o a0 z)
      · rw [z]
      · exact absurd b2 (a3 o' b0 z)
    | no b => exact absurd a2 (b _ a0 a1)
  | no a =>
    cases h' with
    | «at» b0 b1 b2 b3 => exact absurd b2 (a _ b0 b1)
    | no b => rfl
/-- over a span, all ticks are told -/
theorem al_span {W : Int} (hn : Beat n ms) (hk : Beat k ls) (w0 : 0 < W) (dn : n ∣ W) (dk : k ∣ W) {o : Int} : ((upI 0 W.toNat).map fun t => decide ((t - o) % k ∈ ls)) = ((upI 0 W.toNat).map fun t => decide (t % n ∈ ms)) ↔ Al n ms k ls o := by
  rw [List.map_inj_left]
  constructor
  · intro h t
    have z := h (t % W) (mem_upI.mpr (by
      have := Int.emod_nonneg t (show W ≠ 0 by omega)
      have := Int.emod_lt_of_pos t w0
      omega))
    have z' := decide_eq_decide.mp z
    rw [Int.emod_emod_of_dvd _ dn] at z'
    have e : (t % W - o) % k = (t - o) % k := by
      rw [← em_sub, Int.emod_emod_of_dvd _ dk, em_sub]
    rw [e] at z'
    exact z'.symm
  · intro h t _
    exact decide_eq_decide.mpr (h t).symm
end
/-! ### the least number of ticks behind which all repeats -/
structure Whole (ps : List (Int × List Int)) (W : Int) : Prop where
  pos : 1 ≤ W
  dvd : ∀ p ∈ ps, p.1 ∣ W
  least : ∀ x, 1 ≤ x → (∀ p ∈ ps, p.1 ∣ x) → W ≤ x
theorem Whole.unique {ps : List (Int × List Int)} {W V : Int} (h : Whole ps W) (h' : Whole ps V) : W = V := by
  have a := h.least V h'.pos h'.dvd
  have b := h'.least W h.pos h.dvd
  omega
def prodP : List (Int × List Int) → Int
  | [] => 1
  | p :: ps => p.1 * prodP ps
theorem prodP_pos : ∀ {ps : List (Int × List Int)}, (∀ p ∈ ps, 0 < p.1) → 1 ≤ prodP ps
  | [], _ => by show (1 : Int) ≤ 1; omega
  | p :: ps, h => by
    have a := h p List.mem_cons_self
    have b := prodP_pos fun q hq => h q (List.mem_cons_of_mem _ hq)
    show 1 ≤ p.1 * prodP ps
    have := Int.mul_pos a (show 0 < prodP ps by omega)
    omega
theorem prodP_dvd : ∀ {ps : List (Int × List Int)}, ∀ p ∈ ps, p.1 ∣ prodP ps
  | [], p, hp => nomatch hp
  | q :: ps, p, hp => by
    rcases List.mem_cons.mp hp with z | z
    · subst z
      exact Int.dvd_mul_right _ _
    · exact Int.dvd_trans (prodP_dvd p z) (Int.dvd_mul_left _ _)
abbrev patP (p : Int × List Int) : Dt := patD p.1 p.2
def crowdD (ps : List (Int × List Int)) : Dt := .tuple (ps.map patP)
theorem shaped_lbools (bs : List Bool) : SeqAt.shaped (.list (bs.map .bool)) = true := by
  have a : PyData.canLayAll0 (bs.map .bool) = true := by
    induction bs with
    | nil => rfl
    | cons b bs ih => rw [List.map_cons, PyData.canLayAll0, ih]; rfl
  have b : PyData.depthAll (bs.map .bool) = 0 := by
    induction bs with
    | nil => rfl
    | cons b bs ih => rw [List.map_cons, PyData.depthAll, ih (by rw [List.map_cons, PyData.canLayAll0, Bool.and_eq_true] at a; exact a.2)]; rfl
  unfold SeqAt.shaped
  rw [PyData.canLay0, PyData.depth, a, b]
  rfl
theorem eqvAll_bools : ∀ xs ys : List Bool, PyData.eqvAll (xs.map .bool) (ys.map .bool) = decide (xs = ys)
  | [], [] => by simp [PyData.eqvAll]
  | [], _ :: _ => by simp [PyData.eqvAll]
  | _ :: _, [] => by simp [PyData.eqvAll]
  | x :: xs, y :: ys => by
    rw [List.map_cons, List.map_cons, PyData.eqvAll, eqv_bool, eqvAll_bools xs ys]
    by_cases h1 : x = y <;> by_cases h2 : xs = ys <;> simp [h1, h2]
theorem eqv_lbools (xs ys : List Bool) : PyData.eqv (.list (xs.map .bool)) (.list (ys.map .bool)) = decide (xs = ys) := by
  unfold PyData.eqv
  exact eqvAll_bools xs ys
end DW
namespace DW
open PySem PySem.Spec PyProof.Rows L2
variable [Tabl]
/-! ### rows of any kind, gone through side by side -/
/-- a list or a tuple -/
inductive Kn where
  | li
  | tu
def Kn.Sq (k : Kn) (K : PySem.W.Frag) (H : Hp) (a : Addr) (xs : List V) : Prop := match k with
  | .li => SqL K H a xs
  | .tu => SqT K H a xs
def Kn.on (k : Kn) (h : Heap) (it l : Addr) (i : Nat) : Prop := match k with
  | .li => h.IsListIter it l i
  | .tu => h.IsTupleIter it l i
def Kn.holds (k : Kn) (h : Heap) (l : Addr) (its : Array Value) : Prop := match k with
  | .li => h.IsList l its
  | .tu => h.IsTuple l its
def Kn.cell (k : Kn) (l : Addr) : Obj := { cls := .type (match k with | .li => "list_iterator" | .tu => "tuple_iterator"), data := .fields #[.ref l, .int 0 0] }
section
variable {prog : Program} {w : World} {A : Around} {h h' : Heap} {it l : Addr} {i : Nat} {its : Array Value}
theorem Kn.draws (k : Kn) (hh : A.handled = none) (hne : l ≠ it) : Draws prog w A it [it, l] its.size (fun i v => its[i]? = some v) (fun i h => k.on h it l i ∧ k.holds h l its) := by
  cases k with
  | li => exact Draws.list hh it l hne its
  | tu => exact Draws.tuple hh it l hne its
theorem Kn.begins (k : Kn) : Begins (.ref l) (k.cell l) (fun h => k.holds h l its) := by
  cases k with
  | li => exact begins_list l its
  | tu => exact begins_tuple l its
theorem Kn.start {k : Kn} (e : h.get? it = some (k.cell l)) : k.on h it l 0 := by
  cases k <;> exact ⟨_, e, rfl, rfl⟩
theorem Kn.obj {k : Kn} (q : k.on h it l i) : ∃ o, h.get? it = some o ∧ ∀ v, o.data ≠ .cell v := by
  cases k <;> exact let ⟨o, e, _, d⟩ := q; ⟨o, e, fun v z => by rw [d] at z; cases z⟩
theorem Kn.keep {k : Kn} (q : k.on h it l i) (e : ∀ o, h.get? it = some o → h'.get? it = some o) : k.on h' it l i := by
  cases k with
  | li => exact Heap.IsListIter.at q e
  | tu => exact Heap.IsTupleIter.at q e
theorem Kn.keeps {k : Kn} (q : k.holds h l its) (e : ∀ o, h.get? l = some o → h'.get? l = some o) : k.holds h' l its := by
  cases k with
  | li => exact Heap.IsList.at q e
  | tu => exact Heap.IsTuple.at q e
theorem Kn.lt {k : Kn} (q : k.holds h l its) : l < h.objs.size := by
  cases k <;> exact let ⟨_, e, _⟩ := q; Heap.lt_size e
end
section
variable {X : Cx} {pins : List (Addr × Obj)} {σ : L2.St} {H : Hp} {s : Shared} {a : Addr} {xs ys : List V}
theorem Kn.seen (k : Kn) (I : Inv X pins σ H s) (q : k.Sq X.K H a xs) : ∃ its : List Value, Vals xs its ∧ k.holds s.heap a its.toArray := by
  cases k with
  | li =>
    obtain ⟨its, rv, p, _⟩ := I.list q
    exact ⟨its, rv, p.isList⟩
  | tu =>
    obtain ⟨its, rv, p, _⟩ := I.tuple q
    exact ⟨its, rv, p⟩
theorem Kn.inj (k : Kn) (I : Inv X pins σ H s) (q : k.Sq X.K H a xs) (q' : k.Sq X.K H a ys) : xs = ys := by
  cases k with
  | li => exact I.list_inj q q'
  | tu => exact I.tuple_inj q q'
end
/-- a walk that hands out new tuples, for the hand layer's loops -/
theorem turn_walk {P : Program} {w : World} {K : PySem.W.Frag} {elts : List Expr} {kk : Nat} {tpos : Pos} {it : Addr} {fp wr : List Addr} {tn : Nat → Heap → Prop} {J : It} {S : Type} {n : S → Nat} {fpW : S → List Addr}
    {Pt : S → Nat → Array Value → Prop} {St : S → Nat → Heap → Prop} {Mid : S → Nat → Addr → Heap → Prop} (mem : it ∈ fp) (sub : ∀ b ∈ wr, b ∈ fp) (obj : ∀ i h, tn i h → ∀ b ∈ fp, ∃ o, h.get? b = some o ∧ ∀ v, o.data ≠ .cell v)
    (keep : ∀ i h h', tn i h → (∀ b ∈ fp, ∀ o, h.get? b = some o → h'.get? b = some o) → tn i h') (W : ∀ (A : Around), A.handled = none → ∀ x : S, WalksT P w A it (fpW x) wr (n x) (Pt x) (St x) (Mid x)) (out : ∀ x i h, St x i h → tn i h)
    (go : ∀ (X : Cx), X.prog = P → X.w = w → X.K = K → ∀ (i : Nat) (pins : List (Addr × Obj)) (s : Shared) (σ : L2.St) (H : Hp), Inv X pins σ H s → tn i s.heap → J.go i H →
      ∃ x, i < n x ∧ St x i s.heap ∧ ∀ vals, Pt x i vals → ∃ vs : List V, Vals vs vals.toList ∧ vs.length ≤ sizeLine ∧ ∀ T, H T = none → J.yld i H (.ref T) (upd H T (.tup vs)))
    (stop : ∀ (X : Cx), X.prog = P → X.w = w → X.K = K → ∀ (i : Nat) (pins : List (Addr × Obj)) (s : Shared) (σ : L2.St) (H : Hp), Inv X pins σ H s → tn i s.heap → J.stop i H → ∃ x, i = n x ∧ St x i s.heap)
    (self : ∀ (A : Around) (i : Nat) (s : Shared) (Q : Value → Shared → Prop) (E : Value → Shared → Prop), tn i s.heap → Q (.ref it) s → wpAny (model P w) A (pyIter (.ref it)) Q E s) : Turn P w K (.Tuple elts kk tpos) J fp it tn where
  mem := mem
  obj := obj
  keep := keep
  item := by
    intro X hP hw hK hc i pins s σ H E I hf st hg
    obtain ⟨x, hi, hst, hv⟩ := go X hP hw hK i pins s σ H I st hg
    subst hP hw hK
    have Wx := W X.A (I.ok.hd hc) x
    refine Wx.item i s _ E hi hst fun T vals h' tk pv hT hs hm hk => ⟨_, rfl, Wx.go elts kk tpos i T { s with heap := h', toks := tk } _ E hm fun h2 st' hk2 => ?_⟩
    obtain ⟨vs, rv, hl, hy⟩ := hv vals pv
    have tT : h2.IsTuple T vals := Heap.IsTuple.at hs fun o e => hk2 T o (Wx.apart i T h' hm) e
    have new : ObjOk X.prog X.w (upd H T (.tup vs)) h2 T (.tup vs) := ⟨hl, vals.toList, rv, by rw [Array.toArray_toList]; exact tT⟩
    have I1 := I.turnedNew (t' := tk) (ch := wr) (fun c o hb q => hk2 c o hb (hk c o hb q)) (fun b hb => hf b (sub b hb)) hT new
    refine ⟨.ref T, _, I1, rfl, hy T (I.hok.fresh hT), out x _ _ st', fun b hb => ?_⟩
    obtain ⟨o, e, _⟩ := obj i _ st b hb
    rw [upd_ne (Nat.ne_of_lt (Nat.lt_of_lt_of_le (Heap.lt_size e) hT))]
    exact (hf b hb).1
  done := by
    intro X hP hw hK hc i pins s σ H E I hf st hg
    obtain ⟨x, hi, hst⟩ := stop X hP hw hK i pins s σ H I st hg
    subst hP hw hK hi
    exact (W X.A (I.ok.hd hc) x).done s _ E hst fun h' tk hk => ⟨rfl, I.turnedL (t' := tk) (ch := wr) hk fun b hb => hf b (sub b hb)⟩
  self := self

/-! ### zip of two -/
def Jz2 (K : PySem.W.Frag) (k1 k2 : Kn) (a b : Addr) : It :=
  ⟨fun i H => ∃ (xs ys : List V) (x y : V), k1.Sq K H a xs ∧ k2.Sq K H b ys ∧ xs[i]? = some x ∧ ys[i]? = some y,
    fun i H v H' => ∃ T x y, v = .ref T ∧ H T = none ∧ H' = upd H T (.tup [x, y]) ∧ (∀ xs, k1.Sq K H a xs → xs[i]? = some x) ∧ ∀ ys, k2.Sq K H b ys → ys[i]? = some y,
    fun i H => ∃ xs ys : List V, k1.Sq K H a xs ∧ k2.Sq K H b ys ∧ i = min xs.length ys.length⟩
theorem arr_get {its : List Value} {i : Nat} {u v : Value} (h : its.toArray[i]? = some v) (g : its[i]? = some u) : v = u := by
  have h' : its[i]? = some v := by simpa using h
  rw [g] at h'
  exact (Option.some.inj h').symm
theorem turn_z2 {P : Program} {w : World} {K : PySem.W.Frag} {elts : List Expr} {kk : Nat} {tpos : Pos} {k1 k2 : Kn} {a b z TI TO i1 i2 : Addr} (S : ZipSep2 z TI TO i1 i2 [i1, a] [i2, b]) (ha : a ≠ i1) (hb : b ≠ i2) :
    Turn P w K (.Tuple elts kk tpos) (Jz2 K k1 k2 a b) [z, TI, TO, i1, i2] z (fun i h => IsZip h z TI TO .none ∧ IsTupOf2 h TI (.ref i1) (.ref i2) ∧ (∃ x y, IsTupOf2 h TO x y) ∧ k1.on h i1 a i ∧ k2.on h i2 b i) :=
  turn_walk (S := List Value × List Value) (wr := [z, TO, i1, i2]) (by simp) (fun c hc => by
    rcases List.mem_cons.mp hc with q | hc
    · rw [q]
      simp
    · exact List.mem_cons_of_mem _ (List.mem_cons_of_mem _ hc)) (fun i h st c hc => by
      obtain ⟨c1, c2, ⟨x, y, c3⟩, c4, c5⟩ := st
      simp only [List.mem_cons, List.not_mem_nil, or_false] at hc
      rcases hc with q | q | q | q | q <;> subst q
      · exact ⟨_, c1, fun v q => nomatch q⟩
      · exact ⟨_, c2, fun v q => nomatch q⟩
      · exact ⟨_, c3, fun v q => nomatch q⟩
      · exact Kn.obj c4
      · exact Kn.obj c5)
    (fun i h h' ⟨c1, c2, ⟨x, y, c3⟩, c4, c5⟩ k => ⟨k z (by simp) _ c1, k TI (by simp) _ c2, ⟨x, y, k TO (by simp) _ c3⟩, Kn.keep c4 fun o q => k i1 (by simp) o q, Kn.keep c5 fun o q => k i2 (by simp) o q⟩)
    (fun A hh x => WalksT.zipD2 S (k1.draws (A := A.in1) (its := x.1.toArray) hh ha) (k2.draws (A := A.in1) (its := x.2.toArray) hh hb))
    (fun x i h ⟨c1, c2, c3, c4, c5⟩ => ⟨c1, c2, c3, c4.1, c5.1⟩)
    (fun X hP hw hK i pins s σ H I ⟨c1, c2, c3, c4, c5⟩ ⟨xs, ys, x, y, qx, qy, hx, hy⟩ => by
      subst hP hw hK
      obtain ⟨us, ru, pu⟩ := k1.seen I qx
      obtain ⟨vs, rv, pv⟩ := k2.seen I qy
      obtain ⟨u, hu, r1⟩ := ru.get hx
      obtain ⟨v, hv, r2⟩ := rv.get hy
      have l1 := (List.getElem?_eq_some_iff.mp hu).1
      have l2 := (List.getElem?_eq_some_iff.mp hv).1
      refine ⟨(us, vs), by simp; omega, ⟨c1, c2, c3, ⟨c4, pu⟩, c5, pv⟩, fun vals ⟨x1, x2, p1, p2, e⟩ => ?_⟩
      subst e
      obtain rfl := arr_get p1 hu
      obtain rfl := arr_get p2 hv
      exact ⟨[x, y], .cons r1 (.cons r2 .nil), by show 2 ≤ sizeLine; decide, fun T hT => ⟨T, x, y, rfl, hT, rfl, fun l hl => by rw [k1.inj I hl qx]; exact hx, fun l hl => by rw [k2.inj I hl qy]; exact hy⟩⟩)
    (fun X hP hw hK i pins s σ H I ⟨c1, c2, c3, c4, c5⟩ ⟨xs, ys, qx, qy, hi⟩ => by
      subst hP hw hK
      obtain ⟨us, ru, pu⟩ := k1.seen I qx
      obtain ⟨vs, rv, pv⟩ := k2.seen I qy
      exact ⟨(us, vs), by rw [hi, ru.length, rv.length]; simp, c1, c2, c3, ⟨c4, pu⟩, c5, pv⟩)
    (fun A i s Q E st h => wpAny_pyIter_zip st.1 h)
def iZip2 (K : PySem.W.Frag) (ta : TA) : TI := fun σ H R => ta σ H fun vs H1 => ∃ a b k1 k2 xs ys, vs = [.ref a, .ref b] ∧ Kn.Sq k1 K H1 a xs ∧ Kn.Sq k2 K H1 b ys ∧ R (Jz2 K k1 k2 a b) H1
theorem pi_zip2 {X : Cx} {e1 e2 : Expr} {ta : TA} {p pos tpos : Pos} {elts : List Expr} {kk : Nat} (hg : Gl X "zip") (hm : X.mg "zip" = none) (ha : PA X [e1, e2] ta)
    (hs : starEach [e1, e2] X.env = (false, eval e1 X.env) :: starEach [e2] X.env := by rfl) (hpl : (backTo pos (starEach [e2] X.env)).any (·.1) = false := by rfl) : PI X (.Tuple elts kk tpos) (.Call (.Name "zip" p) [e1, e2] [] pos) (iZip2 X.K ta) := by
  refine ⟨fun pins s σ H R I h => Call_ (ld_blt I hg hm PyProof.Rows.boot_zip (PyProof.Rows.callWith_type1 (thn (ha.run pos pins s σ H _ I h) fun us s1 ⟨vs, H1, I1, r1, a, b, k1, k2, xs, ys, ex, qx, qy, q⟩ => ?_) hs hpl))⟩
  subst ex
  cases r1 with
  | cons z1 r1 =>
    cases r1 with
    | cons z2 r1 =>
      cases r1
      cases z1
      cases z2
      obtain ⟨us, ru, pu⟩ := k1.seen I1 qx
      obtain ⟨ws, rw', pw⟩ := k2.seen I1 qy
      refine zip_begins2 (k1.begins (l := a) (its := us.toArray)) (k2.begins (l := b) (its := ws.toArray)) pu pw fun h' d1 d2 d3 d4 d5 hsz hk => wpAny_pyIter_zip d1 ?_
      have la := Kn.lt pu
      have lb := Kn.lt pw
      refine ⟨s1.heap.objs.size + 4, [s1.heap.objs.size + 4, s1.heap.objs.size + 2, s1.heap.objs.size + 3, s1.heap.objs.size, s1.heap.objs.size + 1], _, _, H1, rfl, I1.kept (t' := s1.toks) hk, turn_z2 (k1 := k1) (k2 := k2) (zip_sep2 (fp1 := [a]) (fp2 := [b]) (fun c hc => by rw [List.mem_singleton.mp hc]; exact la) (fun c hc => by rw [List.mem_singleton.mp hc]; exact lb)) (Nat.ne_of_lt la) (Nat.ne_of_lt (Nat.lt_succ_of_lt lb)), ⟨d1, d2, ⟨_, _, d3⟩, Kn.start d4, Kn.start d5⟩, fun c hc => ?_, q⟩
      have hle : s1.heap.objs.size ≤ c := by
        simp only [List.mem_cons, List.not_mem_nil, or_false] at hc
        rcases hc with q | q | q | q | q <;> rw [q] <;> first | exact Nat.le_add_right _ _ | exact Nat.le_refl _
      exact I1.fpOk hle (I1.hok.fresh hle)
/-! ### enumerate -/
def Jen (K : PySem.W.Frag) (k : Kn) (a : Addr) : It :=
  ⟨fun i H => ∃ (xs : List V) (x : V), k.Sq K H a xs ∧ xs[i]? = some x, fun i H v H' => ∃ T x, v = .ref T ∧ H T = none ∧ H' = upd H T (.tup [.int (0 + (i : Int)), x]) ∧ ∀ xs, k.Sq K H a xs → xs[i]? = some x,
    fun i H => ∃ xs : List V, k.Sq K H a xs ∧ i = xs.length⟩
theorem turn_en {P : Program} {w : World} {K : PySem.W.Frag} {elts : List Expr} {kk : Nat} {tpos : Pos} {k : Kn} {a e it : Addr} (hne : e ≠ it) (ha : a ≠ it) (hea : e ≠ a) :
    Turn P w K (.Tuple elts kk tpos) (Jen K k a) [e, it] e (fun i h => (∃ old, IsEnum h e it (0 + (i : Int)) old) ∧ k.on h it a i) :=
  turn_walk (S := List Value) (wr := [e, it]) (by simp) (fun c hc => hc) (fun i h st c hc => by
      obtain ⟨⟨old, c1⟩, c2⟩ := st
      simp only [List.mem_cons, List.not_mem_nil, or_false] at hc
      rcases hc with q | q <;> subst q
      · exact ⟨_, c1, fun v q => nomatch q⟩
      · exact Kn.obj c2)
    (fun i h h' ⟨⟨old, c1⟩, c2⟩ q => ⟨⟨old, q e (by simp) _ c1⟩, Kn.keep c2 fun o z => q it (by simp) o z⟩)
    (fun A hh x => WalksT.enumFrom 0 (k.draws (A := A.in1) (its := x.toArray) hh ha) e hne (by simp [hne, hea]) (by simp))
    (fun x i h ⟨c1, c2⟩ => ⟨c1, c2.1⟩)
    (fun X hP hw hK i pins s σ H I ⟨c1, c2⟩ ⟨xs, x, qx, hx⟩ => by
      subst hP hw hK
      obtain ⟨us, ru, pu⟩ := k.seen I qx
      obtain ⟨u, hu, r1⟩ := ru.get hx
      have l1 := (List.getElem?_eq_some_iff.mp hu).1
      refine ⟨us, by simp; omega, ⟨c1, c2, pu⟩, fun vals ⟨t, x1, p1, ev⟩ => ?_⟩
      subst ev
      obtain rfl := arr_get p1 hu
      exact ⟨[.int (0 + (i : Int)), x], .cons ⟨_, rfl⟩ (.cons r1 .nil), by show 2 ≤ sizeLine; decide, fun T hT => ⟨T, x, rfl, hT, rfl, fun l hl => by rw [k.inj I hl qx]; exact hx⟩⟩)
    (fun X hP hw hK i pins s σ H I ⟨c1, c2⟩ ⟨xs, qx, hi⟩ => by
      subst hP hw hK
      obtain ⟨us, ru, pu⟩ := k.seen I qx
      exact ⟨us, by rw [hi, ru.length]; simp, c1, c2, pu⟩)
    (fun A i s Q E ⟨⟨_, c1⟩, _⟩ h => wpAny_pyIter_enum c1 h)
theorem meets_enum1 {v : Value} {o : Obj} {Hc : Heap → Prop} (B : Begins v o Hc) : Meets (Builtin.«enumerate.__new__» ⟨[.type "enumerate", v], []⟩) (fun _ R s => Hc s.heap ∧
    R (.ok (.ret (.ref (s.heap.push o).objs.size))) { s with heap := (s.heap.push o).push { cls := .type "enumerate", data := .fields #[.none, .bool false, .ref s.heap.objs.size, rawInt 0, .none, .none] } }) := by
  refine .of_wp fun prog w A R s hh => ?_
  obtain ⟨hp, g0, d0, tk0, os0⟩ := s
  obtain ⟨h1, h2⟩ := hh
  have hsub := sub_enumerate
  have q1 : ∀ {A' : Around} {E' : Value → Shared → Prop} {Q' : Value → Shared → Prop}, Q' (.ref hp.objs.size) ⟨hp.push o, g0, d0, tk0, os0⟩ → wpAny (model prog w) A' (pyIter v) Q' E' ⟨hp, g0, d0, tk0, os0⟩ := fun q => B.iter prog w _ _ ⟨hp, g0, d0, tk0, os0⟩ _ h1 q
  wp_walk using q1
  refine wpAny_stack_any fun st => wpAny_pure ?_; split
  · rename_i c _ _ _ _ _; cases (c == Value.type "enumerate") <;> (wp_walk using q1; exact ⟨_, rfl, h2⟩)
  · wp_walk using q1
    exact ⟨_, rfl, h2⟩
theorem enum1 {prog : Program} {w : World} {A : Around} {E : Value → Shared → Prop} {s : Shared} {v : Value} {o : Obj} {Hc : Heap → Prop} {Q : Value → Shared → Prop} (B : Begins v o Hc) (h1 : Hc s.heap)
    (h : ∀ h', IsEnum h' (s.heap.objs.size + 1) s.heap.objs.size 0 .none → h'.get? s.heap.objs.size = some o → (∀ b o, s.heap.get? b = some o → h'.get? b = some o) → Q (.ref (s.heap.objs.size + 1)) { s with heap := h' }) : wpAny (model prog w) A (call (.type "enumerate") [v]) Q E s := by
  refine callType_new F.called_enumerate (by decide) (F.typeCall_enumerate_1 _) (F.newCall_enumerate_1 _) (fun obj => F.args_object_init_2 obj _) F.entry_enumerate_new (meets_enum1 B) ⟨h1, ?_⟩
  have sz : (s.heap.push o).objs.size = s.heap.objs.size + 1 := Heap.size_push ..
  have cell := Heap.get?_push_size (s.heap.push o) (o := { cls := .type "enumerate", data := .fields #[.none, .bool false, .ref s.heap.objs.size, rawInt 0, .none, .none] }) rfl
  show _ ∧ _
  rw [sz] at cell ⊢
  exact ⟨⟨_, cell, rfl⟩, h _ cell (Heap.get?_push_of_some _ (Heap.get?_push_size _ B.free)) fun b u e => Heap.get?_push_of_some _ (Heap.get?_push_of_some _ e)⟩
def iEn (K : PySem.W.Frag) (ta : TA) : TI := fun σ H R => ta σ H fun vs H1 => ∃ a k xs, vs = [.ref a] ∧ Kn.Sq k K H1 a xs ∧ R (Jen K k a) H1
theorem pi_en {X : Cx} {e1 : Expr} {ta : TA} {p pos tpos : Pos} {elts : List Expr} {kk : Nat} (hg : Gl X "enumerate") (hm : X.mg "enumerate" = none) (ha : PA X [e1] ta) (hs : starEach [e1] X.env = [(false, eval e1 X.env)] := by rfl) : PI X (.Tuple elts kk tpos) (.Call (.Name "enumerate" p) [e1] [] pos) (iEn X.K ta) := by
  refine ⟨fun pins s σ H R I h => Call_ (ld_blt I hg hm boot_enumerate (PyProof.Rows.callWith_type1 (thn (ha.run pos pins s σ H _ I h) fun us s1 ⟨vs, H1, I1, r1, a, k, xs, ex, qx, q⟩ => ?_) hs rfl))⟩
  subst ex
  cases r1 with
  | cons z1 r1 =>
    cases r1
    cases z1
    obtain ⟨us, ru, pu⟩ := k.seen I1 qx
    have la := Kn.lt pu
    refine enum1 (k.begins (l := a) (its := us.toArray)) pu fun h' d1 d2 hk => wpAny_pyIter_enum d1 ?_
    refine ⟨s1.heap.objs.size + 1, [s1.heap.objs.size + 1, s1.heap.objs.size], _, _, H1, rfl, I1.kept (t' := s1.toks) hk, turn_en (k := k) (Nat.succ_ne_self _) (Nat.ne_of_lt la) (Nat.ne_of_gt (Nat.lt_succ_of_lt la)), ⟨⟨.none, d1⟩, Kn.start d2⟩, fun c hc => ?_, q⟩
    have hle : s1.heap.objs.size ≤ c := by
      simp only [List.mem_cons, List.not_mem_nil, or_false] at hc
      rcases hc with q | q <;> rw [q] <;> first | exact Nat.le_add_right _ _ | exact Nat.le_refl _
    exact I1.fpOk hle (I1.hok.fresh hle)
/-! ### zip of three -/
def Jz3 (K : PySem.W.Frag) (k1 k2 k3 : Kn) (a b c : Addr) : It :=
  ⟨fun i H => ∃ (xs ys zs : List V) (x y z : V), k1.Sq K H a xs ∧ k2.Sq K H b ys ∧ k3.Sq K H c zs ∧ xs[i]? = some x ∧ ys[i]? = some y ∧ zs[i]? = some z,
    fun i H v H' => ∃ T x y z, v = .ref T ∧ H T = none ∧ H' = upd H T (.tup [x, y, z]) ∧ (∀ xs, k1.Sq K H a xs → xs[i]? = some x) ∧ (∀ ys, k2.Sq K H b ys → ys[i]? = some y) ∧ ∀ zs, k3.Sq K H c zs → zs[i]? = some z,
    fun i H => ∃ xs ys zs : List V, k1.Sq K H a xs ∧ k2.Sq K H b ys ∧ k3.Sq K H c zs ∧ i = min (min xs.length ys.length) zs.length⟩
theorem turn_z3 {P : Program} {w : World} {K : PySem.W.Frag} {elts : List Expr} {kk : Nat} {tpos : Pos} {k1 k2 k3 : Kn} {a b c z TI TO i1 i2 i3 : Addr} (S : ZipSep3 z TI TO i1 i2 i3 [i1, a] [i2, b] [i3, c]) (ha : a ≠ i1) (hb : b ≠ i2) (hc : c ≠ i3) :
    Turn P w K (.Tuple elts kk tpos) (Jz3 K k1 k2 k3 a b c) [z, TI, TO, i1, i2, i3] z (fun i h => IsZip h z TI TO .none ∧ IsTupOf3 h TI (.ref i1) (.ref i2) (.ref i3) ∧ (∃ x y u, IsTupOf3 h TO x y u) ∧ k1.on h i1 a i ∧ k2.on h i2 b i ∧ k3.on h i3 c i) :=
  turn_walk (S := List Value × List Value × List Value) (wr := [z, TO, i1, i2, i3]) (by simp) (fun d hd => by
    rcases List.mem_cons.mp hd with q | hd
    · rw [q]
      simp
    · exact List.mem_cons_of_mem _ (List.mem_cons_of_mem _ hd)) (fun i h st d hd => by
      obtain ⟨c1, c2, ⟨x, y, u, c3⟩, c4, c5, c6⟩ := st
      simp only [List.mem_cons, List.not_mem_nil, or_false] at hd
      rcases hd with q | q | q | q | q | q <;> subst q
      · exact ⟨_, c1, fun v q => nomatch q⟩
      · exact ⟨_, c2, fun v q => nomatch q⟩
      · exact ⟨_, c3, fun v q => nomatch q⟩
      · exact Kn.obj c4
      · exact Kn.obj c5
      · exact Kn.obj c6)
    (fun i h h' ⟨c1, c2, ⟨x, y, u, c3⟩, c4, c5, c6⟩ k => ⟨k z (by simp) _ c1, k TI (by simp) _ c2, ⟨x, y, u, k TO (by simp) _ c3⟩, Kn.keep c4 fun o q => k i1 (by simp) o q, Kn.keep c5 fun o q => k i2 (by simp) o q, Kn.keep c6 fun o q => k i3 (by simp) o q⟩)
    (fun A hh x => WalksT.zipD3 S (k1.draws (A := A.in1) (its := x.1.toArray) hh ha) (k2.draws (A := A.in1) (its := x.2.1.toArray) hh hb) (k3.draws (A := A.in1) (its := x.2.2.toArray) hh hc))
    (fun x i h ⟨c1, c2, c3, c4, c5, c6⟩ => ⟨c1, c2, c3, c4.1, c5.1, c6.1⟩)
    (fun X hP hw hK i pins s σ H I ⟨c1, c2, c3, c4, c5, c6⟩ ⟨xs, ys, zs, x, y, zz, qx, qy, qz, hx, hy, hz⟩ => by
      subst hP hw hK
      obtain ⟨us, ru, pu⟩ := k1.seen I qx
      obtain ⟨vs, rv, pv⟩ := k2.seen I qy
      obtain ⟨ws, rw', pw⟩ := k3.seen I qz
      obtain ⟨u, hu, r1⟩ := ru.get hx
      obtain ⟨v, hv, r2⟩ := rv.get hy
      obtain ⟨t, ht, r3⟩ := rw'.get hz
      have l1 := (List.getElem?_eq_some_iff.mp hu).1
      have l2 := (List.getElem?_eq_some_iff.mp hv).1
      have l3 := (List.getElem?_eq_some_iff.mp ht).1
      refine ⟨(us, vs, ws), by simp; omega, ⟨c1, c2, c3, ⟨c4, pu⟩, ⟨c5, pv⟩, c6, pw⟩, fun vals ⟨x1, x2, x3, p1, p2, p3, e⟩ => ?_⟩
      subst e
      obtain rfl := arr_get p1 hu
      obtain rfl := arr_get p2 hv
      obtain rfl := arr_get p3 ht
      exact ⟨[x, y, zz], .cons r1 (.cons r2 (.cons r3 .nil)), by show 3 ≤ sizeLine; decide, fun T hT => ⟨T, x, y, zz, rfl, hT, rfl, fun l hl => by rw [k1.inj I hl qx]; exact hx, fun l hl => by rw [k2.inj I hl qy]; exact hy, fun l hl => by rw [k3.inj I hl qz]; exact hz⟩⟩)
    (fun X hP hw hK i pins s σ H I ⟨c1, c2, c3, c4, c5, c6⟩ ⟨xs, ys, zs, qx, qy, qz, hi⟩ => by
      subst hP hw hK
      obtain ⟨us, ru, pu⟩ := k1.seen I qx
      obtain ⟨vs, rv, pv⟩ := k2.seen I qy
      obtain ⟨ws, rw', pw⟩ := k3.seen I qz
      exact ⟨(us, vs, ws), by rw [hi, ru.length, rv.length, rw'.length]; simp, c1, c2, c3, ⟨c4, pu⟩, ⟨c5, pv⟩, c6, pw⟩)
    (fun A i s Q E st h => wpAny_pyIter_zip st.1 h)
def iZip3 (K : PySem.W.Frag) (ta : TA) : TI := fun σ H R => ta σ H fun vs H1 => ∃ a b c k1 k2 k3 xs ys zs, vs = [.ref a, .ref b, .ref c] ∧ Kn.Sq k1 K H1 a xs ∧ Kn.Sq k2 K H1 b ys ∧ Kn.Sq k3 K H1 c zs ∧ R (Jz3 K k1 k2 k3 a b c) H1
theorem pi_zip3 {X : Cx} {e1 e2 e3 : Expr} {ta : TA} {p pos tpos : Pos} {elts : List Expr} {kk : Nat} (hg : Gl X "zip") (hm : X.mg "zip" = none) (ha : PA X [e1, e2, e3] ta)
    (hs : starEach [e1, e2, e3] X.env = (false, eval e1 X.env) :: starEach [e2, e3] X.env := by rfl) (hpl : (backTo pos (starEach [e2, e3] X.env)).any (·.1) = false := by rfl) : PI X (.Tuple elts kk tpos) (.Call (.Name "zip" p) [e1, e2, e3] [] pos) (iZip3 X.K ta) := by
  refine ⟨fun pins s σ H R I h => Call_ (ld_blt I hg hm PyProof.Rows.boot_zip (PyProof.Rows.callWith_type1 (thn (ha.run pos pins s σ H _ I h) fun us s1 ⟨vs, H1, I1, r1, a, b, c, k1, k2, k3, xs, ys, zs, ex, qx, qy, qz, q⟩ => ?_) hs hpl))⟩
  subst ex
  cases r1 with
  | cons z1 r1 =>
    cases r1 with
    | cons z2 r1 =>
      cases r1 with
      | cons z3 r1 =>
        cases r1
        cases z1
        cases z2
        cases z3
        obtain ⟨us, ru, pu⟩ := k1.seen I1 qx
        obtain ⟨ws, rw', pw⟩ := k2.seen I1 qy
        obtain ⟨ts, rt', pt⟩ := k3.seen I1 qz
        refine zip_begins3 (k1.begins (l := a) (its := us.toArray)) (k2.begins (l := b) (its := ws.toArray)) (k3.begins (l := c) (its := ts.toArray)) pu pw pt fun h' d1 d2 d3 d4 d5 d6 hsz hk => wpAny_pyIter_zip d1 ?_
        have la := Kn.lt pu
        have lb := Kn.lt pw
        have lc := Kn.lt pt
        refine ⟨s1.heap.objs.size + 5, [s1.heap.objs.size + 5, s1.heap.objs.size + 3, s1.heap.objs.size + 4, s1.heap.objs.size, s1.heap.objs.size + 1, s1.heap.objs.size + 2], _, _, H1, rfl, I1.kept (t' := s1.toks) hk, turn_z3 (k1 := k1) (k2 := k2) (k3 := k3) (zip_sep3 (fp1 := [a]) (fp2 := [b]) (fp3 := [c]) (fun c hc => by rw [List.mem_singleton.mp hc]; exact la) (fun c hc => by rw [List.mem_singleton.mp hc]; exact lb) (fun c hc => by rw [List.mem_singleton.mp hc]; exact lc)) (Nat.ne_of_lt la) (Nat.ne_of_lt (Nat.lt_succ_of_lt lb)) (Nat.ne_of_lt (Nat.lt_succ_of_lt (Nat.lt_succ_of_lt lc))), ⟨d1, d2, ⟨_, _, _, d3⟩, Kn.start d4, Kn.start d5, Kn.start d6⟩, fun c hc => ?_, q⟩
        have hle : s1.heap.objs.size ≤ c := by
          simp only [List.mem_cons, List.not_mem_nil, or_false] at hc
          rcases hc with q | q | q | q | q | q <;> rw [q] <;> first | exact Nat.le_add_right _ _ | exact Nat.le_refl _
        exact I1.fpOk hle (I1.hok.fresh hle)
/-! ### the same by data -/
def seqOf : Dt → Option (List Dt)
  | .list xs => some xs
  | .tuple xs => some xs
  | _ => none
theorem seq_kn {K : PySem.W.Frag} {G : Hp} {v : V} {d : Dt} {ds : List Dt} (h : Rp K G v d) (e : seqOf d = some ds) : ∃ a k xs, v = .ref a ∧ RpAll K G xs ds ∧ ∀ {G' H : Hp}, Same G G' → Same G' H → Kn.Sq k K H a xs := by
  cases d <;> try cases e
  · obtain ⟨a, vs, e1, hs, ra⟩ := h.list_inv
    exact ⟨a, .li, vs, e1, ra, fun g g' => .inl (.inl (g' _ _ (g _ _ hs)))⟩
  · obtain ⟨a, vs, e1, hs, ra⟩ := h.tuple_inv
    exact ⟨a, .tu, vs, e1, ra, fun g g' => same_t g' (same_t g hs)⟩
def trips : List Dt → List Dt → List Dt → List Dt
  | x :: xs, y :: ys, z :: zs => .tuple [x, y, z] :: trips xs ys zs
  | _, _, _ => []
theorem trips_get : ∀ {xs ys zs : List Dt} {i : Nat} {t : Dt}, (trips xs ys zs)[i]? = some t → ∃ x y z, xs[i]? = some x ∧ ys[i]? = some y ∧ zs[i]? = some z ∧ t = .tuple [x, y, z]
  | [], _, _, _, _, h => by simp [trips] at h
  | _ :: _, [], _, _, _, h => by simp [trips] at h
  | _ :: _, _ :: _, [], _, _, h => by simp [trips] at h
  | x :: xs, y :: ys, z :: zs, 0, t, h => ⟨x, y, z, rfl, rfl, rfl, (Option.some.inj h).symm⟩
  | x :: xs, y :: ys, z :: zs, i + 1, t, h => trips_get (xs := xs) (ys := ys) (zs := zs) (i := i) h
theorem trips_len : ∀ xs ys zs : List Dt, (trips xs ys zs).length = min (min xs.length ys.length) zs.length
  | [], _, _ => by simp [trips]
  | _ :: _, [], _ => by simp [trips]
  | _ :: _, _ :: _, [] => by simp [trips]
  | x :: xs, y :: ys, z :: zs => by
    show (trips xs ys zs).length + 1 = _
    rw [trips_len xs ys zs]
    simp only [List.length_cons]
    omega
theorem pairs_len (xs ys : List Dt) : (pairs xs ys).length = min xs.length ys.length := by
  rw [pairs_zip, List.length_map, List.length_zip]
def enums : Nat → List Dt → List Dt
  | _, [] => []
  | n, x :: xs => .tuple [.int (n : Int), x] :: enums (n + 1) xs
theorem enums_len : ∀ (n : Nat) (xs : List Dt), (enums n xs).length = xs.length
  | _, [] => rfl
  | n, x :: xs => by
    show (enums (n + 1) xs).length + 1 = _
    rw [enums_len (n + 1) xs]
    rfl
theorem enums_get : ∀ {n : Nat} {xs : List Dt} {i : Nat} {t : Dt}, (enums n xs)[i]? = some t → ∃ x, xs[i]? = some x ∧ t = .tuple [.int ((n + i : Nat) : Int), x]
  | n, [], i, t, h => by simp [enums] at h
  | n, x :: xs, 0, t, h => ⟨x, rfl, (Option.some.inj h).symm⟩
  | n, x :: xs, i + 1, t, h => by
    obtain ⟨y, h1, h2⟩ := enums_get (n := n + 1) (xs := xs) (i := i) h
    refine ⟨y, h1, ?_⟩
    rw [h2, show n + 1 + i = n + (i + 1) by omega]
section
variable {K : PySem.W.Frag} {δ : Nm}
theorem wi_zip2 {ar : TA} {Rx : List Dt → Prop} (h : WA K ar δ fun es => ∃ d1 d2 xs ys, es = [.dat d1, .dat d2] ∧ seqOf d1 = some xs ∧ seqOf d2 = some ys ∧ Rx (pairs xs ys)) : WI K (iZip2 K ar) δ Rx := fun ω σ G H Q e k q => h ω σ G H _ e k fun vs es G1 H1 g1 k1 r ⟨d1, d2, xs, ys, e1, s1, s2, rx⟩ => by
  subst e1
  obtain ⟨v, u, rfl, r1, r2⟩ := rel2 r
  obtain ⟨a, n1, us, rfl, ra, fa⟩ := seq_kn r1 s1
  obtain ⟨b, n2, ws, rfl, rb, fb⟩ := seq_kn r2 s2
  refine ⟨a, b, n1, n2, us, ws, rfl, fa (Same.refl _) k1.1, fb (Same.refl _) k1.1, q _ _ G1 H1 g1 k1 (fun ω2 G2 H2 i g2 k2 => ⟨fun hi => ⟨us, ws, fa g2 k2.1, fb g2 k2.1, ?_⟩, fun z hz => ?_⟩) rx⟩
  · rw [← hi, pairs_len, ra.len, rb.len]
  · obtain ⟨x, y, hx, hy, e3⟩ := pairs_get hz
    subst e3
    obtain ⟨v, hv, rv⟩ := ra.at hx
    obtain ⟨u, hu, ru⟩ := rb.at hy
    refine ⟨⟨us, ws, v, u, fa g2 k2.1, fb g2 k2.1, hv, hu⟩, fun w H3 ⟨T, x', y', e4, hT, e5, f1, f2⟩ => ?_⟩
    have ex := f1 _ (fa g2 k2.1)
    have ey := f2 _ (fb g2 k2.1)
    rw [hv] at ex
    rw [hu] at ey
    cases ex
    cases ey
    subst e4 e5
    have hg := k2.1.free hT
    exact ⟨upd G2 T (.tup [v, u]), same_new hg, k2.new hT, .tup (.inl (.inl upd_same)) (.cons ((rv.mono g2).mono (same_new hg)) (.cons ((ru.mono g2).mono (same_new hg)) .nil))⟩
theorem rel3 {ω : Wd} {G : Hp} {vs : List V} {d c b : Dt} (h : RelA K ω G vs [.dat d, .dat c, .dat b]) : ∃ v u t, vs = [v, u, t] ∧ Rp K G v d ∧ Rp K G u c ∧ Rp K G t b := by
  cases h with
  | cons x y =>
    obtain ⟨v, e, r⟩ := x
    cases e
    obtain ⟨u, t, rfl, r2, r3⟩ := rel2 y
    exact ⟨_, _, _, rfl, r, r2, r3⟩
theorem wi_zip3 {ar : TA} {Rx : List Dt → Prop} (h : WA K ar δ fun es => ∃ d1 d2 d3 xs ys zs, es = [.dat d1, .dat d2, .dat d3] ∧ seqOf d1 = some xs ∧ seqOf d2 = some ys ∧ seqOf d3 = some zs ∧ Rx (trips xs ys zs)) : WI K (iZip3 K ar) δ Rx := fun ω σ G H Q e k q => h ω σ G H _ e k fun vs es G1 H1 g1 k1 r ⟨d1, d2, d3, xs, ys, zs, e1, s1, s2, s3, rx⟩ => by
  subst e1
  obtain ⟨v, u, t, rfl, r1, r2, r3⟩ := rel3 r
  obtain ⟨a, n1, us, rfl, ra, fa⟩ := seq_kn r1 s1
  obtain ⟨b, n2, ws, rfl, rb, fb⟩ := seq_kn r2 s2
  obtain ⟨c, n3, ts, rfl, rc, fc⟩ := seq_kn r3 s3
  refine ⟨a, b, c, n1, n2, n3, us, ws, ts, rfl, fa (Same.refl _) k1.1, fb (Same.refl _) k1.1, fc (Same.refl _) k1.1, q _ _ G1 H1 g1 k1 (fun ω2 G2 H2 i g2 k2 => ⟨fun hi => ⟨us, ws, ts, fa g2 k2.1, fb g2 k2.1, fc g2 k2.1, ?_⟩, fun z hz => ?_⟩) rx⟩
  · rw [← hi, trips_len, ra.len, rb.len, rc.len]
  · obtain ⟨x, y, z', hx, hy, hz', e3⟩ := trips_get hz
    subst e3
    obtain ⟨v, hv, rv⟩ := ra.at hx
    obtain ⟨u, hu, ru⟩ := rb.at hy
    obtain ⟨t, ht, rt⟩ := rc.at hz'
    refine ⟨⟨us, ws, ts, v, u, t, fa g2 k2.1, fb g2 k2.1, fc g2 k2.1, hv, hu, ht⟩, fun w H3 ⟨T, x', y', z2, e4, hT, e5, f1, f2, f3⟩ => ?_⟩
    have ex := f1 _ (fa g2 k2.1)
    have ey := f2 _ (fb g2 k2.1)
    have ez := f3 _ (fc g2 k2.1)
    rw [hv] at ex
    rw [hu] at ey
    rw [ht] at ez
    cases ex
    cases ey
    cases ez
    subst e4 e5
    have hg := k2.1.free hT
    exact ⟨upd G2 T (.tup [v, u, t]), same_new hg, k2.new hT, .tup (.inl (.inl upd_same)) (.cons ((rv.mono g2).mono (same_new hg)) (.cons ((ru.mono g2).mono (same_new hg)) (.cons ((rt.mono g2).mono (same_new hg)) .nil)))⟩
theorem wi_en {ar : TA} {Rx : List Dt → Prop} (h : WA K ar δ fun es => ∃ d1 xs, es = [.dat d1] ∧ seqOf d1 = some xs ∧ Rx (enums 0 xs)) : WI K (iEn K ar) δ Rx := fun ω σ G H Q e k q => h ω σ G H _ e k fun vs es G1 H1 g1 k1 r ⟨d1, xs, e1, s1, rx⟩ => by
  subst e1
  obtain ⟨v, rfl, r1⟩ := rel1 r
  obtain ⟨a, n1, us, rfl, ra, fa⟩ := seq_kn r1 s1
  refine ⟨a, n1, us, rfl, fa (Same.refl _) k1.1, q _ _ G1 H1 g1 k1 (fun ω2 G2 H2 i g2 k2 => ⟨fun hi => ⟨us, fa g2 k2.1, ?_⟩, fun z hz => ?_⟩) rx⟩
  · rw [← hi, enums_len, ra.len]
  · obtain ⟨x, hx, e3⟩ := enums_get hz
    subst e3
    obtain ⟨v, hv, rv⟩ := ra.at hx
    refine ⟨⟨us, v, fa g2 k2.1, hv⟩, fun w H3 ⟨T, x', e4, hT, e5, f1⟩ => ?_⟩
    have ex := f1 _ (fa g2 k2.1)
    rw [hv] at ex
    cases ex
    subst e4 e5
    have hg := k2.1.free hT
    refine ⟨upd G2 T (.tup [.int (0 + (i : Int)), v]), same_new hg, k2.new hT, .tup (.inl (.inl upd_same)) (.cons ?_ (.cons ((rv.mono g2).mono (same_new hg)) .nil))⟩
    rw [show ((0 + i : Nat) : Int) = 0 + (i : Int) by omega]
    exact .int _
end
end DW
namespace DW
open PySem PySem.Spec PyProof.Rows L2
variable [Tabl]
/-! ### lcm, truth -/
def rLcm : List V → Hp → VK → Prop := fun vs H Q => ∃ a b : Int, vs = [.int a, .int b] ∧ (a.natAbs < 2 ^ 64 ∧ b.natAbs < 2 ^ 64) ∧ Q (.int ((Nat.lcm a.natAbs b.natAbs : Nat) : Int)) H
theorem cr_lcm {X : Cx} : CallR X (.builtin "math.lcm") rLcm := fun pins s σ H vs us Q I r ⟨a, b, e, ⟨h1, h2⟩, q⟩ => by
  subst e
  obtain ⟨t, u, rfl⟩ := Vals.int2 r
  exact PySem.W.mc_lcm h1 h2 fun _ => ⟨.int _, H, I.tok _, ⟨_, rfl⟩, q⟩
section
variable {K : PySem.W.Frag} {δ : Nm} {te : TE} {R : Dt → Prop} {Rb : Bool → Prop}
theorem b_lcm {i j : Int} (h1 : i.natAbs < 2 ^ 64) (h2 : j.natAbs < 2 ^ 64) (r : R (.int ((Nat.lcm i.natAbs j.natAbs : Nat) : Int))) : CbD K rLcm [.dat (.int i), .dat (.int j)] R := fun ω G H vs Q k h q => by
  obtain ⟨v, u, rfl, r1, r2⟩ := rel2 h
  obtain rfl := r1.int_inv
  obtain rfl := r2.int_inv
  exact ⟨i, j, rfl, ⟨h1, h2⟩, q _ _ G H (Same.refl G) k (.int _) r⟩
def truD : Dt → Option Bool
  | .none => some false
  | .bool b => some b
  | .int i => some (i != 0)
  | .list xs => some !xs.isEmpty
  | .tuple xs => some !xs.isEmpty
  | _ => none
theorem all_empty {G : Hp} {vs : List V} {ds : List Dt} (h : RpAll K G vs ds) : (!ds.isEmpty) = !vs.isEmpty := by
  cases ds with
  | nil => cases h; rfl
  | cons d ds => cases h; rfl
theorem wt_tru (h : W K te δ fun d => ∃ b, truD d = some b ∧ Rb b) : WT K (tTru K te) δ Rb := fun ω σ G H Q e k q => h ω σ G H _ e k fun v d G1 H1 g1 k1 r1 ⟨b, e1, rb⟩ => by
  refine ⟨b, ?_, q b b G1 H1 g1 k1 rfl rb⟩
  cases d <;> try cases e1
  · obtain rfl := r1.none_inv
    rfl
  · obtain rfl := r1.bool_inv
    rfl
  · obtain rfl := r1.int_inv
    rfl
  · obtain ⟨a, vs, rfl, hs, ra⟩ := r1.list_inv
    exact .inl ⟨vs, .inl (.inl (k1.1 _ _ hs)), all_empty ra⟩
  · obtain ⟨a, vs, rfl, hs, ra⟩ := r1.tuple_inv
    exact .inr (.inl ⟨vs, same_t k1.1 hs, all_empty ra⟩)
/-- range with a step -/
theorem gives_rs {G : Hp} {lo c : Int} {n : Nat} : Gives K G (Itc lo c n) ((stepI lo c n).map .int) := fun ω2 G2 H2 i g2 k2 => by
  have hl : ((stepI lo c n).map PyData.int).length = n := by
    unfold stepI
    rw [List.length_map, List.length_map, List.length_range]
  refine ⟨fun hi => by rw [hl] at hi; exact Nat.le_of_eq hi, fun x hx => ?_⟩
  have hi : i < n := by
    have := (List.getElem?_eq_some_iff.mp hx).1
    omega
  unfold stepI at hx
  rw [List.getElem?_map, List.getElem?_map, List.getElem?_range hi] at hx
  cases hx
  refine ⟨hi, fun v H3 ⟨e1, e2⟩ => ?_⟩
  subst e1 e2
  exact ⟨G2, Same.refl _, k2, .int _⟩
theorem wi_rng3 {ar : TA} {Rx : List Dt → Prop} (h : WA K ar δ fun es => ∃ (i j c : Int) (n : Nat), es = [.dat (.int i), .dat (.int j), .dat (.int c)] ∧ RgC i j c n ∧ Rx ((stepI i c n).map .int)) : WI K (iRng3 ar) δ Rx := fun ω σ G H Q e k q => h ω σ G H _ e k fun vs es G1 H1 g1 k1 r ⟨i, j, c, n, e1, h1, rx⟩ => by
  subst e1
  obtain ⟨v, u, t, rfl, r1, r2, r3⟩ := rel3 r
  obtain rfl := r1.int_inv
  obtain rfl := r2.int_inv
  obtain rfl := r3.int_inv
  exact ⟨i, j, c, n, rfl, h1, q _ _ G1 H1 g1 k1 gives_rs rx⟩
end
/-! ### groups and offsets -/
structure Crowd (ps : List (Int × List Int)) : Prop where
  l0 : 2 ≤ ps.length
  l1 : ps.length ≤ 4
  all : ∀ p ∈ ps, Beat p.1 p.2
structure Offs (ps : List (Int × List Int)) (os : List Int) : Prop where
  len : os.length = ps.length
  all : ∀ q ∈ os.zip ps, 0 ≤ q.1 ∧ q.1 < q.2.1
def offsD (os : List Int) : Dt := .tuple (os.map .int)
theorem map_pat_inj : ∀ {ps qs : List (Int × List Int)}, ps.map patP = qs.map patP → ps = qs
  | [], [], _ => rfl
  | [], _ :: _, h => by cases h
  | _ :: _, [], h => by cases h
  | p :: ps, q :: qs, h => by
    rw [List.map_cons, List.map_cons] at h
    injection h with h1 h2
    obtain ⟨a, b⟩ := patD_inj h1
    rw [Prod.ext a b, map_pat_inj h2]
theorem crowd_inj {ps qs : List (Int × List Int)} (h : crowdD ps = crowdD qs) : ps = qs := by
  unfold crowdD at h
  injection h with h
  exact map_pat_inj h
theorem offs_inj {os ms : List Int} (h : offsD os = offsD ms) : os = ms := by
  unfold offsD at h
  injection h with h
  exact (List.map_inj_right (fun a b h => by injection h)).mp h
theorem Offs.at {ps : List (Int × List Int)} {os : List Int} (h : Offs ps os) {i : Nat} {p : Int × List Int} (hp : ps[i]? = some p) : ∃ o, os[i]? = some o ∧ 0 ≤ o ∧ o < p.1 := by
  have l := (List.getElem?_eq_some_iff.mp hp).1
  have l2 : i < os.length := by rw [h.len]; exact l
  refine ⟨os[i], List.getElem?_eq_getElem l2, ?_⟩
  have hz : (os.zip ps)[i]? = some (os[i], p) := by
    rw [List.getElem?_zip_eq_some]
    exact ⟨List.getElem?_eq_getElem l2, hp⟩
  exact h.all _ (List.mem_of_getElem? hz)
/-- the span, from left to right -/
theorem whole_nil : Whole [] 1 := ⟨by omega, fun p hp => absurd hp (List.not_mem_nil), fun x hx _ => hx⟩
theorem whole_snoc {ps : List (Int × List Int)} {W : Int} {p : Int × List Int} (h : Whole ps W) (hp : 0 < p.1) : Whole (ps ++ [p]) ((Nat.lcm W.natAbs p.1.natAbs : Nat) : Int) := by
  have w0 := h.pos
  refine ⟨?_, fun q hq => ?_, fun x x0 hx => ?_⟩
  · have := Nat.lcm_pos (m := W.natAbs) (n := p.1.natAbs) (by omega) (by omega)
    omega
  · rcases List.mem_append.mp hq with z | z
    · exact Int.dvd_trans (h.dvd q z) (Int.natAbs_dvd_natAbs.mp (by rw [Int.natAbs_natCast]; exact Nat.dvd_lcm_left _ _))
    · rw [List.mem_singleton.mp z]
      exact Int.natAbs_dvd_natAbs.mp (by rw [Int.natAbs_natCast]; exact Nat.dvd_lcm_right _ _)
  · have dW : W ∣ x := by
      -- the least common one divides each common one
      have e := Int.emod_add_mul_ediv x W
      by_cases z : x % W = 0
      · exact Int.dvd_of_emod_eq_zero z
      · have r0 := Int.emod_nonneg x (show W ≠ 0 by omega)
        have r1 := Int.emod_lt_of_pos x (show 0 < W by omega)
        have := h.least (x % W) (by omega) fun q hq => by
          have d1 := hx q (List.mem_append_left _ hq)
          have d2 := h.dvd q hq
          rw [Int.emod_def]
          exact Int.dvd_sub d1 (Int.dvd_trans d2 (Int.dvd_mul_right _ _))
        omega
    have dp : p.1 ∣ x := hx p (List.mem_append_right _ (List.mem_singleton.mpr rfl))
    have dl : Nat.lcm W.natAbs p.1.natAbs ∣ x.natAbs := Nat.lcm_dvd (Int.natAbs_dvd_natAbs.mpr dW) (Int.natAbs_dvd_natAbs.mpr dp)
    have := Nat.le_of_dvd (by omega) dl
    omega
theorem lcm_le (a b : Nat) : Nat.lcm a b ≤ a * b := PySem.W.mc_lcm_le a b
theorem tint_inj {ns ms : List Int} (h : PyData.tuple (ns.map .int) = .tuple (ms.map .int)) : ns = ms := by
  injection h with h
  exact (List.map_inj_right (fun a b h => by injection h)).mp h
theorem enums_pat (ps : List (Int × List Int)) {i : Nat} {x : Dt} (h : (enums 0 (ps.map patP))[i]? = some x) : ∃ p, ps[i]? = some p ∧ x = .tuple [.int (i : Int), .tuple [.int p.1, .tuple (p.2.map .int)]] := by
  obtain ⟨y, h1, h2⟩ := enums_get h
  rw [List.getElem?_map] at h1
  cases hp : ps[i]? with
  | none => rw [hp] at h1; cases h1
  | some p =>
    rw [hp] at h1
    cases h1
    rw [Nat.zero_add] at h2
    exact ⟨p, rfl, h2⟩
def SetOf (k : Nat) (ss : List Int) : Prop := ss ≠ [] ∧ ss.Pairwise (· < ·) ∧ ∀ s ∈ ss, 0 ≤ s ∧ s < (k : Int)
theorem SetOf.len {k : Nat} {ss : List Int} (h : SetOf k ss) : ss.length ≤ k := by
  have := asc_len (lo := 0) (hi := k) h.2.1 h.2.2 (by omega)
  omega
theorem cutD1 (xs : List Dt) : DW.cutD xs (some 1) none = xs.drop 1 := by
  have e : HT.sIx xs.length 0 (some 1) = min 1 xs.length := HT.sIx_nat xs.length 0 1
  unfold DW.cutD
  rw [e, HT.sIx_none]
  cases xs with
  | nil => rfl
  | cons x r =>
    rw [show min 1 (x :: r).length = 1 by rw [List.length_cons]; omega]
    show List.take ((x :: r).length - 1) r = r
    rw [List.length_cons, Nat.add_sub_cancel]
    exact List.take_length
theorem whole_ex {ps : List (Int × List Int)} (h : ∀ p ∈ ps, 0 < p.1) : ∃ W, Whole ps W := by
  have z : ∀ i : Nat, i ≤ ps.length → ∃ W, Whole (ps.take i) W := fun i => by
    induction i with
    | zero => exact fun _ => ⟨1, whole_nil⟩
    | succ i ih =>
      intro hi
      obtain ⟨W, hW⟩ := ih (by omega)
      have hp : ps[i]? = some ps[i] := List.getElem?_eq_getElem (by omega)
      have z := whole_snoc hW (h _ (List.getElem_mem (l := ps) (n := i) (by omega)))
      rw [← take_snoc hp] at z
      exact ⟨_, z⟩
  obtain ⟨W, hW⟩ := z ps.length (Nat.le_refl _)
  rw [List.take_length] at hW
  exact ⟨W, hW⟩
theorem crowd_tidy {ps : List (Int × List Int)} (h : Crowd ps) : Tidy (crowdD ps) 3 10404 := by
  have l1 := h.l1
  have z := tidyAll_of (ds := ps.map patP) (p := 2) (w := 2600) fun d hd => by
    obtain ⟨p, hp, rfl⟩ := List.mem_map.mp hd
    have hb := h.all p hp
    have n0 := hb.n0
    have n1 := hb.n1
    have few := hb.few
    exact tidy_pat (by omega) n1 (fun s hs => by
      have := hb.inn s hs
      omega) (by omega)
  rw [List.length_map] at z
  have : ps.length * 2601 ≤ 4 * 2601 := Nat.mul_le_mul_right _ l1
  exact (tidy_tup z).mono (Nat.le_refl _) (by omega)
theorem offs_tidy {ps : List (Int × List Int)} {os : List Int} (h : Crowd ps) (ho : Offs ps os) : Tidy (offsD os) 1 164 := by
  have l1 := h.l1
  have lo := ho.len
  have z := tidy_ints (ns := os) fun o hm => by
    obtain ⟨i, hi, e⟩ := List.getElem_of_mem hm
    have hp : ps[i]? = some ps[i] := List.getElem?_eq_getElem (by omega)
    obtain ⟨o', h1, h2, h3⟩ := ho.at hp
    rw [List.getElem?_eq_getElem hi, e] at h1
    cases h1
    have := (h.all ps[i] (List.getElem_mem _)).n1
    omega
  have : os.length * 41 ≤ 4 * 41 := Nat.mul_le_mul_right _ (by omega)
  exact (tidy_tup z).mono (Nat.le_refl _) (by omega)
end DW
namespace DW
open PySem PySem.Spec PyProof.Rows L2
variable [Tabl]
/-! ### steps upwards -/
theorem size_up {a c : Int} (c0 : 0 < c) (n : Nat) : Builtin.Range.rangeSize a (a + c * n) c = n := by
  unfold Builtin.Range.rangeSize
  rw [if_pos (show c > 0 from c0)]
  cases n with
  | zero =>
    rw [if_neg (by omega)]
    rfl
  | succ m =>
    have e : c * ((m + 1 : Nat) : Int) = c * m + c := by rw [Int.natCast_succ, Int.mul_add, Int.mul_one]
    have p : 0 ≤ c * (m : Int) := Int.mul_nonneg (by omega) (by omega)
    rw [if_pos (by omega)]
    have d : (a + c * ((m + 1 : Nat) : Int) - a - 1) / c = m := by
      rw [show a + c * ((m + 1 : Nat) : Int) - a - 1 = (c - 1) + c * m by omega, Int.add_mul_ediv_left _ _ (by omega), Int.ediv_eq_zero_of_lt (by omega) (by omega)]
      omega
    rw [d]
    omega
theorem rgc_up {a c : Int} {n : Nat} (a0 : 0 ≤ a) (c0 : 0 < c) (c1 : c < 1073741824) (hb : a + c * n < 4611686018427387904) : RgC a (a + c * n) c n := by
  have s := size_up (a := a) c0 n
  have p : (n : Int) ≤ c * n := by
    have := Int.mul_le_mul_of_nonneg_right (show 1 ≤ c by omega) (show (0 : Int) ≤ (n : Int) by omega)
    omega
  refine ⟨by omega, by omega, ?_, s⟩
  unfold Builtin.Range.small
  rw [s, if_pos (show c > 0 from c0)]
  simp only [Builtin.Range.rangeFitsLong, Bool.and_eq_true, Bool.or_eq_true, decide_eq_true_eq, beq_iff_eq]
  omega
/-! ### so many ticks later -/
/-- for each pattern: its period, the offset, the other one -/
abbrev Tri := Int × Int × Int
def Sat (zs : List Tri) (t : Int) : Prop := ∀ z ∈ zs, (z.2.1 + t) % z.1 = z.2.2
structure Near (zs : List Tri) (l s : Int) : Prop where
  s0 : 1 ≤ s
  dvd : ∀ z ∈ zs, z.1 ∣ s
  least : ∀ x, (∀ z ∈ zs, z.1 ∣ x) → s ∣ x
  l0 : 0 ≤ l
  l1 : l < s
  sat : ∀ t, Sat zs t ↔ s ∣ t - l
theorem near_nil : Near [] 0 1 := ⟨by omega, fun z hz => absurd hz List.not_mem_nil, fun x _ => Int.one_dvd x, by omega, by omega, fun t => ⟨fun _ => Int.one_dvd _, fun _ z hz => absurd hz List.not_mem_nil⟩⟩
theorem rest_iff {n o q t : Int} (n0 : 0 < n) (q0 : 0 ≤ q) (q1 : q < n) : (o + t) % n = q ↔ t % n = (q - o) % n := by
  constructor
  · intro h
    rw [← h, Int.sub_eq_add_neg, em_add, show o + t + -o = t by omega]
  · intro h
    have e : (t % n + o) % n = ((q - o) % n + o) % n := by rw [h]
    rw [em_add, em_add, show q - o + o = q by omega, Int.emod_eq_of_lt q0 q1] at e
    rw [Int.add_comm]
    exact e
theorem mod_dvd {n x y : Int} (h : x % n = y % n) : n ∣ x - y := Int.dvd_of_emod_eq_zero (by rw [Int.sub_emod, h, Int.sub_self]; exact Int.zero_emod n)
theorem dvd_mod {n x y : Int} (h : n ∣ x - y) : x % n = y % n := by
  obtain ⟨k, hk⟩ := h
  have e : x = y + n * k := by omega
  rw [e, Int.add_mul_emod_self_left]
/-- the first of l, l + s, .. with the rest -/
theorem near_snoc {zs : List Tri} {l s n o q : Int} (h : Near zs l s) (n0 : 0 < n) (q0 : 0 ≤ q) (q1 : q < n) {i : Nat} (hi : (l + s * (i : Int)) % n = (q - o) % n) (first : ∀ j : Nat, j < i → (l + s * (j : Int)) % n ≠ (q - o) % n) :
    Near (zs ++ [(n, o, q)]) (l + s * (i : Int)) ((Nat.lcm s.natAbs n.natAbs : Nat) : Int) := by
  have s0 := h.s0
  have l0 := h.l0
  have l1 := h.l1
  have ds : s ∣ ((Nat.lcm s.natAbs n.natAbs : Nat) : Int) := Int.natAbs_dvd_natAbs.mp (by rw [Int.natAbs_natCast]; exact Nat.dvd_lcm_left _ _)
  have dn : n ∣ ((Nat.lcm s.natAbs n.natAbs : Nat) : Int) := Int.natAbs_dvd_natAbs.mp (by rw [Int.natAbs_natCast]; exact Nat.dvd_lcm_right _ _)
  have both : ∀ x, s ∣ x → n ∣ x → ((Nat.lcm s.natAbs n.natAbs : Nat) : Int) ∣ x := fun x h1 h2 => Int.natAbs_dvd_natAbs.mp (by rw [Int.natAbs_natCast]; exact Nat.lcm_dvd (Int.natAbs_dvd_natAbs.mpr h1) (Int.natAbs_dvd_natAbs.mpr h2))
  have pos : 0 < Nat.lcm s.natAbs n.natAbs := Nat.lcm_pos (by omega) (by omega)
  have si : 0 ≤ s * (i : Int) := Int.mul_nonneg (by omega) (by omega)
  refine ⟨by omega, fun z hz => ?_, fun x hx => ?_, by omega, ?_, fun t => ?_⟩
  · rcases List.mem_append.mp hz with y | y
    · exact Int.dvd_trans (h.dvd z y) ds
    · rw [List.mem_singleton.mp y]
      exact dn
  · exact both x (h.least x fun z hz => hx z (List.mem_append_left _ hz)) (hx (n, o, q) (List.mem_append_right _ (List.mem_singleton.mpr rfl)))
  · obtain ⟨k, hk⟩ := ds
    rw [hk]
    have k0 : 0 < k := by
      rcases (show 0 < k ∨ k ≤ 0 by omega) with z | z
      · exact z
      · have := Int.mul_nonpos_of_nonneg_of_nonpos (show 0 ≤ s by omega) z
        omega
    by_cases c : (i : Int) < k
    · have := Int.mul_le_mul_of_nonneg_left (show (i : Int) + 1 ≤ k by omega) (show 0 ≤ s by omega)
      rw [Int.mul_add, Int.mul_one] at this
      omega
    · refine absurd ?_ (first (i - k.toNat) (by omega))
      have e : ((i - k.toNat : Nat) : Int) = (i : Int) - k := by omega
      rw [e, Int.mul_sub, ← hk, ← hi]
      refine dvd_mod ?_
      obtain ⟨m, hm⟩ := dn
      exact ⟨-m, by rw [Int.mul_neg]; omega⟩
  · have last : (o + t) % n = q ↔ n ∣ t - (l + s * (i : Int)) := by
      rw [rest_iff n0 q0 q1, ← hi]
      exact ⟨mod_dvd, dvd_mod⟩
    have e : t - (l + s * (i : Int)) = (t - l) - s * (i : Int) := by omega
    constructor
    · intro hs
      refine both _ ?_ (last.mp (hs (n, o, q) (List.mem_append_right _ (List.mem_singleton.mpr rfl))))
      rw [e]
      exact Int.dvd_sub ((h.sat t).mp fun z hz => hs z (List.mem_append_left _ hz)) (Int.dvd_mul_right _ _)
    · intro hd z hz
      rcases List.mem_append.mp hz with y | y
      · refine (h.sat t).mpr ?_ z y
        have := Int.dvd_add (Int.dvd_trans ds hd) (Int.dvd_mul_right s (i : Int))
        rw [show t - (l + s * (i : Int)) + s * (i : Int) = t - l by omega] at this
        exact this
      · rw [List.mem_singleton.mp y]
        exact last.mpr (Int.dvd_trans dn hd)
theorem near_none {zs : List Tri} {l s n o q : Int} (h : Near zs l s) (n0 : 0 < n) (q0 : 0 ≤ q) (q1 : q < n) (none : ∀ j : Nat, (j : Int) < n → (l + s * (j : Int)) % n ≠ (q - o) % n) (t : Int) : ¬ Sat (zs ++ [(n, o, q)]) t := fun hs => by
  obtain ⟨m, hm⟩ := (h.sat t).mp fun z hz => hs z (List.mem_append_left _ hz)
  have hq := (rest_iff n0 q0 q1).mp (hs (n, o, q) (List.mem_append_right _ (List.mem_singleton.mpr rfl)))
  have m0 := Int.emod_nonneg m (show n ≠ 0 by omega)
  have m1 := Int.emod_lt_of_pos m n0
  refine none (m % n).toNat (by omega) ?_
  rw [Int.toNat_of_nonneg m0, ← hq]
  refine dvd_mod ⟨-(s * (m / n)), ?_⟩
  have e := Int.emod_add_mul_ediv m n
  have e2 : s * m = s * (m % n) + n * (s * (m / n)) := by
    rw [← Int.mul_assoc, Int.mul_comm n s, Int.mul_assoc, ← Int.mul_add, e]
  rw [Int.mul_neg]
  omega
/-- the least number of ticks later, or None -/
inductive LaterD (zs : List Tri) : Dt → Prop
  | at {t : Int} (t0 : 0 ≤ t) (h : Sat zs t) (least : ∀ c, 0 ≤ c → c < t → ¬ Sat zs c) : LaterD zs (.int t)
  | no (h : ∀ t, ¬ Sat zs t) : LaterD zs .none
theorem LaterD.unique {zs : List Tri} {d e : Dt} (h : LaterD zs d) (h' : LaterD zs e) : d = e := by
  cases h with
  | «at» a0 a1 a2 =>
    cases h' with
    | «at» b0 b1 b2 =>
      rename_i t t'
      rcases Int.lt_trichotomy t t' with z | z | z
      · exact absurd a1 (b2 t a0 z)
      · rw [z]
      · exact absurd b1 (a2 t' b0 z)
    | no b => exact absurd a1 (b _)
  | no a =>
    cases h' with
    | «at» b0 b1 b2 => exact absurd b1 (a _)
    | no b => rfl
theorem near_later {zs : List Tri} {l s : Int} (h : Near zs l s) : LaterD zs (.int l) := .at h.l0 ((h.sat l).mpr (by rw [Int.sub_self]; exact Int.dvd_zero s)) fun c c0 c1 hc => by
  have d := (h.sat c).mp hc
  have l1 := h.l1
  have l0 := h.l0
  obtain ⟨k, hk⟩ := d
  have s0 := h.s0
  rcases (show k < 0 ∨ 0 ≤ k by omega) with z | z
  · have := Int.mul_le_mul_of_nonneg_left (show k ≤ -1 by omega) (show 0 ≤ s by omega)
    rw [Int.mul_neg, Int.mul_one] at this
    omega
  · have := Int.mul_nonneg (show 0 ≤ s by omega) z
    omega
/-- group, offsets, others side by side -/
def triZ : List (Int × List Int) → List Int → List Int → List Tri
  | p :: ps, o :: os, q :: qs => (p.1, o, q) :: triZ ps os qs
  | _, _, _ => []
def triD (z : Tri) : Dt := .tuple [.int z.1, .int z.2.1, .int z.2.2]
theorem trips_tri : ∀ (ps : List (Int × List Int)) (os qs : List Int), trips (ps.map fun p => .int p.1) (os.map .int) (qs.map .int) = (triZ ps os qs).map triD
  | [], _, _ => rfl
  | _ :: _, [], _ => rfl
  | _ :: _, _ :: _, [] => rfl
  | p :: ps, o :: os, q :: qs => by
    show _ :: trips (ps.map fun p => .int p.1) (os.map .int) (qs.map .int) = _
    rw [trips_tri ps os qs]
    rfl
theorem tri_ok : ∀ {ps : List (Int × List Int)} {os qs : List Int}, (∀ p ∈ ps, Beat p.1 p.2) → os.length = ps.length → qs.length = ps.length → (∀ x ∈ qs.zip ps, 0 ≤ x.1 ∧ x.1 < x.2.1) → (triZ ps os qs).length = ps.length ∧ ∀ z ∈ triZ ps os qs, (2 ≤ z.1 ∧ z.1 ≤ 60) ∧ 0 ≤ z.2.2 ∧ z.2.2 < z.1
  | [], _, _, _, _, _, _ => ⟨rfl, fun z hz => absurd hz List.not_mem_nil⟩
  | p :: ps, [], _, _, h, _, _ => by cases h
  | p :: ps, _ :: _, [], _, _, h, _ => by cases h
  | p :: ps, o :: os, q :: qs, hb, h1, h2, h3 => by
    have ih := tri_ok (ps := ps) (os := os) (qs := qs) (fun r hr => hb r (List.mem_cons_of_mem _ hr)) (Nat.succ.inj h1) (Nat.succ.inj h2) fun x hx => h3 x (List.mem_cons_of_mem _ hx)
    refine ⟨by show (triZ ps os qs).length + 1 = _; rw [ih.1]; rfl, fun z hz => ?_⟩
    rcases List.mem_cons.mp hz with y | y
    · rw [y]
      have b := hb p List.mem_cons_self
      exact ⟨⟨b.n0, b.n1⟩, h3 (q, p) List.mem_cons_self⟩
    · exact ih.2 z y
end DW
namespace DW
open PySem PySem.Spec PyProof.Rows L2
variable [Tabl]
/-! ### who agrees in pairs has a common tick -/
theorem bez (a b : Nat) : ∃ u v : Int, ((Nat.gcd a b : Nat) : Int) = a * u + b * v := by
  induction a, b using Nat.gcd.induction with
  | H0 n => exact ⟨0, 1, by rw [Nat.gcd_zero_left]; omega⟩
  | H1 m n h ih =>
    obtain ⟨u, v, e⟩ := ih
    refine ⟨v - (n / m : Nat) * u, u, ?_⟩
    rw [Nat.gcd_rec, e]
    have d : ((n % m : Nat) : Int) = (n : Int) - (m : Int) * ((n / m : Nat) : Int) := by
      have := Nat.mod_add_div n m
      have q : ((n % m + m * (n / m) : Nat) : Int) = (n : Int) := by rw [this]
      rw [Int.natCast_add, Int.natCast_mul] at q
      omega
    rw [d, Int.sub_mul, Int.mul_sub, Int.mul_assoc]
    omega
theorem gcd_two {a b c x : Nat} (ha : Nat.gcd a c ∣ x) (hb : Nat.gcd b c ∣ x) : Nat.gcd (Nat.lcm a b) c ∣ x := by
  rcases Nat.eq_zero_or_pos a with z | a0
  · subst z
    rw [Nat.lcm_zero_left]
    exact ha
  · have g0 : 0 < Nat.gcd a b := Nat.gcd_pos_of_pos_left _ a0
    obtain ⟨a', b', co, e1, e2⟩ := Nat.exists_coprime a b
    have l1 : Nat.lcm a b = a * b' := by
      unfold Nat.lcm
      have : a * b = a * b' * Nat.gcd a b := by
        rw [Nat.mul_assoc, ← e2]
      rw [this, Nat.mul_div_cancel _ g0]
    have l2 : Nat.lcm a b = b * a' := by
      unfold Nat.lcm
      have : a * b = b * a' * Nat.gcd a b := by
        rw [Nat.mul_assoc, ← e1, Nat.mul_comm]
      rw [this, Nat.mul_div_cancel _ g0]
    have d1 : Nat.gcd (Nat.lcm a b) c ∣ x * b' := by
      have : Nat.gcd (Nat.lcm a b) c ∣ Nat.gcd (a * b') (c * b') := Nat.dvd_gcd (by rw [← l1]; exact Nat.gcd_dvd_left _ _) (Nat.dvd_trans (Nat.gcd_dvd_right _ _) (Nat.dvd_mul_right _ _))
      rw [Nat.gcd_mul_right] at this
      exact Nat.dvd_trans this (Nat.mul_dvd_mul_right ha b')
    have d2 : Nat.gcd (Nat.lcm a b) c ∣ x * a' := by
      have : Nat.gcd (Nat.lcm a b) c ∣ Nat.gcd (b * a') (c * a') := Nat.dvd_gcd (by rw [← l2]; exact Nat.gcd_dvd_left _ _) (Nat.dvd_trans (Nat.gcd_dvd_right _ _) (Nat.dvd_mul_right _ _))
      rw [Nat.gcd_mul_right] at this
      exact Nat.dvd_trans this (Nat.mul_dvd_mul_right hb a')
    have := Nat.dvd_gcd d1 d2
    rw [Nat.gcd_mul_left, show Nat.gcd b' a' = 1 by rw [Nat.gcd_comm]; exact co, Nat.mul_one] at this
    exact this
def lcmL : List Tri → Nat
  | [] => 1
  | z :: zs => Nat.lcm z.1.natAbs (lcmL zs)
theorem lcmL_gcd {n x : Nat} : ∀ {zs : List Tri}, (∀ z ∈ zs, Nat.gcd z.1.natAbs n ∣ x) → Nat.gcd (lcmL zs) n ∣ x
  | [], _ => by
    show Nat.gcd 1 n ∣ x
    rw [Nat.gcd_one_left]
    exact Nat.one_dvd x
  | z :: zs, h => gcd_two (h z List.mem_cons_self) (lcmL_gcd fun y hy => h y (List.mem_cons_of_mem _ hy))
theorem lcmL_dvd : ∀ {zs : List Tri}, ∀ z ∈ zs, z.1 ∣ ((lcmL zs : Nat) : Int)
  | [], z, h => absurd h List.not_mem_nil
  | y :: zs, z, h => by
    rcases List.mem_cons.mp h with e | h
    · rw [e]
      exact Int.natAbs_dvd_natAbs.mp (by rw [Int.natAbs_natCast]; exact Nat.dvd_lcm_left _ _)
    · exact Int.dvd_trans (lcmL_dvd z h) (Int.natAbs_dvd_natAbs.mp (by rw [Int.natAbs_natCast, Int.natAbs_natCast]; exact Nat.dvd_lcm_right _ _))
/-- the differences of two agree but for the common factor -/
def Ag (z y : Tri) : Prop := ((Nat.gcd z.1.natAbs y.1.natAbs : Nat) : Int) ∣ z.2.2 - y.2.2 - (z.2.1 - y.2.1)
theorem ag_of_sat {zs : List Tri} {z y : Tri} {t : Int} (hz : z ∈ zs) (hy : y ∈ zs) (h : Sat zs t) : Ag z y := by
  have d1 : z.1 ∣ z.2.1 + t - z.2.2 := by
    have := h z hz
    rw [← this, Int.emod_def]
    exact ⟨(z.2.1 + t) / z.1, by omega⟩
  have d2 : y.1 ∣ y.2.1 + t - y.2.2 := by
    have := h y hy
    rw [← this, Int.emod_def]
    exact ⟨(y.2.1 + t) / y.1, by omega⟩
  have g1 : ((Nat.gcd z.1.natAbs y.1.natAbs : Nat) : Int) ∣ z.1 := Int.natAbs_dvd_natAbs.mp (by rw [Int.natAbs_natCast]; exact Nat.gcd_dvd_left _ _)
  have g2 : ((Nat.gcd z.1.natAbs y.1.natAbs : Nat) : Int) ∣ y.1 := Int.natAbs_dvd_natAbs.mp (by rw [Int.natAbs_natCast]; exact Nat.gcd_dvd_right _ _)
  have e := Int.dvd_sub (Int.dvd_trans g2 d2) (Int.dvd_trans g1 d1)
  have e2 : y.2.1 + t - y.2.2 - (z.2.1 + t - z.2.2) = z.2.2 - y.2.2 - (z.2.1 - y.2.1) := by omega
  rw [e2] at e
  exact e
theorem sat_of_ag {zs : List Tri} (hp : ∀ z ∈ zs, 0 < z.1 ∧ 0 ≤ z.2.2 ∧ z.2.2 < z.1) (h : ∀ (f l : Nat) (z y : Tri), l < f → zs[f]? = some z → zs[l]? = some y → Ag z y) : ∃ t, Sat zs t := by
  have st : ∀ i : Nat, i ≤ zs.length → ∃ l s, Near (zs.take i) l s := fun i => by
    induction i with
    | zero => exact fun _ => ⟨0, 1, near_nil⟩
    | succ i ih =>
      intro hi
      obtain ⟨l, s, hn⟩ := ih (by omega)
      have hz : zs[i]? = some zs[i] := List.getElem?_eq_getElem (by omega)
      obtain ⟨n0, q0, q1⟩ := hp _ (List.getElem_mem (l := zs) (n := i) (by omega))
      have s0 := hn.s0
      have hl : Sat (zs.take i) l := (hn.sat l).mpr (by rw [Int.sub_self]; exact Int.dvd_zero s)
      -- the common factor of step and period divides what is missing
      have hx : ∀ y ∈ zs.take i, Nat.gcd y.1.natAbs (zs[i]).1.natAbs ∣ ((zs[i]).2.2 - (zs[i]).2.1 - l).natAbs := fun y hy => by
        obtain ⟨j, hj, e⟩ := List.getElem_of_mem hy
        have hji : j < i := by
          rw [List.length_take] at hj
          omega
        have gy : zs[j]? = some y := by
          rw [← e, List.getElem_take]
          exact List.getElem?_eq_getElem _
        have a := h i j _ y hji hz gy
        unfold Ag at a
        rw [Nat.gcd_comm] at a
        have d2 : y.1 ∣ y.2.1 + l - y.2.2 := by
          have := hl y hy
          rw [← this, Int.emod_def]
          exact ⟨(y.2.1 + l) / y.1, by omega⟩
        have g1 : ((Nat.gcd y.1.natAbs (zs[i]).1.natAbs : Nat) : Int) ∣ y.1 := Int.natAbs_dvd_natAbs.mp (by rw [Int.natAbs_natCast]; exact Nat.gcd_dvd_left _ _)
        have c := Int.dvd_sub a (Int.dvd_trans g1 d2)
        have e2 : (zs[i]).2.2 - y.2.2 - ((zs[i]).2.1 - y.2.1) - (y.2.1 + l - y.2.2) = (zs[i]).2.2 - (zs[i]).2.1 - l := by omega
        rw [e2] at c
        have := Int.natAbs_dvd_natAbs.mpr c
        rw [Int.natAbs_natCast] at this
        exact this
      have hg := lcmL_gcd hx
      have sd : s ∣ ((lcmL (zs.take i) : Nat) : Int) := hn.least _ fun z hz => lcmL_dvd z hz
      have sg : Nat.gcd s.natAbs (zs[i]).1.natAbs ∣ ((zs[i]).2.2 - (zs[i]).2.1 - l).natAbs := by
        refine Nat.dvd_trans (Nat.dvd_gcd ?_ (Nat.gcd_dvd_right _ _)) hg
        have := Int.natAbs_dvd_natAbs.mpr sd
        rw [Int.natAbs_natCast] at this
        exact Nat.dvd_trans (Nat.gcd_dvd_left _ _) this
      obtain ⟨u, v, eb⟩ := bez s.natAbs (zs[i]).1.natAbs
      have sg' : ((Nat.gcd s.natAbs (zs[i]).1.natAbs : Nat) : Int) ∣ (zs[i]).2.2 - (zs[i]).2.1 - l := Int.natAbs_dvd_natAbs.mp (by rw [Int.natAbs_natCast]; exact sg)
      obtain ⟨k, hk⟩ := sg'
      rw [eb, Int.natAbs_of_nonneg (by omega), Int.natAbs_of_nonneg (by omega)] at hk
      have ex : ∃ j : Nat, (l + s * (j : Int)) % (zs[i]).1 = ((zs[i]).2.2 - (zs[i]).2.1) % (zs[i]).1 := by
        have m0 := Int.emod_nonneg (u * k) (show (zs[i]).1 ≠ 0 by omega)
        refine ⟨((u * k) % (zs[i]).1).toNat, dvd_mod ?_⟩
        rw [Int.toNat_of_nonneg m0, Int.emod_def]
        refine ⟨-(s * (u * k / (zs[i]).1) + v * k), ?_⟩
        have e3 : (zs[i]).2.2 - (zs[i]).2.1 = l + (s * u + (zs[i]).1 * v) * k := by omega
        rw [e3, Int.add_mul, Int.mul_sub, Int.mul_neg, Int.mul_add, Int.mul_assoc s u k, Int.mul_assoc (zs[i]).1 v k, ← Int.mul_assoc s (zs[i]).1, Int.mul_comm s (zs[i]).1, Int.mul_assoc]
        omega
      obtain ⟨j, hj, hmin⟩ : ∃ j : Nat, (l + s * (j : Int)) % (zs[i]).1 = ((zs[i]).2.2 - (zs[i]).2.1) % (zs[i]).1 ∧ ∀ c : Nat, c < j → (l + s * (c : Int)) % (zs[i]).1 ≠ ((zs[i]).2.2 - (zs[i]).2.1) % (zs[i]).1 := by
        obtain ⟨j, hj⟩ := ex
        induction j using Nat.strongRecOn with
        | ind j ihj =>
          by_cases c : ∃ c : Nat, c < j ∧ (l + s * (c : Int)) % (zs[i]).1 = ((zs[i]).2.2 - (zs[i]).2.1) % (zs[i]).1
          · obtain ⟨c, c1, c2⟩ := c
            exact ihj c c1 c2
          · exact ⟨j, hj, fun d d1 d2 => c ⟨d, d1, d2⟩⟩
      refine ⟨l + s * (j : Int), ((Nat.lcm s.natAbs (zs[i]).1.natAbs : Nat) : Int), ?_⟩
      rw [take_snoc hz]
      exact near_snoc (o := (zs[i]).2.1) hn n0 q0 q1 hj hmin
  obtain ⟨l, s, hn⟩ := st zs.length (Nat.le_refl _)
  rw [List.take_length] at hn
  exact ⟨l, (hn.sat l).mpr (by rw [Int.sub_self]; exact Int.dvd_zero s)⟩
theorem whole_dvd {ps : List (Int × List Int)} {W x : Int} (h : Whole ps W) (hx : ∀ p ∈ ps, p.1 ∣ x) : W ∣ x := by
  have w0 := h.pos
  by_cases z : x % W = 0
  · exact Int.dvd_of_emod_eq_zero z
  · have r0 := Int.emod_nonneg x (show W ≠ 0 by omega)
    have r1 := Int.emod_lt_of_pos x (show 0 < W by omega)
    have := h.least (x % W) (by omega) fun q hq => by
      rw [Int.emod_def]
      exact Int.dvd_sub (hx q hq) (Int.dvd_trans (h.dvd q hq) (Int.dvd_mul_right _ _))
    omega
theorem tri_get : ∀ {ps : List (Int × List Int)} {os qs : List Int} {i : Nat} {p : Int × List Int} {o q : Int}, ps[i]? = some p → os[i]? = some o → qs[i]? = some q → (triZ ps os qs)[i]? = some (p.1, o, q)
  | [], _, _, _, _, _, _, h, _, _ => by simp at h
  | _ :: _, [], _, _, _, _, _, _, h, _ => by simp at h
  | _ :: _, _ :: _, [], _, _, _, _, _, _, h => by simp at h
  | p :: ps, o :: os, q :: qs, 0, _, _, _, h1, h2, h3 => by
    cases h1
    cases h2
    cases h3
    rfl
  | p :: ps, o :: os, q :: qs, i + 1, p', o', q', h1, h2, h3 => by
    have := tri_get (ps := ps) (os := os) (qs := qs) (i := i) (p := p') (o := o') (q := q') (by simpa using h1) (by simpa using h2) (by simpa using h3)
    show (triZ ps os qs)[i]? = _
    exact this
theorem offs_of {ps : List (Int × List Int)} {os : List Int} (hl : os.length = ps.length) (h : ∀ (i : Nat) (p : Int × List Int) (o : Int), ps[i]? = some p → os[i]? = some o → 0 ≤ o ∧ o < p.1) : Offs ps os := by
  refine ⟨hl, fun q hq => ?_⟩
  obtain ⟨i, hi⟩ := List.mem_iff_getElem?.mp hq
  rw [List.getElem?_zip_eq_some] at hi
  exact h i q.2 q.1 hi.2 hi.1
/-- x, y, z = a, b, c -/
theorem ws_par3 {K : PySem.W.Frag} {δ : Nm} {ar : TA} {nx bk ct : Nm → Prop} {rt : Dt → Prop} {i j l : Nat} (h : WA K ar δ fun es => ∃ a b c, es = [.dat a, .dat b, .dat c] ∧ nx (((δ.set i (.dat a)).set j (.dat b)).set l (.dat c))) : WS K (tPar3 i j l ar) δ nx rt bk ct := fun ω σ G H D s n r b c =>
  run_wg (Rel := fun G (vs : List V) (p : Dt × Dt × Dt) => ∃ u v w, vs = [u, v, w] ∧ Rp K G u p.1 ∧ Rp K G v p.2.1 ∧ Rp K G w p.2.2) (R := fun p => nx (((δ.set i (.dat p.1)).set j (.dat p.2.1)).set l (.dat p.2.2))) (t := fun σ H Q => ar σ H Q)
    (fun ω σ G H Q e k q => h ω σ G H Q e k fun vs es G' H' g k' ra ⟨a, b, c, e1, e2⟩ => by
      subst e1
      obtain ⟨u, v, w, z1, z2, z3, z4⟩ := rel3 ra
      exact q vs (a, b, c) G' H' g k' ⟨u, v, w, z1, z2, z3, z4⟩ e2) s fun vs p G1 H1 g1 s1 ⟨u, v, w, e1, r1, r2, r3⟩ q => ⟨u, v, w, e1, n _ _ G1 H1 g1 (((s1.set r1).set r2).set r3) q⟩
end DW
namespace DW
open PySem PySem.Spec PyProof.Rows L2
variable [Tabl]
/-! ### the least of a list of tuples of ints, or of other data that can be put in order -/
theorem vals_at : ∀ {xs : List V} {us : List Value} {i : Nat} {u : Value}, Vals xs us → us[i]? = some u → ∃ x, xs[i]? = some x ∧ RelV x u := by
  intro xs us i u r
  induction r generalizing i with
  | nil => intro e; simp at e
  | cons r1 r2 ih =>
    intro e
    cases i with
    | zero =>
      simp at e
      subst e
      exact ⟨_, rfl, r1⟩
    | succ i => exact ih (by simpa using e)
def rMinD (K : PySem.W.Frag) : List V → Hp → VK → Prop := fun vs H Q => ∃ a xs d ds, vs = [V.ref a] ∧ SqL K H a xs ∧ DpAll K H xs (d :: ds) ∧ (PyData.canLayAll0 (d :: ds) = true ∧ PySem.W.AlikeAll (d :: ds) ∧ PyData.depthAll (d :: ds) ≤ 60) ∧ ∀ (i : Nat) x, xs[i]? = some x → (d :: ds)[i]? = some (PySem.W.minD d ds) → Q x H
theorem lay_at : ∀ {ds : List Dt} {i : Nat} {d : Dt}, PyData.canLayAll0 ds = true → ds[i]? = some d → d.canLay0 = true
  | [], i, d, _, e => by simp at e
  | c :: ds, 0, d, h, e => by
    simp at e
    subst e
    rw [PyData.canLayAll0, Bool.and_eq_true] at h
    exact h.1
  | c :: ds, i + 1, d, h, e => by
    rw [PyData.canLayAll0, Bool.and_eq_true] at h
    exact lay_at (i := i) h.2 (by simpa using e)
theorem cr_minD {X : Cx} (hc : X.calm = true) (hu : X.A.units + 70 < cLine) : CallR X (.builtin "min") (rMinD X.K) := fun pins s σ H vs us Q I r ⟨a, xs, d, ds, e, hs, hd, ⟨hlay, hal, hdep⟩, q⟩ => by
  subst e
  obtain ⟨its, rv, hl, _⟩ := I.list hs
  rw [Vals.ref1 r]
  obtain ⟨as, rs⟩ := Dp.readsAll I _ _ _ hd rv
  refine PySem.W.min_list_data (I.ok.hd hc) hl.isList rs hal (by omega) fun i v h' tk bs hv hr hk => ?_
  have hv' : its[i]? = some v := by simpa using hv
  obtain ⟨x, hx, rx⟩ := vals_at rv hv'
  obtain ⟨cs, rc, il, _⟩ := PySem.W.readsAll_at rs i v hv'
  have e := (Reads.unique (Reads.keeps hk rc) _ _ hr).1
  refine ⟨x, H, I.kept (t' := tk) hk, rx, q i x hx ?_⟩
  rw [List.getElem?_eq_getElem il, ← e, List.getD_eq_getElem?_getD, List.getElem?_eq_getElem il]
  rfl
theorem b_minD {K : PySem.W.Frag} {R : Dt → Prop} {d : Dt} {ds : List Dt} (hl : PyData.canLayAll0 (d :: ds) = true) (ha : PySem.W.AlikeAll (d :: ds)) (hd : PyData.depthAll (d :: ds) ≤ 60) (r : R (PySem.W.minD d ds)) : CbD K (rMinD K) [.dat (.list (d :: ds))] R := fun ω G H vs Q k h q => by
  obtain ⟨v, rfl, rv⟩ := rel1 h
  obtain ⟨a, xs, rfl, hs, ra⟩ := rv.list_inv
  refine ⟨a, xs, d, ds, rfl, .inl (.inl (k.1 _ _ hs)), (ra.mono k.1).dp hl, ⟨hl, ha, hd⟩, fun i x hx hi => ?_⟩
  obtain ⟨c, hc, rx⟩ := ra.get hx
  rw [hi] at hc
  cases hc
  exact q _ _ G H (Same.refl G) k rx r
/-! ### stars in displays, xs.count(k) of a list of ints -/
section
variable {K : PySem.W.Frag} {δ : Nm} {te to : TE} {ar : TA} {R : Dt → Prop} {Ra : List E → Prop}
theorem rel_app {ω : Wd} {G : Hp} : ∀ {ds : List Dt} {xs vs : List V} {es : List E}, RpAll K G xs ds → RelA K ω G vs es → RelA K ω G (xs ++ vs) (ds.map E.dat ++ es)
  | [], _, _, _, h, r => by
    cases h
    exact r
  | d :: ds, _, _, _, h, r => by
    cases h with
    | cons a b => exact .cons ⟨_, rfl, a⟩ (rel_app b r)
theorem wa_star (h : W K te δ fun d => ∃ ds, seqOf d = some ds ∧ WA K ar δ fun es => Ra (ds.map E.dat ++ es)) : WA K (StX.tStar K te ar) δ Ra := fun ω σ G H Q e k q => h ω σ G H _ e k fun v d G1 H1 g1 k1 r1 ⟨ds, e1, h2⟩ => by
  obtain ⟨a, kn, xs, rfl, ra, fa⟩ := seq_kn r1 e1
  have s := fa (Same.refl _) k1.1
  refine ⟨a, xs, rfl, ?_, h2 ω σ G1 H1 _ (e.mono g1) k1 fun vs es G2 H2 g2 k2 r2 h3 => q (xs ++ vs) (ds.map E.dat ++ es) G2 H2 (g1.trans g2) k2 (rel_app (ra.mono g2) r2) h3⟩
  cases kn with
  | li => exact .inr s
  | tu => exact .inl s
theorem w_cntL (h : W K to δ fun d => ∃ ns : List Int, d = .list (ns.map .int) ∧ WA K ar δ fun es => ∃ k : Int, es = [.dat (.int k)] ∧ R (.int (ns.count k : Nat))) : W K (tBM K "list" (rCntI K) to ar) δ R := fun ω σ G H Q e k q => h ω σ G H _ e k fun v d G1 H1 g1 k1 r1 ⟨ns, e1, h2⟩ => by
  subst e1
  obtain ⟨a, xs, rfl, hs, ra⟩ := r1.list_inv
  obtain rfl := ra.ints
  refine ⟨.inl ⟨rfl, _, .inl (.inl (k1.1 _ _ hs))⟩, h2 ω σ G1 H1 _ (e.mono g1) k1 fun vs es G2 H2 g2 k2 r2 ⟨c, e2, rc⟩ => ?_⟩
  subst e2
  obtain ⟨u, rfl, ru⟩ := rel1 r2
  obtain rfl := ru.int_inv
  exact ⟨a, ns, c, rfl, rfl, .inl (.inl (k2.1 _ _ (g2 _ _ hs))), q _ _ G2 H2 (g1.trans g2) k2 (.int _) rc⟩
end
end DW
namespace DW
open PySem PySem.Spec PyProof.Rows L2
variable [Tabl]
/-! ### the smallest offsets that are the same but for time -/
def lexle : List Int → List Int → Prop
  | [], _ => True
  | _ :: _, [] => False
  | a :: as, b :: bs => a < b ∨ (a = b ∧ lexle as bs)
theorem lexle_refl : ∀ xs, lexle xs xs
  | [] => trivial
  | a :: as => .inr ⟨rfl, lexle_refl as⟩
theorem lexle_snoc : ∀ {xs ys : List Int} {a b : Int}, xs.length = ys.length → lexle xs ys → (xs = ys → a ≤ b) → lexle (xs ++ [a]) (ys ++ [b])
  | [], [], a, b, _, _, h => by
    have := h rfl
    show a < b ∨ (a = b ∧ True)
    rcases (show a < b ∨ a = b by omega) with z | z
    · exact .inl z
    · exact .inr ⟨z, trivial⟩
  | [], _ :: _, _, _, h, _, _ => by cases h
  | _ :: _, [], _, _, h, _, _ => by cases h
  | x :: xs, y :: ys, a, b, hl, h, hab => by
    rcases h with z | ⟨z, w⟩
    · exact .inl z
    · exact .inr ⟨z, lexle_snoc (Nat.succ.inj hl) w fun e => hab (by rw [z, e])⟩
theorem tri_snoc : ∀ {ps : List (Int × List Int)} {os qs : List Int} {p : Int × List Int} {o q : Int}, os.length = ps.length → qs.length = ps.length → triZ (ps ++ [p]) (os ++ [o]) (qs ++ [q]) = triZ ps os qs ++ [(p.1, o, q)]
  | [], [], [], _, _, _, _, _ => rfl
  | [], _ :: _, _, _, _, _, h, _ => by cases h
  | [], [], _ :: _, _, _, _, _, h => by cases h
  | _ :: _, [], _, _, _, _, h, _ => by cases h
  | _ :: _, _ :: _, [], _, _, _, _, h => by cases h
  | p :: ps, o :: os, q :: qs, p', o', q', h1, h2 => by
    show (p.1, o, q) :: triZ (ps ++ [p']) (os ++ [o']) (qs ++ [q']) = _
    rw [tri_snoc (Nat.succ.inj h1) (Nat.succ.inj h2)]
    rfl
theorem reach {l s n o q : Int} (s0 : 0 < s) (n0 : 0 < n) (h : ((Nat.gcd s.natAbs n.natAbs : Nat) : Int) ∣ q - o - l) : ∃ j : Nat, (j : Int) < n ∧ (l + s * (j : Int)) % n = (q - o) % n := by
  obtain ⟨u, v, eb⟩ := bez s.natAbs n.natAbs
  obtain ⟨k, hk⟩ := h
  rw [eb, Int.natAbs_of_nonneg (by omega), Int.natAbs_of_nonneg (by omega)] at hk
  have m0 := Int.emod_nonneg (u * k) (show n ≠ 0 by omega)
  have m1 := Int.emod_lt_of_pos (u * k) n0
  refine ⟨((u * k) % n).toNat, by omega, dvd_mod ?_⟩
  rw [Int.toNat_of_nonneg m0, Int.emod_def]
  refine ⟨-(s * (u * k / n) + v * k), ?_⟩
  have e3 : q - o = l + (s * u + n * v) * k := by omega
  rw [e3, Int.add_mul, Int.mul_sub, Int.mul_neg, Int.mul_add, Int.mul_assoc s u k, Int.mul_assoc n v k, ← Int.mul_assoc s n, Int.mul_comm s n, Int.mul_assoc]
  omega
/-- the least offset of the next pattern -/
theorem least_rest {l s n o t : Int} (s0 : 0 < s) (n0 : 0 < n) (h : s ∣ t - l) : (o + l) % ((Nat.gcd s.natAbs n.natAbs : Nat) : Int) ≤ (o + t) % n := by
  have g0 : 0 < Nat.gcd s.natAbs n.natAbs := Nat.gcd_pos_of_pos_left _ (by omega)
  have gs : ((Nat.gcd s.natAbs n.natAbs : Nat) : Int) ∣ s := Int.natAbs_dvd_natAbs.mp (by rw [Int.natAbs_natCast]; exact Nat.gcd_dvd_left _ _)
  have gn : ((Nat.gcd s.natAbs n.natAbs : Nat) : Int) ∣ n := Int.natAbs_dvd_natAbs.mp (by rw [Int.natAbs_natCast]; exact Nat.gcd_dvd_right _ _)
  have y0 := Int.emod_nonneg (o + t) (show n ≠ 0 by omega)
  have e : ((o + t) % n) % ((Nat.gcd s.natAbs n.natAbs : Nat) : Int) = (o + l) % ((Nat.gcd s.natAbs n.natAbs : Nat) : Int) := by
    rw [Int.emod_emod_of_dvd _ gn]
    refine dvd_mod ?_
    rw [show o + t - (o + l) = t - l by omega]
    exact Int.dvd_trans gs h
  rw [← e]
  have := Int.mul_nonneg (show (0 : Int) ≤ ((Nat.gcd s.natAbs n.natAbs : Nat) : Int) by omega) (Int.ediv_nonneg y0 (show (0 : Int) ≤ ((Nat.gcd s.natAbs n.natAbs : Nat) : Int) by omega))
  rw [Int.emod_def ((o + t) % n)]
  omega
def putL (ps : List (Int × List Int)) (os : List Int) (t : Int) : List Int := (os.zip ps).map fun q => (q.1 + t) % q.2.1
theorem put_sat : ∀ {ps : List (Int × List Int)} {os qs : List Int} {t : Int}, os.length = ps.length → qs.length = ps.length → (putL ps os t = qs ↔ Sat (triZ ps os qs) t)
  | [], [], [], t, _, _ => ⟨fun _ z hz => absurd hz List.not_mem_nil, fun _ => rfl⟩
  | [], [], _ :: _, t, _, h => by cases h
  | [], _ :: _, _, t, h, _ => by cases h
  | _ :: _, [], _, t, h, _ => by cases h
  | _ :: _, _ :: _, [], t, _, h => by cases h
  | p :: ps, o :: os, q :: qs, t, h1, h2 => by
    have ih := put_sat (ps := ps) (os := os) (qs := qs) (t := t) (Nat.succ.inj h1) (Nat.succ.inj h2)
    show ((o + t) % p.1 :: putL ps os t = q :: qs) ↔ _
    rw [List.cons.injEq, ih]
    constructor
    · rintro ⟨a, b⟩ z hz
      rcases List.mem_cons.mp hz with y | y
      · rw [y]
        exact a
      · exact b z y
    · exact fun h => ⟨h (p.1, o, q) List.mem_cons_self, fun z hz => h z (List.mem_cons_of_mem _ hz)⟩
theorem tri_mem : ∀ {ps : List (Int × List Int)} {os qs : List Int} {z : Tri}, z ∈ triZ ps os qs → ∃ p ∈ ps, z.1 = p.1
  | [], _, _, z, h => absurd h List.not_mem_nil
  | _ :: _, [], _, z, h => absurd h List.not_mem_nil
  | _ :: _, _ :: _, [], z, h => absurd h List.not_mem_nil
  | p :: ps, o :: os, q :: qs, z, h => by
    rcases List.mem_cons.mp h with y | y
    · exact ⟨p, List.mem_cons_self, by rw [y]⟩
    · obtain ⟨r, hr, e⟩ := tri_mem y
      exact ⟨r, List.mem_cons_of_mem _ hr, e⟩
theorem sat_mod {ps : List (Int × List Int)} {os qs : List Int} {W t : Int} (hW : Whole ps W) (h : Sat (triZ ps os qs) t) : Sat (triZ ps os qs) (t % W) := fun z hz => by
  obtain ⟨p, hp, e⟩ := tri_mem hz
  have d := hW.dvd p hp
  rw [← h z hz]
  refine dvd_mod ?_
  rw [e]
  have e2 : z.2.1 + t % W - (z.2.1 + t) = W * (-(t / W)) := by
    rw [Int.emod_def, Int.mul_neg]
    omega
  rw [e2]
  exact Int.dvd_trans d (Int.dvd_mul_right _ _)
end DW
namespace DW
open PySem PySem.Spec PyProof.Rows L2
variable [Tabl]

/-! ### names may be forgotten -/
inductive Wk : Nm → Nm → Prop
  | nil : Wk [] []
  | same {e : E} {δ δ' : Nm} (h : Wk δ δ') : Wk (e :: δ) (e :: δ')
  | drop {e : E} {δ δ' : Nm} (h : Wk δ δ') : Wk (e :: δ) (.unk :: δ')
theorem Wk.at : ∀ {δ δ' : Nm}, Wk δ δ' → ∀ (i : Nat) (e : E), δ'[i]? = some e → (e = .unk ∧ ∃ c, δ[i]? = some c) ∨ δ[i]? = some e
  | _, _, .nil, i, e, h => by simp at h
  | _, _, .same (e := c) w, 0, e, h => .inr h
  | _, _, .same (e := c) w, i + 1, e, h => by
    rw [List.getElem?_cons_succ] at h ⊢
    exact w.at i e h
  | _, _, .drop (e := c) w, 0, e, h => by
    rw [List.getElem?_cons_zero] at h
    exact .inl ⟨(Option.some.inj h).symm, c, rfl⟩
  | _, _, .drop (e := c) w, i + 1, e, h => by
    rw [List.getElem?_cons_succ] at h ⊢
    exact w.at i e h
section
variable {K : PySem.W.Frag} {ω : Wd} {G H : Hp} {δ δ' : Nm} {σ : L2.St} {ts : TS} {nx bk ct : Nm → Prop} {rt : Dt → Prop}
theorem Wk.env (w : Wk δ δ') (h : EnvE K ω G δ σ) : EnvE K ω G δ' σ := fun i e hi => by
  rcases w.at i e hi with ⟨rfl, c, hc⟩ | hc
  · obtain ⟨s, h1, _⟩ := h i c hc
    exact ⟨s, h1, trivial⟩
  · exact h i e hc
theorem Wk.std (w : Wk δ δ') (s : Std K ω G H δ σ) : Std K ω G H δ' σ :=
  ⟨w.env s.env, s.ok, fun i ds hi => by
    rcases w.at i _ hi with ⟨z, _⟩ | hc
    · cases z
    · exact s.own i ds hc, fun i j ds es hi hj => by
    rcases w.at i _ hi with ⟨z, _⟩ | hc
    · cases z
    · rcases w.at j _ hj with ⟨z, _⟩ | hd
      · cases z
      · exact s.one i j ds es hc hd⟩
def Up (nx : Nm → Prop) : Nm → Prop := fun δ => ∃ δ', Wk δ δ' ∧ nx δ'
/-- what follows may forget names -/
theorem ws_up (h : WS K ts δ (Up nx) rt (Up bk) (Up ct)) : WS K ts δ nx rt bk ct := fun ω σ G H D s n r b c =>
  h ω σ G H D s (fun σ' δ1 G' H' g s' ⟨δ2, w, p⟩ => n σ' δ2 G' H' g (w.std s') p) r (fun σ' δ1 G' H' g s' ⟨δ2, w, p⟩ => b σ' δ2 G' H' g (w.std s') p) (fun σ' δ1 G' H' g s' ⟨δ2, w, p⟩ => c σ' δ2 G' H' g (w.std s') p)
theorem ws_wk (δ' : Nm) (w : Wk δ δ') (h : WS K ts δ' nx rt bk ct) : WS K ts δ nx rt bk ct := fun ω σ G H D s n r b c =>
  h ω σ G H D (w.std s) n r b c
theorem up_of {nx : Nm → Prop} (δ' : Nm) (w : Wk δ δ') (h : nx δ') : Up nx δ := ⟨δ', w, h⟩
end

/-! ### promises with a parameter -/
abbrev ctA {α : Type} (args : α → List E) (ok : α → Prop) (post : α → Dt → Prop) : Ct := ⟨fun es => ∃ a, es = args a ∧ ok a, fun es d => ∀ a, es = args a → ok a → post a d⟩
theorem w_callA {K : PySem.W.Frag} {δ : Nm} {R : Dt → Prop} {ar : TA} {α : Type} {args : α → List E} {ok : α → Prop} {post : α → Dt → Prop} {X : XK} (h : WA K ar δ fun es => ∃ a, es = args a ∧ ok a ∧ ∀ d, post a d → R d) :
    W K (tCall (spD K (ctA args ok post)) [] X ar) δ R :=
  w_call fun ω σ G H Q e k q => h ω σ G H Q e k fun vs es G1 H1 g1 k1 r1 ⟨a, e1, o, p⟩ => q vs es G1 H1 g1 k1 r1 ⟨⟨a, e1, o⟩, fun d hd => p d (hd a e1 o)⟩
/-- what is handed back, told of one parameter -/
theorem ws_tell {K : PySem.W.Frag} {ts : TS} {δ : Nm} {rt rt' : Dt → Prop} (h : WS K ts δ (fun _ => rt .none) rt (fun _ => False) (fun _ => False)) (m : ∀ d, rt d → rt' d) : WS K ts δ (fun _ => rt' .none) rt' (fun _ => False) (fun _ => False) :=
  ws_mono h (fun _ h => m _ h) m (fun _ h => h) (fun _ h => h)

/-! ### a call by names alone, in the order turned round -/
def tCallR (sp : Sp) (E : XK) (tk : TA) : TE := fun σ H Q => tk σ H fun zs H2 => sp zs.reverse H2 Q E
theorem vals_rev {vs : List V} {us : List Value} (h : Vals vs us) : Vals vs.reverse us.reverse := by
  induction h with
  | nil => exact .nil
  | cons r t ih =>
    rw [List.reverse_cons, List.reverse_cons]
    exact ih.append (.cons r .nil)
theorem rel_rev {K : PySem.W.Frag} {ω : Wd} {G : Hp} {vs : List V} {es : List E} (h : RelA K ω G vs es) : RelA K ω G vs.reverse es.reverse := by
  induction h with
  | nil => exact .nil
  | cons r t ih =>
    rw [List.reverse_cons, List.reverse_cons]
    have app : ∀ {xs : List V} {fs : List E} {v : V} {e : E}, RelA K ω G xs fs → SlotE K ω G e (some v) → RelA K ω G (xs ++ [v]) (fs ++ [e]) := fun {xs fs v e} hx he => by
      induction hx with
      | nil => exact .cons he .nil
      | cons a b c => exact .cons a c
    exact app ih r
section
variable {X : Cx} {k : Nat} {f : Addr} {fd : FuncData} {ps : List Str} {sp : Sp} {E : XK} {x : Str} {p pos : Pos} {e : Expr} {es : List Expr} {t tk : TA} {kws : List Keyword}
theorem run_gR {pins : List (Addr × Obj)} {σ : L2.St} {H : Hp} {s : Shared} {Q : VK} {us : List Value} {vs : List V} (F : FnG X.prog X.w X.K X.mg X.base k f fd ps sp) (hG : X.A.guards = some []) (hr : Room k X.A)
    (hb : ∀ us : List Value, us.length = ps.length → bindArgs fd ⟨[], ps.reverse.zip us⟩ = pure (ps.zip us.reverse))
    (I : Inv X pins σ H s) (r : Vals vs us) (h : sp vs.reverse H Q E) : wpAny (model X.prog X.w) X.A (call (.ref f) [] (ps.reverse.zip us)) (EP X pins σ Q) X.xe s := by
  have hl : us.length = ps.length := by
    rw [← r.length, ← List.length_reverse]
    exact F.many _ _ _ _ h
  refine wpAny_call (codeAny_mono (F.runs X.A X.stack s H ⟨[], ps.reverse.zip us⟩ us.reverse vs.reverse Q E hG hr I.env0 (.of_eq (hb us hl)) (vals_rev r) h) fun rs s' hq => ?_)
  match rs, hq with
  | .error _, z => exact z.elim
  | .ok (.ret _), z => exact I.after z
  | .ok .next, z => exact z.elim
  | .ok .brk, z => exact z.elim
  | .ok .cont, z => exact z.elim
theorem pe_uR (U : Use X.prog X.w X.K X.mg X.base x k ps sp) (hG : X.A.guards = some []) (hr : Room k X.A) (hg : Gl X x)
    (hkw : PK X kws tk) (hall : (backToKw pos (keywordEach kws X.env)).all (·.1.isSome) = true := by rfl) (hks : (backToKw pos (keywordEach kws X.env)).filterMap (·.1) = ps.reverse := by rfl)
    (hdb : (x == ("__debug__" : Str)) = false := by decide)
    (hpl : ((backTo pos (starEach [] X.env)).any (·.1) || (backToKw pos (keywordEach kws X.env)).any (·.1.isNone)) = false := by rfl) :
    PE X (.Call (.Name x p) [] kws pos) (tCallR sp E0 tk) := by
  obtain ⟨f, fd, F, m, kp, b, b2⟩ := U.ex
  refine ⟨fun pins s σ H Q I h => ?_⟩
  refine wpAny_Call_Name_kw (ld_glob I hg m ?_ hdb)
  refine PySem.W.callWith_KW0 (h₀ := X.base) I.ok.mod.kin kp hall ?_ hpl
  refine thn (hkw.run pos pins s σ H _ I h) fun ws s2 ⟨zs, H2, I2, rz, q2⟩ => ⟨I2.kIn, ?_⟩
  rw [hks]
  exact run_gR F hG hr (fun us h => (b2 us h).1) I2 rz q2
end
theorem w_callR {K : PySem.W.Frag} {δ : Nm} {R : Dt → Prop} {ar : TA} {α : Type} {args : α → List E} {ok : α → Prop} {post : α → Dt → Prop} {X : XK} (h : WA K ar δ fun es => ∃ a, es.reverse = args a ∧ ok a ∧ ∀ d, post a d → R d) :
    W K (tCallR (spD K (ctA args ok post)) X ar) δ R := fun ω σ G H Q e k q =>
  h ω σ G H _ e k fun vs es G1 H1 g1 k1 r1 ⟨a, e1, o, p⟩ => ⟨ω, G1, es.reverse, k1, rel_rev r1, ⟨a, e1, o⟩, fun v d G2 H2 g2 k2 r2 p2 => q v d G2 H2 (g1.trans g2) k2 r2 (p d (p2 a e1 o))⟩
theorem w_callRc {K : PySem.W.Frag} {δ : Nm} {R : Dt → Prop} {ar : TA} {c : Ct} {X : XK} (h : WA K ar δ fun es => c.pre es.reverse ∧ ∀ d, c.post es.reverse d → R d) :
    W K (tCallR (spD K c) X ar) δ R := fun ω σ G H Q e k q =>
  h ω σ G H _ e k fun vs es G1 H1 g1 k1 r1 ⟨h1, h2⟩ => ⟨ω, G1, es.reverse, k1, rel_rev r1, h1, fun v d G2 H2 g2 k2 r2 p2 => q v d G2 H2 (g1.trans g2) k2 r2 (h2 d p2)⟩
end DW
namespace DW
open PySem PySem.Spec PyProof.Rows L2
variable [Tabl]

section
variable {K : PySem.W.Frag} {δ : Nm} {te ta tb : TE} {ts : TS} {nx bk ct : Nm → Prop} {rt : Dt → Prop} {R : Dt → Prop}
/-! ### a name that owns a list: made by a product; its items read by what is stored -/
theorem ws_ownRep {ar : TA} {i : Nat} (hn : (0 : Nat) = 0) (hl' : (δ[i]?).isSome = true)
    (h : WA K ar δ fun es => ∃ ds, dats es = some ds ∧ ds.length ≤ sizeLine ∧ W K tb δ fun d => ∃ m : Int, d = .int m ∧ -(2 ^ 63) ≤ m ∧ m < 2 ^ 63 ∧ ds.length * m.toNat ≤ sizeLine ∧ nx (δ.set i (.own (.list (List.replicate m.toNat ds).flatten)))) :
    WS K (tAsg (tOp (rMulK K) (tLst ar) tb) (gName i)) δ nx rt bk ct := fun ω σ G H D s n r b c => by
  have hl := lt_of_isSome hl'
  refine run_wg (Rel := fun G (vs : List V) (ds : List Dt) => RpAll K G vs ds) (R := fun ds => ds.length ≤ sizeLine ∧ W K tb δ fun d => ∃ m : Int, d = .int m ∧ -(2 ^ 63) ≤ m ∧ m < 2 ^ 63 ∧ ds.length * m.toNat ≤ sizeLine ∧ nx (δ.set i (.own (.list (List.replicate m.toNat ds).flatten)))) (t := fun σ H Q => ar σ H Q)
    (fun ω σ G H Q e k q => h ω σ G H Q e k fun vs es G' H' g k' ra ⟨ds, e1, e2, e3⟩ => q vs ds G' H' g k' (rpAll_of ra e1) ⟨e2, e3⟩) s fun vs ds G' H' g s' ra ⟨hz, hb⟩ => ⟨by rw [ra.len]; exact hz, fun p hp => ?_⟩
  have hg := s'.ok.1.free hp
  have s2 : Std K ω (upd G' p (.lst vs)) (upd H' p (.lst vs)) δ σ := ⟨s'.env.mono (same_new hg), s'.ok.new hp, fun j ds' hj => by
    obtain ⟨q, o, h1, h2, h3, h4, h5⟩ := s'.own j ds' hj
    have ne : q ≠ p := ne_of_none h2 hp
    exact ⟨q, o, h1, by rw [upd_ne ne]; exact h2, h3.mono (same_new hg), by rw [upd_ne ne]; exact h4, h5⟩, s'.one⟩
  refine run_wg (Rel := fun G v d => Rp K G v d) hb s2 fun v d G2 H2 g2 s3 rp ⟨m, e1, h1, h2, h3, q⟩ => ?_
  subst e1
  have hp2 : H2 p = some (.lst vs) := s3.ok.1 p _ (g2 p _ upd_same)
  refine .inr (.inl ⟨p, m, vs, rfl, rp.int_inv, hp2, h1, h2, by rw [ra.len]; exact h3, fun l hlf => ?_⟩)
  have ra2 : RpAll K G2 (List.replicate m.toNat vs).flatten (List.replicate m.toNat ds).flatten := (ra.mono ((same_new hg).trans g2)).rep m.toNat
  exact n _ _ G2 _ ((g.trans (same_new hg)).trans g2) (s3.take (o := .lst _) (d := .list _) hn hl hlf ra2) q
/-- x[k] = a number, the list's own items read in it -/
theorem ws_setLs {i : Nat} {ds : List Dt} (hi : δ[i]? = some (.own (.list ds)))
    (h : W K te (δ.map seen) fun d => ∃ z : Int, d = .int z ∧ W K tb (δ.map seen) fun j => ∃ (k : Int) (l : Nat), j = .int k ∧ ixN ds.length k = some l ∧ nx (δ.set i (.own (.list (ds.set l (.int z)))))) :
    WS K (tAsg te (gSub (tVar i) tb rSetL)) δ nx rt bk ct := fun ω σ G H D s n r b c => by
  have hw : ∀ {t : TE} {R : Dt → Prop}, W K t (δ.map seen) (fun d => ∃ z : Int, d = .int z ∧ R (.int z)) → WG K (fun _ _ (v : V) (z : Int) => v = .int z) t (δ.map seen) fun z => R (.int z) := fun hh ω σ G H Q e k q =>
    hh ω σ G H Q e k fun x y G' H' g k' r ⟨z, e1, hr⟩ => by
      subst e1
      exact q x z G' H' g k' r.int_inv hr
  refine run_seen (Rel := fun (v : V) (z : Int) => v = .int z) (hw (R := fun d => ∃ z : Int, d = .int z ∧ W K tb (δ.map seen) fun j => ∃ (k : Int) (l : Nat), j = .int k ∧ ixN ds.length k = some l ∧ nx (δ.set i (.own (.list (ds.set l (.int z)))))) (w_mono h fun d ⟨z, e1, h2⟩ => ⟨z, e1, z, rfl, h2⟩)) s fun v z H1 s1 ev ⟨z', ez, h2⟩ => ?_
  obtain rfl : z = z' := int_inj ez
  subst ev
  obtain ⟨p, vs, h1, _, _, _, _⟩ := s1.lst hi
  refine ⟨.ref p, h1, run_seen (Rel := fun (v : V) (z : Int) => v = .int z) (hw (R := fun j => ∃ (k : Int) (l : Nat), j = .int k ∧ ixN ds.length k = some l ∧ nx (δ.set i (.own (.list (ds.set l (.int z)))))) (w_mono h2 fun d ⟨k, l, e1, h2⟩ => ⟨k, e1, k, l, rfl, h2⟩)) s1 fun u k H2 s2 eu ⟨k', l, ek, hz, q⟩ => ?_⟩
  obtain rfl : k = k' := int_inj ek
  subst eu
  obtain ⟨p', vs', k1, k2, k3, k4, k5⟩ := s2.lst hi
  rw [h1] at k1
  cases k1
  exact ⟨p, vs', k, l, rfl, rfl, k2, by rw [k3.len]; exact hz, n σ _ G _ (Same.refl G) (s2.chg (ws := .lst _) (ds' := .list _) hi h1 k4 k5 (k3.set (.int z) l)) q⟩
def rGetL : V → V → Hp → VK → Prop := fun o i H Q => ∃ p xs k v, o = .ref p ∧ i = .int k ∧ 0 ≤ k ∧ H p = some (.lst xs) ∧ xs[k.toNat]? = some v ∧ Q v H
theorem get_list {X : Cx} : PGet X rGetL := fun pins s σ H o i ov iv Q I r1 r2 ⟨p, xs, k, v, e1, e2, h0, hp, hv, q⟩ => by
  subst e1 e2
  cases r1
  obtain ⟨t, rfl⟩ := r2
  obtain ⟨its, rv, pl, hz⟩ := I.list (.inl (.inl hp))
  obtain ⟨w, ew, rw'⟩ := rv.get hv
  have hn := line63
  have hl := (List.getElem?_eq_some_iff.mp hv).1
  have hll := rv.length
  exact wpAny_getItem_list pl.isList h0 (by omega) (by simpa using ew) ⟨v, H, I, rw', q⟩
/-- x[k] op= e -/
theorem ws_augL {i : Nat} {ds : List Dt} {f : Int → Int → Int} (hi : δ[i]? = some (.own (.list ds)))
    (h : W K tb δ fun j => ∃ k a : Int, j = .int k ∧ 0 ≤ k ∧ ds[k.toNat]? = some (.int a) ∧ W K te δ fun d => ∃ b : Int, d = .int b ∧ nx (δ.set i (.own (.list (ds.set k.toNat (.int (f a b))))))) :
    WS K (tAugS (tVar i) tb te rGetL (ipI f) rSetL) δ nx rt bk ct := fun ω σ G H D s n r b c => by
  obtain ⟨p, vs, h1, h2, h3, h4, h5⟩ := s.lst hi
  refine ⟨.ref p, h1, run_wg (Rel := fun G v d => Rp K G v d) h s fun v d G1 H1 g1 s1 rp ⟨k, a, e1, k0, ha, q⟩ => ?_⟩
  subst e1
  obtain ⟨p', vs', j1, j2, j3, j4, j5⟩ := s1.lst hi
  rw [h1] at j1
  cases j1
  obtain ⟨v0, hv0, rv0⟩ := j3.at ha
  refine ⟨p, vs', k, v0, rfl, rp.int_inv, k0, j2, hv0, run_wg (Rel := fun G v d => Rp K G v d) q s1 fun u e G2 H2 g2 s2 rp2 ⟨b, e1, q2⟩ => ?_⟩
  subst e1
  obtain ⟨p', vs2, l1, l2, l3, l4, l5⟩ := s2.lst hi
  rw [h1] at l1
  cases l1
  refine ⟨a, b, rv0.int_inv, rp2.int_inv, p, vs2, k, k.toNat, rfl, rp.int_inv, l2, ?_, n σ _ G2 _ (g1.trans g2) (s2.chg (ws := .lst _) (ds' := .list _) hi h1 l4 l5 (l3.set (.int _) k.toNat)) q2⟩
  have hl := (List.getElem?_eq_some_iff.mp ha).1
  rw [l3.len]
  unfold ixN
  rw [if_pos k0, if_pos (by omega)]

def rMn : List V → Hp → VK → Prop := fun xs H Q => ∃ i j, xs = [.int i, .int j] ∧ Q (.int (if j < i then j else i)) H
theorem call_mn {X : Cx} (hc : X.calm = true) : CallR X (.builtin "min") rMn := call_min2 hc
theorem b_min2 {i j : Int} (r : R (.int (if j < i then j else i))) : CbD K rMn [.dat (.int i), .dat (.int j)] R := fun ω G H vs Q k h q => by
  obtain ⟨v, u, rfl, r1, r2⟩ := rel2 h
  obtain rfl := r1.int_inv
  obtain rfl := r2.int_inv
  exact ⟨i, j, rfl, q _ _ G H (Same.refl G) k (.int _) r⟩
/-! ### plain tuples -/
theorem w_varP {i : Nat} {ds : List Dt} (h : δ[i]? = some (.pl ds)) (r : R (.tuple ds)) : W K (tVar i) δ R := fun ω σ G H Q e k q => by
  obtain ⟨s, h1, v, h2, h3⟩ := e i _ h
  subst h2
  exact ⟨v, h1, q v _ G H (Same.refl G) k h3.rp r⟩
end
def rTupP (K : PySem.W.Frag) : List V → Hp → VK → Prop := fun xs H Q => ∃ p ys, xs = [.ref p] ∧ SqL K H p ys ∧ ∀ l o, H l = none → o.cls = .type "tuple" → o.dict = none → Q (.ref l) (upd H l (.frz o (.tup ys)))
theorem call_tupP {X : Cx} : CallR X (.type "tuple") (rTupP X.K) := by
  intro pins s σ H xs us Q I r h
  obtain ⟨p, ys, rfl, hq, q⟩ := h
  obtain ⟨u, rfl, rx⟩ := vals1 r
  cases rx
  obtain ⟨its, r', pl, hz⟩ := I.list hq
  have hlen := r'.length
  refine call_tuple_list pl.isList (fun h' kp => ?_) (by simp only [List.size_toArray] <;> omega)
  have I1 : Inv X pins σ H { s with heap := h' } := I.kept (t' := s.toks) kp
  have I2 : Inv X pins σ (upd H h'.objs.size (.frz { cls := .type "tuple", data := .seq its.toArray } (.tup ys))) { s with heap := h'.push { cls := .type "tuple", data := .seq its.toArray } } :=
    I1.laid (t' := s.toks) (fun b o e => Heap.get?_push_of_some _ e) (Nat.le_refl _) (show ObjOk X.prog X.w _ _ _ (.frz _ (.tup ys)) from ⟨Heap.get?_push_size _ rfl, hz, its, r', IsTup.new _ _⟩)
  exact ⟨.ref h'.objs.size, _, I2, rfl, q _ _ (I1.hok.fresh (Nat.le_refl _)) rfl rfl⟩
def rCntP : V → List V → Hp → VK → Prop := fun x xs H Q => ∃ (a : Addr) (o : Obj) (ns : List Int) (k : Int), x = .ref a ∧ xs = [.int k] ∧ H a = some (.frz o (.tup (ns.map V.int))) ∧ Q (.int (ns.count k : Nat)) H
theorem mt_tcount {X : Cx} : MtR X "tuple.count" rCntP := by
  intro pins s σ H x xs v us Q I rx rxs h
  obtain ⟨p, o, ns, k, rfl, rfl, hs, q⟩ := h
  cases rx
  obtain ⟨u, rfl, ru⟩ := rxs.one
  obtain ⟨t, rfl⟩ := ru
  obtain ⟨its, rv, ho', hlen⟩ := I.tuple (show SqT X.K H p (ns.map V.int) from .inl (.inr ⟨o, hs⟩))
  obtain ⟨⟨cls, dd, data, sl⟩, ho, hc, n, hd⟩ := ho'
  simp only at hc hd
  subst hc hd
  have hi := ints_of_vals rv
  refine call_meets PySem.F.slot_tuple_count ⟨_, ho, rfl⟩ PySem.F.entry_tuple_count (PySem.F.args_tuple_count_2 _ _)
    (SeqAt.tuple_countAt p its.toArray n dd sl (.int k t) (eqk k)) ⟨ho, fun y hy => (eqk_gives hi y (by simpa using hy)).at _ _, ?_⟩
  have ec : its.toArray.toList.countP (eqk k) = ns.count k := eqk_count hi
  refine ⟨.int (ns.count k : Nat), H, I.tok _, ⟨s.toks, ?_⟩, q⟩
  show Value.int ((its.toArray.toList.countP (eqk k) : Nat) : Int) s.toks = Value.int ((ns.count k : Nat) : Int) s.toks
  rw [ec]
def tBMP (r : V → List V → Hp → VK → Prop) (to : TE) (t : TA) : TE := fun σ H Q => to σ H fun x H1 => (∃ a o xs, x = .ref a ∧ H1 a = some (.frz o (.tup xs)) ∧ o.cls = .type "tuple" ∧ o.dict = none) ∧ t σ H1 fun xs H2 => r x xs H2 Q
theorem pe_bmP {X : Cx} {o e : Expr} {es : List Expr} {to : TE} {t : TA} {name : Str} {apos cpos : Pos} {id : String} {r : V → List V → Hp → VK → Prop}
    (slot : Slot "tuple" name id) (hty : typeOf (.builtin id) = pure (.type "method_descriptor")) (hm : MtR X id r) (ho : PE X o to) (ha : PA X (e :: es) t)
    (hbase : attributeBase o name X.env (eval o X.env) = eval o X.env := by rfl)
    (hfew : ((backTo cpos (starEach (e :: es) X.env)).all (fun x => !x.1) && (backToKw cpos (keywordEach [] X.env)).all (fun x => x.1.isSome)
      && decide ((e :: es).length + ([] : List Keyword).length + (if ([] : List Keyword).isEmpty then 0 else 1) < 30)) = true := by rfl)
    (hline : (apos.endLine == cpos.line) = true := by rfl) (hs : starEach (e :: es) X.env = (false, eval e X.env) :: starEach es X.env := by rfl) (hplain : (backTo cpos (starEach es X.env)).any (·.1) = false := by rfl) :
    PE X (.Call (.Attribute o name apos) (e :: es) [] cpos) (tBMP r to t) := by
  refine ⟨fun pins s σ H Q I h => ?_⟩
  refine wpAny_Call_method_late hbase hfew hline rfl (thn (ho.run pins s σ H _ I h) fun v s1 ⟨x, H1, I1, r1, ty, q1⟩ => ?_)
  obtain ⟨a, ob, xs, rfl, hH, hc, hd⟩ := ty
  cases r1
  have hget : s1.heap.get? a = some ob := (I1.hok a _ hH).1
  refine ⟨"tuple", id, PySem.F.plainAttrs_tuple, slot, hty, ⟨ob, hget, hc⟩, fun b e => by cases e; exact ⟨ob, hget, hd⟩, ?_⟩
  have hA := ha.run cpos pins s1 σ H1 _ I1 q1
  rw [hs] at hA ⊢
  refine Calls.callWith_builtin (by show (false || (backTo cpos (starEach es X.env)).any (·.1)) = false; rw [hplain] <;> rfl) (Calls.evalArgs_plain ?_)
  exact thn hA fun us s2 ⟨vs, H2, I2, r2, q2⟩ => hm pins s2 σ H2 (.ref a) vs (.ref a) us Q I2 rfl r2 q2
section
variable {K : PySem.W.Frag} {δ : Nm} {ts : TS} {nx bk ct : Nm → Prop} {rt : Dt → Prop} {R : Dt → Prop} {ar : TA}
theorem w_cntP {i : Nat} {ns : List Int} (hi : δ[i]? = some (.pl (ns.map .int))) (h : WA K ar δ fun es => ∃ k : Int, es = [.dat (.int k)] ∧ R (.int (ns.count k : Nat))) : W K (tBMP rCntP (tVar i) ar) δ R := fun ω σ G H Q e k q => by
  obtain ⟨s, h1, v, h2, a, o, xs, rfl, hG, ⟨hc, hd⟩, ra⟩ := e i _ hi
  subst h2
  obtain rfl := ra.ints
  refine ⟨.ref a, h1, ⟨a, o, _, rfl, k.1 a _ hG, hc, hd⟩, h ω σ G H _ e k fun vs es G1 H1 g1 k1 r1 ⟨z, e1, hr⟩ => ?_⟩
  subst e1
  obtain rfl := rp_int1 r1
  exact ⟨a, o, ns, z, rfl, rfl, k1.1 a _ (g1 a _ hG), q _ _ G1 H1 g1 k1 (.int _) hr⟩
/-- a def that hands back a plain tuple -/
def spP (K : PySem.W.Frag) {α : Type} (args : α → List E) (ok : α → Prop) (post : α → List Dt → Prop) : Sp := fun vs H Q _ => ∃ (ω : Wd) (G : Hp) (a : α), Ok ω G H ∧ RelA K ω G vs (args a) ∧ ok a ∧ ∀ v ds G' H', Same G G' → Ok ω G' H' → PlT K G' v ds → post a ds → Q v H'
theorem w_callP {α : Type} {args : α → List E} {ok : α → Prop} {post : α → List Dt → Prop} {X : XK} (h : WA K ar δ fun es => ∃ a, es = args a ∧ ok a ∧ ∀ ds, post a ds → R (.tuple ds)) :
    W K (tCall (spP K args ok post) [] X ar) δ R := fun ω σ G H Q e k q =>
  h ω σ G H _ e k fun vs es G1 H1 g1 k1 r1 ⟨a, e1, o, p⟩ => by
    rw [List.append_nil]
    subst e1
    exact ⟨ω, G1, a, k1, r1, o, fun v ds G2 H2 g2 k2 r2 p2 => q v _ G2 H2 (g1.trans g2) k2 r2.rp (p ds p2)⟩
theorem w_callPR {α : Type} {args : α → List E} {ok : α → Prop} {post : α → List Dt → Prop} {X : XK} (h : WA K ar δ fun es => ∃ a, es.reverse = args a ∧ ok a ∧ ∀ ds, post a ds → R (.tuple ds)) :
    W K (tCallR (spP K args ok post) X ar) δ R := fun ω σ G H Q e k q =>
  h ω σ G H _ e k fun vs es G1 H1 g1 k1 r1 ⟨a, e1, o, p⟩ => ⟨ω, G1, a, k1, by rw [← e1]; exact rel_rev r1, o, fun v ds G2 H2 g2 k2 r2 p2 => q v _ G2 H2 (g1.trans g2) k2 r2.rp (p ds p2)⟩
theorem Std.setP {ω : Wd} {G H : Hp} {σ : L2.St} (s : Std K ω G H δ σ) {i : Nat} {v : V} {ds : List Dt} (r : PlT K G v ds) : Std K ω G H (δ.set i (.pl ds)) (σ.set i (some v)) := by
  have back : ∀ (j : Nat) (d : Dt), (δ.set i (.pl ds))[j]? = some (.own d) → δ[j]? = some (.own d) ∧ i ≠ j := fun j d hj => by
    by_cases hij : i = j
    · subst hij
      by_cases hl : i < δ.length
      · rw [List.getElem?_set_self hl] at hj
        cases hj
      · rw [List.getElem?_eq_none (by rw [List.length_set]; omega)] at hj
        cases hj
    · rw [List.getElem?_set_ne hij] at hj
      exact ⟨hj, hij⟩
  refine ⟨s.env.set (e := .pl ds) ⟨v, rfl, r⟩, s.ok, fun j d hj => ?_, fun j l d c h1 h2 => by
    rw [List.getElem?_set_ne (back j d h1).2, List.getElem?_set_ne (back l c h2).2]
    exact s.one j l d c (back j d h1).1 (back l c h2).1⟩
  obtain ⟨h1, h2⟩ := back j d hj
  obtain ⟨p, vs, z⟩ := s.own j d h1
  exact ⟨p, vs, by rw [List.getElem?_set_ne h2]; exact z.1, z.2⟩
theorem ws_asgP {α : Type} {args : α → List E} {ok : α → Prop} {post : α → List Dt → Prop} {X : XK} {i : Nat} (h : WA K ar δ fun es => ∃ a, es = args a ∧ ok a ∧ ∀ ds, post a ds → nx (δ.set i (.pl ds))) :
    WS K (tAsg (tCall (spP K args ok post) [] X ar) (gName i)) δ nx rt bk ct := fun ω σ G H D s n r b c => by
  refine run_wg (Rel := fun G (v : V) (ds : List Dt) => PlT K G v ds) (R := fun ds => nx (δ.set i (.pl ds))) (t := tCall (spP K args ok post) [] X ar) (fun ω σ G H Q e k q => h ω σ G H _ e k fun vs es G1 H1 g1 k1 r1 ⟨a, e1, o, p⟩ => by
    rw [List.append_nil]
    subst e1
    exact ⟨ω, G1, a, k1, r1, o, fun v ds G2 H2 g2 k2 r2 p2 => q v ds G2 H2 (g1.trans g2) k2 r2 (p ds p2)⟩) s fun v ds G' H' g s' rp q => ?_
  exact n _ _ G' H' g (s'.setP rp) q
end
end DW
namespace DW
open PySem PySem.Spec PyProof.Rows L2
variable [Tabl]

section
variable {K : PySem.W.Frag} {δ : Nm} {te : TE} {tt : TT} {R : Dt → Prop}
/-- [e for x, y in .. if c] -/
theorem w_filter2 {wi : TI} {j l : Nat} {vs : List Nat} {α : Type} (a b : α → Dt) (t : α → Bool) (f : α → Dt) (hj : j ∈ vs) (hl : l ∈ vs)
    (h : WI K wi δ fun xs => ∃ ps : List α, xs = ps.map (fun p => .tuple [a p, b p]) ∧ ps.length ≤ 1000000 ∧
      (∀ p, p ∈ ps → WT K tt (((wipeE (δ.map blind) vs).set j (.dat (a p))).set l (.dat (b p))) fun c => c = t p ∧ (t p = true → W K te (((wipeE (δ.map blind) vs).set j (.dat (a p))).set l (.dat (b p))) fun y => y = f p)) ∧ R (.list ((ps.filter t).map f))) :
    W K (tLc wi (gTup K 2 (gCons (gName j) (gCons (gName l) gNil))) tt te vs) δ R := by
  refine w_lc (gin_tup (gsin_cons (gin_name hj) gm_name (gsin_cons (gin_name hl) gm_name gsin_nil gsm_nil) (gsm_cons gm_name gsm_nil))) (gm_tup (gsm_cons gm_name (gsm_cons gm_name gsm_nil))) fun ω σ G H Q e k q =>
    h ω σ G H Q e k fun J xs G' H' g k' gv ⟨ps, e1, hz, ht, hr⟩ => q J xs G' H' g k' gv ⟨by rw [e1, List.length_map]; exact hz, fun i acc => acc = ((ps.take i).filter t).map f, rfl, fun i x acc hx pa => ?_, fun acc pa => ?_⟩
  · subst e1
    rw [List.getElem?_map] at hx
    cases hp : ps[i]? with
    | none => rw [hp] at hx; cases hx
    | some y =>
      rw [hp] at hx
      cases hx
      refine g_tup rfl <| gs_cons <| g_name <| gs_cons <| g_name <| gs_nil <| wt_mono (ht y (List.mem_of_getElem? hp)) fun c ⟨eb, hb⟩ => ?_
      subst eb
      cases hy : t y with
      | true =>
        rw [if_pos rfl]
        refine w_mono (hb hy) fun y' e => ?_
        subst e pa
        rw [take_snoc hp, List.filter_append, List.map_append, List.filter_cons, if_pos hy]
        rfl
      | false =>
        rw [if_neg Bool.false_ne_true]
        subst pa
        rw [take_snoc hp, List.filter_append, List.map_append, List.filter_cons, if_neg (by rw [hy]; exact Bool.false_ne_true)]
        simp
  · subst e1
    rw [List.length_map, List.take_length] at pa
    subst pa
    exact hr
end

/-! ### tuples of ints in order -/
theorem lt_offs (os qs : List Int) : PySem.W.dataLt (offsD os) (offsD qs) = decide (os < qs) := by
  unfold offsD
  rw [PySem.W.dataLt_tuple]
  exact PySem.W.dataLt_ints os qs
theorem llt_irrefl : ∀ (os : List Int), ¬ os < os := fun os => List.lt_irrefl os
theorem llt_trans {os qs rs : List Int} (h : os < qs) (h' : qs < rs) : os < rs := List.lt_trans h h'
theorem llt_tri {os qs : List Int} (h : ¬ os < qs) (h' : ¬ qs < os) : os = qs := List.le_antisymm h' h
theorem lexle_lt : ∀ {os qs : List Int}, lexle os qs → ¬ qs < os
  | [], qs, _, h => by cases h
  | a :: as, [], h, _ => h.elim
  | a :: as, b :: bs, h, h2 => by
    rcases List.cons_lt_cons_iff.mp h2 with z | ⟨z1, z2⟩
    · rcases h with y | ⟨y, _⟩ <;> omega
    · rcases h with y | ⟨y, y2⟩
      · omega
      · exact lexle_lt y2 z2
/-- the least one by an order that is told by lt -/
theorem fold_least {α : Type} (lt : α → α → Prop) [DecidableRel lt] (irr : ∀ a, ¬ lt a a) (tr : ∀ a b c, lt a b → lt b c → lt a c) (tri : ∀ a b, ¬ lt a b → ¬ lt b a → a = b) :
    ∀ (xs : List α) (x : α), xs.foldl (fun a y => if lt y a then y else a) x ∈ x :: xs ∧ ∀ y ∈ x :: xs, ¬ lt y (xs.foldl (fun a y => if lt y a then y else a) x) := by
  have le_tr : ∀ a b c, ¬ lt b a → ¬ lt c b → ¬ lt c a := fun a b c h1 h2 h3 => by
    by_cases h : lt a b
    · exact h2 (tr _ _ _ h3 h)
    · have e := tri a b h h1
      subst e
      exact h2 h3
  intro xs
  induction xs with
  | nil => exact fun x => ⟨List.mem_cons_self, fun y hy => by rw [List.mem_singleton.mp hy]; exact irr x⟩
  | cons z zs ih =>
    intro x
    rw [List.foldl_cons]
    by_cases c : lt z x
    · rw [if_pos c]
      obtain ⟨h1, h2⟩ := ih z
      refine ⟨List.mem_cons_of_mem _ h1, fun y hy => ?_⟩
      rcases List.mem_cons.mp hy with e | hy
      · subst e
        exact le_tr _ z _ (h2 z List.mem_cons_self) fun h => irr _ (tr _ _ _ h c)
      · exact h2 y hy
    · rw [if_neg c]
      obtain ⟨h1, h2⟩ := ih x
      refine ⟨?_, fun y hy => ?_⟩
      · rcases List.mem_cons.mp h1 with e | e
        · rw [e]
          exact List.mem_cons_self
        · exact List.mem_cons_of_mem _ (List.mem_cons_of_mem _ e)
      · rcases List.mem_cons.mp hy with e | hy
        · subst e
          exact h2 _ List.mem_cons_self
        · rcases List.mem_cons.mp hy with e | hy
          · subst e
            exact le_tr _ x _ (h2 x List.mem_cons_self) c
          · exact h2 y (List.mem_cons_of_mem _ hy)
theorem minD_by {α : Type} (f : α → Dt) (lt : α → α → Prop) [DecidableRel lt] (he : ∀ a b, PySem.W.dataLt (f a) (f b) = decide (lt a b)) (x : α) : ∀ xs : List α, PySem.W.minD (f x) (xs.map f) = f (xs.foldl (fun a y => if lt y a then y else a) x) := by
  intro xs
  unfold PySem.W.minD
  induction xs generalizing x with
  | nil => rfl
  | cons y ys ih =>
    rw [List.map_cons, List.foldl_cons, List.foldl_cons, ← ih, he]
    by_cases c : lt y x
    · rw [if_pos c, decide_eq_true c]
      rfl
    · rw [if_neg c, decide_eq_false c]
      rfl
theorem alikeAll_ints : ∀ os qs : List Int, PySem.W.alikeAll (os.map .int) (qs.map .int) = true
  | [], qs => by rw [List.map_nil, PySem.W.alikeAll]
  | o :: os, [] => by rw [List.map_nil, List.map_cons, PySem.W.alikeAll]
  | o :: os, q :: qs => by rw [List.map_cons, List.map_cons, PySem.W.alikeAll, PySem.W.alike, alikeAll_ints os qs, Bool.and_true]
theorem alike_offs (os qs : List Int) : PySem.W.alike (offsD os) (offsD qs) = true := by
  unfold offsD
  rw [PySem.W.alike]
  exact alikeAll_ints os qs
theorem layAll_of : ∀ {ds : List Dt}, (∀ d ∈ ds, d.canLay0 = true) → PyData.canLayAll0 ds = true
  | [], _ => rfl
  | d :: ds, h => by rw [PyData.canLayAll0, h d List.mem_cons_self, Bool.true_and, layAll_of fun c hc => h c (List.mem_cons_of_mem _ hc)]
theorem depthAll_of {n : Nat} : ∀ {ds : List Dt}, (∀ d ∈ ds, d.depth ≤ n) → PyData.depthAll ds ≤ n
  | [], _ => Nat.zero_le _
  | d :: ds, h => by
    rw [PyData.depthAll]
    exact Nat.max_le.mpr ⟨h d List.mem_cons_self, depthAll_of fun c hc => h c (List.mem_cons_of_mem _ hc)⟩
theorem lay_offs (os : List Int) : (offsD os).canLay0 = true := by
  unfold offsD
  rw [PyData.canLay0]
  exact lay_ints os
theorem depth_offs (os : List Int) : (offsD os).depth = 1 := by
  unfold offsD
  rw [PyData.depth, depth_ints]
/-- min of a list of tuples of ints -/
theorem b_minT {K : PySem.W.Frag} {R : Dt → Prop} {L : List (List Int)} (hne : L ≠ []) (r : ∀ m ∈ L, (∀ y ∈ L, ¬ y < m) → R (offsD m)) : CbD K (rMinD K) [.dat (.list (L.map offsD))] R := by
  cases L with
  | nil => exact absurd rfl hne
  | cons x xs =>
    rw [List.map_cons]
    have all : ∀ d ∈ offsD x :: xs.map offsD, ∃ os, d = offsD os := fun d hd => by
      rcases List.mem_cons.mp hd with e | hd
      · exact ⟨x, e⟩
      · obtain ⟨os, _, e⟩ := List.mem_map.mp hd
        exact ⟨os, e.symm⟩
    refine b_minD (layAll_of fun d hd => ?_) ⟨fun a ha b hb => ?_, fun a ha => ?_⟩ (Nat.le_trans (depthAll_of (n := 1) fun d hd => ?_) (by decide)) ?_
    · obtain ⟨os, rfl⟩ := all d hd
      exact lay_offs os
    · obtain ⟨os, rfl⟩ := all a ha
      obtain ⟨qs, rfl⟩ := all b hb
      exact alike_offs os qs
    · obtain ⟨os, rfl⟩ := all a ha
      exact fun e => by cases e
    · obtain ⟨os, rfl⟩ := all d hd
      rw [depth_offs]
      exact Nat.le_refl _
    · rw [minD_by offsD (fun a b : List Int => a < b) lt_offs x xs]
      obtain ⟨h1, h2⟩ := fold_least (fun a b : List Int => a < b) llt_irrefl (fun _ _ _ => llt_trans) (fun _ _ => llt_tri) xs x
      exact r _ h1 h2
/-- a number and offsets, put in order -/
def rowD (q : Int × List Int) : Dt := .tuple [.int q.1, offsD q.2]
def rowlt (a b : Int × List Int) : Prop := a.1 < b.1 ∨ (a.1 = b.1 ∧ a.2 < b.2)
instance : DecidableRel rowlt := fun a b => by unfold rowlt; exact inferInstance
theorem lt_rows (a b : Int × List Int) : PySem.W.dataLt (rowD a) (rowD b) = decide (rowlt a b) := by
  unfold rowD
  rw [PySem.W.dataLt_pair (by simp [PySem.W.alike]) (alike_offs _ _), eqv_int, PySem.W.dataLt_int]
  unfold rowlt
  have e := eqv_ints a.2 b.2
  have e' : PyData.eqv (offsD a.2) (offsD b.2) = decide (a.2 = b.2) := e
  rw [e', lt_offs]
  by_cases h1 : a.1 = b.1
  · by_cases h2 : a.2 = b.2
    · have : ¬ a.2 < b.2 := by rw [h2]; exact llt_irrefl _
      simp [h1, h2, this]
    · simp [h1, h2]
  · simp [h1]
/-- min of a list of such rows -/
theorem b_minR {K : PySem.W.Frag} {R : Dt → Prop} {L : List (Int × List Int)} (hne : L ≠ []) (r : ∀ m ∈ L, (∀ y ∈ L, ¬ rowlt y m) → R (rowD m)) : CbD K (rMinD K) [.dat (.list (L.map rowD))] R := by
  cases L with
  | nil => exact absurd rfl hne
  | cons x xs =>
    rw [List.map_cons]
    have all : ∀ d ∈ rowD x :: xs.map rowD, ∃ os, d = rowD os := fun d hd => by
      rcases List.mem_cons.mp hd with e | hd
      · exact ⟨x, e⟩
      · obtain ⟨os, _, e⟩ := List.mem_map.mp hd
        exact ⟨os, e.symm⟩
    refine b_minD (layAll_of fun d hd => ?_) ⟨fun a ha b hb => ?_, fun a ha => ?_⟩ (Nat.le_trans (depthAll_of (n := 2) fun d hd => ?_) (by decide)) ?_
    · obtain ⟨os, rfl⟩ := all d hd
      unfold rowD
      rw [PyData.canLay0, PyData.canLayAll0, PyData.canLayAll0, lay_offs]
      rfl
    · obtain ⟨os, rfl⟩ := all a ha
      obtain ⟨qs, rfl⟩ := all b hb
      unfold rowD
      rw [PySem.W.alike, PySem.W.alikeAll, PySem.W.alikeAll, PySem.W.alikeAll, alike_offs, PySem.W.alike]
      rfl
    · obtain ⟨os, rfl⟩ := all a ha
      exact fun e => by cases e
    · obtain ⟨os, rfl⟩ := all d hd
      unfold rowD
      rw [PyData.depth, PyData.depthAll, PyData.depthAll, PyData.depthAll, depth_offs, PyData.depth]
      decide
    · rw [minD_by rowD rowlt lt_rows x xs]
      obtain ⟨h1, h2⟩ := fold_least rowlt (fun a h => by
        rcases h with h | ⟨_, h⟩
        · omega
        · exact llt_irrefl _ h) (fun a b c h h' => by
        rcases h with h | ⟨h, h3⟩
        · rcases h' with h' | ⟨h', _⟩
          · exact .inl (by omega)
          · exact .inl (by omega)
        · rcases h' with h' | ⟨h', h4⟩
          · exact .inl (by omega)
          · exact .inr ⟨by omega, llt_trans h3 h4⟩) (fun a b h h' => by
        obtain ⟨a1, a2⟩ := a
        obtain ⟨b1, b2⟩ := b
        unfold rowlt at h h'
        dsimp only at h h'
        have e1 : a1 = b1 := by
          have := fun z => h (.inl z)
          have := fun z => h' (.inl z)
          omega
        have e2 : a2 = b2 := llt_tri (fun z => h (.inr ⟨e1, z⟩)) (fun z => h' (.inr ⟨e1.symm, z⟩))
        rw [e1, e2]) xs x
      exact r _ h1 h2
end DW
namespace DW
open PySem PySem.Spec PyProof.Rows L2
variable [Tabl]
/-! ### pairs of slots, and in how many ticks both send -/
def allP (ms ls : List Int) : List (Int × Int) := ms.flatMap fun s => ls.map fun p => (s, p)
def histL (g : Int) (L : List (Int × Int)) : List Int := (upI 0 g.toNat).map fun d => ((L.countP fun q => decide ((q.1 - q.2) % g = d) : Nat) : Int)
theorem hist_len (g : Int) (L : List (Int × Int)) : (histL g L).length = g.toNat := by
  unfold histL
  rw [List.length_map, upI_len]
theorem hist_nil (g : Int) : (List.replicate g.toNat [PyData.int 0]).flatten = (histL g []).map PyData.int := by
  unfold histL upI
  rw [List.map_map, List.map_map]
  apply List.ext_getElem?
  intro i
  have e : (List.replicate g.toNat [PyData.int 0]).flatten = List.replicate g.toNat (PyData.int 0) := by
    rw [List.flatten_replicate_singleton]
  rw [e, List.getElem?_replicate, List.getElem?_map]
  by_cases h : i < g.toNat
  · rw [if_pos h, List.getElem?_range h]
    rfl
  · rw [if_neg h, List.getElem?_eq_none (by rw [List.length_range]; omega)]
    rfl
theorem hist_get {g d : Int} (L : List (Int × Int)) (h0 : 0 ≤ d) (h1 : d < g) : (histL g L)[d.toNat]? = some ((L.countP fun q => decide ((q.1 - q.2) % g = d) : Nat) : Int) := by
  unfold histL
  rw [List.getElem?_map, upI_get (by omega)]
  have : (0 : Int) + (d.toNat : Nat) = d := by omega
  rw [this]
  rfl
theorem hist_snoc {g : Int} (L : List (Int × Int)) (s p : Int) (g0 : 0 < g) : (histL g L).set ((s - p) % g).toNat (((L.countP fun q => decide ((q.1 - q.2) % g = (s - p) % g) : Nat) : Int) + 1) = histL g (L ++ [(s, p)]) := by
  have h0 := Int.emod_nonneg (s - p) (show g ≠ 0 by omega)
  have h1 := Int.emod_lt_of_pos (s - p) g0
  apply List.ext_getElem?
  intro i
  by_cases hi : i < g.toNat
  · have r : (histL g (L ++ [(s, p)]))[i]? = some (((L ++ [(s, p)]).countP fun q => decide ((q.1 - q.2) % g = (i : Int)) : Nat) : Int) := by
      have := hist_get (g := g) (d := (i : Int)) (L ++ [(s, p)]) (by omega) (by omega)
      rw [Int.toNat_natCast] at this
      exact this
    rw [r, List.countP_append, List.countP_cons, List.countP_nil]
    by_cases e : i = ((s - p) % g).toNat
    · subst e
      rw [List.getElem?_set_self (by rw [hist_len]; exact hi), Int.toNat_of_nonneg h0, decide_eq_true rfl, if_pos rfl]
      rw [Int.natCast_add]
      rfl
    · rw [List.getElem?_set_ne (fun z => e z.symm)]
      have r2 := hist_get (g := g) (d := (i : Int)) L (by omega) (by omega)
      rw [Int.toNat_natCast] at r2
      rw [r2, decide_eq_false (by show ¬ (s - p) % g = (i : Int); omega), if_neg Bool.false_ne_true]
      rfl
  · rw [List.getElem?_eq_none (by rw [List.length_set, hist_len]; omega), List.getElem?_eq_none (by rw [hist_len]; omega)]
theorem allP_len (ms ls : List Int) : (allP ms ls).length = ms.length * ls.length := by
  induction ms with
  | nil => simp [allP]
  | cons s ms ih =>
    have e : allP (s :: ms) ls = (ls.map fun p => (s, p)) ++ allP ms ls := rfl
    rw [e, List.length_append, List.length_map, ih, List.length_cons, Nat.succ_mul, Nat.add_comm]
theorem allP_snoc (ms ls : List Int) (s : Int) : allP (ms ++ [s]) ls = allP ms ls ++ ls.map fun p => (s, p) := by
  unfold allP
  rw [List.flatMap_append]
  simp
def gcdP (n k : Int) : Int := ((Nat.gcd n.natAbs k.natAbs : Nat) : Int)
/-- for each offset below the common factor, how often both send -/
def pairL (n : Int) (ms : List Int) (k : Int) (ls : List Int) : List Int := histL (gcdP n k) (allP ms ls)
theorem mem_allP {ms ls : List Int} {q : Int × Int} : q ∈ allP ms ls ↔ q.1 ∈ ms ∧ q.2 ∈ ls := by
  unfold allP
  rw [List.mem_flatMap]
  constructor
  · rintro ⟨s, hs, h⟩
    obtain ⟨p, hp, rfl⟩ := List.mem_map.mp h
    exact ⟨hs, hp⟩
  · rintro ⟨h1, h2⟩
    exact ⟨q.1, h1, List.mem_map.mpr ⟨q.2, h2, rfl⟩⟩
theorem allP_nodup : ∀ {ms ls : List Int}, ms.Nodup → ls.Nodup → (allP ms ls).Nodup
  | [], ls, _, _ => List.nodup_nil
  | s :: ms, ls, h, hl => by
    have e : allP (s :: ms) ls = (ls.map fun p => (s, p)) ++ allP ms ls := rfl
    obtain ⟨h1, h2⟩ := List.nodup_cons.mp h
    rw [e, List.nodup_append]
    refine ⟨?_, allP_nodup h2 hl, fun a ha b hb hab => ?_⟩
    · refine List.Pairwise.map _ (fun a b hab => ?_) hl
      exact fun z => hab (Prod.mk.inj z).2
    · subst hab
      obtain ⟨p, _, rfl⟩ := List.mem_map.mp ha
      exact h1 (mem_allP.mp hb).1
theorem asc_nodup {ms : List Int} (h : ms.Pairwise (· < ·)) : ms.Nodup := h.imp fun z e => by omega
theorem count_keys {α β : Type} [DecidableEq β] (T : List α) (key : α → β) : ∀ {L : List β}, L.Nodup → T.countP (fun t => L.any fun q => decide (key t = q)) = (L.map fun q => T.countP fun t => decide (key t = q)).sum
  | [], _ => by
    rw [List.map_nil, List.sum_nil, List.countP_eq_zero]
    simp
  | q :: L, h => by
    obtain ⟨h1, h2⟩ := List.nodup_cons.mp h
    rw [List.map_cons, List.sum_cons, ← count_keys T key h2]
    clear h h2
    induction T with
    | nil => rfl
    | cons t T ih =>
      rw [List.countP_cons, List.countP_cons, List.countP_cons, ih]
      by_cases e : key t = q
      · have n : (L.any fun q => decide (key t = q)) = false := by
          rw [List.any_eq_false]
          intro x hx
          rw [decide_eq_true_iff]
          intro z
          rw [z] at e
          subst e
          exact h1 hx
        rw [List.any_cons, n, decide_eq_true e]
        simp
        omega
      · rw [List.any_cons, decide_eq_false e, Bool.false_or]
        cases L.any fun q => decide (key t = q) <;> simp
        omega
theorem count_one {T : List Int} {t0 : Int} {p : Int → Bool} (hn : T.Nodup) (hm : t0 ∈ T) (h : ∀ t ∈ T, (p t = true ↔ t = t0)) : T.countP p = 1 := by
  have e : T.countP p = T.countP (· == t0) := List.countP_congr fun t ht => by
    rw [h t ht, beq_iff_eq]
  rw [e]
  have := List.Nodup.count (a := t0) hn
  rw [if_pos hm] at this
  exact this
theorem sum_ind {α : Type} (p : α → Bool) (f : α → Nat) : ∀ (L : List α), (∀ q ∈ L, f q = if p q = true then 1 else 0) → (L.map f).sum = L.countP p
  | [], _ => rfl
  | q :: L, h => by
    rw [List.map_cons, List.sum_cons, List.countP_cons, sum_ind p f L fun x hx => h x (List.mem_cons_of_mem _ hx), h q List.mem_cons_self]
    omega
def bothP (n : Int) (ms : List Int) (k : Int) (ls : List Int) (d t : Int) : Bool := decide (t % n ∈ ms) && decide ((t - d) % k ∈ ls)
theorem both_pairs {n k W : Int} {ms ls : List Int} (hm : Beat n ms) (hl : Beat k ls) (hW : Whole [(n, ms), (k, ls)] W) (d : Int) : (upI 0 W.toNat).countP (bothP n ms k ls d) = (allP ms ls).countP fun q => decide ((q.1 - q.2) % gcdP n k = d % gcdP n k) := by
  have n0 := hm.n0
  have k0 := hl.n0
  have w0 := hW.pos
  have ck := count_keys (upI 0 W.toNat) (fun t => (t % n, (t - d) % k)) (allP_nodup (asc_nodup hm.asc) (asc_nodup hl.asc))
  refine Eq.trans (List.countP_congr fun t _ => ?_) (ck.trans ?_)
  · unfold bothP
    rw [Bool.and_eq_true, decide_eq_true_iff, decide_eq_true_iff, List.any_eq_true]
    constructor
    · exact fun h => ⟨(t % n, (t - d) % k), mem_allP.mpr h, decide_eq_true rfl⟩
    · rintro ⟨q, hq, h⟩
      have h := of_decide_eq_true h
      rw [← h] at hq
      exact mem_allP.mp hq
  refine sum_ind _ _ _ fun q hq => ?_
  obtain ⟨q1, q2⟩ := q
  obtain ⟨h1, h2⟩ := mem_allP.mp hq
  have r1 := hm.inn q1 h1
  have r2 := hl.inn q2 h2
  have g := gcd_some (a := n) (b := k) (by omega) (by have := hl.n1; omega)
  have ag : ((q1 - q2) % gcdP n k = d % gcdP n k) ↔ gcdP n k ∣ q1 - q2 - d := by
    constructor
    · exact fun h => Int.dvd_of_emod_eq_zero (by rw [Int.sub_emod, h, Int.sub_self]; exact Int.zero_emod _)
    · exact fun h => dvd_mod h
  have sat : ∀ t, Sat [(n, 0, q1), (k, -d, q2)] t ↔ (t % n, (t - d) % k) = (q1, q2) := fun t => by
    constructor
    · intro h
      have a : (0 + t) % n = q1 := h (n, 0, q1) List.mem_cons_self
      have b : (-d + t) % k = q2 := h (k, -d, q2) (List.mem_cons_of_mem _ List.mem_cons_self)
      have e1 : 0 + t = t := by omega
      have e2 : -d + t = t - d := by omega
      rw [e1] at a
      rw [e2] at b
      rw [a, b]
    · intro h
      obtain ⟨a, b⟩ := Prod.mk.inj h
      intro z hz
      rcases List.mem_cons.mp hz with y | hz
      · rw [y]
        show (0 + t) % n = q1
        have e1 : 0 + t = t := by omega
        rw [e1]
        exact a
      · rw [List.mem_singleton.mp hz]
        show (-d + t) % k = q2
        have e2 : -d + t = t - d := by omega
        rw [e2]
        exact b
  by_cases c : gcdP n k ∣ q1 - q2 - d
  · rw [if_pos (decide_eq_true (ag.mpr c))]
    have ex : ∃ t, Sat [(n, 0, q1), (k, -d, q2)] t := by
      refine sat_of_ag (fun z hz => ?_) fun f l z y hfl hz hy => ?_
      · rcases List.mem_cons.mp hz with y | hz
        · rw [y]
          exact ⟨by show 0 < n; omega, r1⟩
        · rw [List.mem_singleton.mp hz]
          exact ⟨by show 0 < k; omega, r2⟩
      · have hf : f < 2 := (List.getElem?_eq_some_iff.mp hz).1
        have f1 : f = 1 := by omega
        have l0 : l = 0 := by omega
        subst f1 l0
        cases hz
        cases hy
        show ((Nat.gcd k.natAbs n.natAbs : Nat) : Int) ∣ q2 - q1 - (-d - 0)
        rw [Nat.gcd_comm]
        have : q2 - q1 - (-d - 0) = -(q1 - q2 - d) := by omega
        rw [this]
        exact Int.dvd_neg.mpr c
    obtain ⟨t, ht⟩ := ex
    have hk := (sat t).mp ht
    obtain ⟨a, b⟩ := Prod.mk.inj hk
    have dn : n ∣ W := hW.dvd (n, ms) List.mem_cons_self
    have dk : k ∣ W := hW.dvd (k, ls) (List.mem_cons_of_mem _ List.mem_cons_self)
    have red : ∀ m : Int, m ∣ W → ∀ x, (t % W - x) % m = (t - x) % m := fun m hm x => by
      rw [Int.sub_emod, Int.emod_emod_of_dvd t hm, ← Int.sub_emod]
    have red0 : t % W % n = t % n := Int.emod_emod_of_dvd t dn
    have t0 := Int.emod_nonneg t (show W ≠ 0 by omega)
    have t1 := Int.emod_lt_of_pos t (show 0 < W by omega)
    refine count_one (t0 := t % W) (asc_nodup (upI_asc _ _)) (mem_upI.mpr ⟨t0, by omega⟩) fun u hu => ?_
    rw [decide_eq_true_iff]
    obtain ⟨u0, u1⟩ := mem_upI.mp hu
    constructor
    · intro hu
      obtain ⟨a', b'⟩ := Prod.mk.inj hu
      have d1 : n ∣ u - t % W := mod_dvd (by rw [a', red0, a])
      have d2 : k ∣ u - t % W := by
        have := mod_dvd (n := k) (x := u - d) (y := t % W - d) (by rw [b', red k dk d, b])
        have e : u - d - (t % W - d) = u - t % W := by omega
        rw [e] at this
        exact this
      have dw : W ∣ u - t % W := whole_dvd hW fun p hp => by
        rcases List.mem_cons.mp hp with y | hp
        · rw [y]
          exact d1
        · rw [List.mem_singleton.mp hp]
          exact d2
      have z := Int.emod_eq_zero_of_dvd dw
      have := Int.emod_eq_of_lt (a := u) (b := W) u0 (by omega)
      obtain ⟨c, hc⟩ := dw
      have : c = 0 := by
        have a1 : W * c < W := by omega
        have a2 : -W < W * c := by omega
        have b1 : c < 1 := Int.lt_of_mul_lt_mul_left (a := W) (by omega) (by omega)
        have b2 : -1 < c := Int.lt_of_mul_lt_mul_left (a := W) (by rw [Int.mul_neg, Int.mul_one]; exact a2) (by omega)
        omega
      rw [this, Int.mul_zero] at hc
      omega
    · intro e
      rw [e, red0, red k dk d, a, b]
  · rw [if_neg (by rw [decide_eq_true_iff]; exact fun h => c (ag.mp h)), List.countP_eq_zero]
    intro t _
    rw [decide_eq_true_iff]
    intro h
    have hs := (sat t).mpr h
    have := ag_of_sat (z := (n, 0, q1)) (y := (k, -d, q2)) List.mem_cons_self (List.mem_cons_of_mem _ List.mem_cons_self) hs
    have this : gcdP n k ∣ q1 - q2 - (0 - -d) := this
    have e : q1 - q2 - (0 - -d) = q1 - q2 - d := by omega
    rw [e] at this
    exact c this
/-- the greatest number of pair_meets -/
def mostP (p q : Int × List Int) : Int := (pairL p.1 p.2 q.1 q.2).foldl max 0
theorem foldl_max_ge : ∀ (ns : List Int) (n : Int), n ≤ ns.foldl max n ∧ ∀ y ∈ ns, y ≤ ns.foldl max n
  | [], n => ⟨Int.le_refl _, fun y hy => absurd hy List.not_mem_nil⟩
  | k :: ns, n => by
    rw [List.foldl_cons]
    obtain ⟨h1, h2⟩ := foldl_max_ge ns (max n k)
    refine ⟨by omega, fun y hy => ?_⟩
    rcases List.mem_cons.mp hy with e | hy
    · subst e
      omega
    · exact h2 y hy
theorem foldl_max_mem : ∀ (ns : List Int) (n : Int), ns.foldl max n = n ∨ ns.foldl max n ∈ ns
  | [], n => .inl rfl
  | k :: ns, n => by
    rw [List.foldl_cons]
    rcases foldl_max_mem ns (max n k) with h | h
    · rw [h]
      by_cases c : n ≤ k
      · rw [Int.max_eq_right c]
        exact .inr List.mem_cons_self
      · exact .inl (Int.max_eq_left (by omega))
    · exact .inr (List.mem_cons_of_mem _ h)
theorem hist_nonneg {g x : Int} {L : List (Int × Int)} (h : x ∈ histL g L) : 0 ≤ x := by
  unfold histL at h
  obtain ⟨d, _, rfl⟩ := List.mem_map.mp h
  omega
theorem most_of {p q : Int × List Int} {m : Int} (h : m ∈ pairL p.1 p.2 q.1 q.2) (hm : ∀ y ∈ pairL p.1 p.2 q.1 q.2, y ≤ m) : m = mostP p q := by
  have a := (foldl_max_ge (pairL p.1 p.2 q.1 q.2) 0).2 m h
  have m0 : 0 ≤ m := hist_nonneg h
  unfold mostP
  rcases foldl_max_mem (pairL p.1 p.2 q.1 q.2) 0 with e | e
  · omega
  · have := hm _ e
    omega
theorem pair_ne {p q : Int × List Int} (hp : Beat p.1 p.2) (hq : Beat q.1 q.2) : pairL p.1 p.2 q.1 q.2 ≠ [] := fun z => by
  have := congrArg List.length z
  unfold pairL at this
  rw [hist_len] at this
  have n0 := hp.n0
  have g := gcd_some (a := p.1) (b := q.1) (by have := hq.n0; omega) (by have := hq.n1; omega)
  have : (gcdP p.1 q.1).toNat = 0 := this
  have : 0 < gcdP p.1 q.1 := g.1
  omega
theorem most_bound {p q : Int × List Int} (hp : Beat p.1 p.2) (hq : Beat q.1 q.2) : 0 ≤ mostP p q ∧ mostP p q ≤ 3600 := by
  unfold mostP
  refine ⟨(foldl_max_ge _ 0).1, ?_⟩
  rcases foldl_max_mem (pairL p.1 p.2 q.1 q.2) 0 with e | e
  · omega
  · unfold pairL histL at e
    obtain ⟨d, _, e2⟩ := List.mem_map.mp e
    have a := List.countP_le_length (p := fun x : Int × Int => decide ((x.1 - x.2) % gcdP p.1 q.1 = d)) (l := allP p.2 q.2)
    rw [allP_len] at a
    have b1 := hp.few
    have b2 := hq.few
    have n1 := hp.n1
    have k1 := hq.n1
    have b : p.2.length * q.2.length ≤ 60 * 60 := Nat.mul_le_mul (by omega) (by omega)
    unfold pairL histL
    rw [← e2]
    omega
end DW
namespace DW
open PySem PySem.Spec PyProof.Rows L2
variable [Tabl]

/-! ### [e for .. in .. for y in ..] -/
section
variable {K : PySem.W.Frag} {δ : Nm} {te : TE}
theorem wipe2 (σ : L2.St) (vs : List Nat) : wipe (wipe σ vs) vs = wipe σ vs := by
  apply List.ext_getElem?
  intro l
  rw [wipe_get, wipe_get]
  by_cases hm : l ∈ vs
  · rw [if_pos hm, if_pos hm]
    cases σ[l]? <;> rfl
  · rw [if_neg hm, if_neg hm]
theorem w_lc2 {wi wi1 : TI} {g : TG} {vs vs1 : List Nat} {l : Nat} {R : Dt → Prop} (gin : GIn g vs) (gm : GMono g) (hl1 : l ∈ vs1)
    (h : WI K wi δ fun xs => xs.length ≤ 1000 ∧ ∃ P : Nat → List Dt → Prop, P 0 [] ∧
      (∀ i x acc, xs[i]? = some x → P i acc → WGt K g x (wipeE (δ.map blind) vs) fun δ2 => WI K wi1 δ2 fun ys => ys.length ≤ 1000 ∧ ∃ P1 : Nat → List Dt → Prop, P1 0 acc ∧
        (∀ k y a, ys[k]? = some y → P1 k a → W K te ((wipeE δ2 vs1).set l (.dat y)) fun z => P1 (k + 1) (a ++ [z])) ∧ ∀ a, P1 ys.length a → P (i + 1) a) ∧ ∀ acc, P xs.length acc → R (.list acc)) :
    W K (tLc2 wi g tYes wi1 (gName l) tYes te vs vs1) δ R := fun ω σ G H Q e k q => h ω σ G H _ e k fun J xs G1 H1 g1 k1 gv ⟨hz, P, p0, turn, done⟩ D hD => by
  have hg := k1.1.free hD
  have ap := k1.apart hD
  refine ⟨fun i m H' => m = xs.length - i ∧ i ≤ xs.length ∧ ∃ G' acc av, Same G1 G' ∧ Ok ω G' H' ∧ G' D = none ∧ H' D = some (.lst av) ∧ RpAll K G' av acc ∧ acc.length ≤ i * 1000 ∧ P i acc,
    ⟨_, rfl, Nat.zero_le _, G1, [], [], Same.refl _, k1.put hg ap, hg, upd_same, .nil, Nat.zero_le _, p0⟩, ?_⟩
  rintro i m H' ⟨rfl, hi, G', acc, av, g', k', d1, d2, ra, hl, p⟩
  by_cases hlt : i < xs.length
  · have hx : xs[i]? = some xs[i] := List.getElem?_eq_getElem hlt
    have kD : Ok ((D, fun o => o = .lst av) :: ω) G' H' := k'.push d1 d2 rfl ap
    obtain ⟨go, yl⟩ := (gv _ G' H' i g' kD).2 _ hx
    refine .inr ⟨go, fun H2 => ∃ G2 acc av, Same G1 G2 ∧ Ok ω G2 H2 ∧ G2 D = none ∧ H2 D = some (.lst av) ∧ RpAll K G2 av acc ∧ acc.length ≤ (i + 1) * 1000 ∧ P (i + 1) acc, fun H2 ⟨G2, acc2, av2, z⟩ => ⟨xs.length - (i + 1), by omega, rfl, hlt, G2, acc2, av2, z⟩, fun v H3 y => ?_⟩
    obtain ⟨G3, g3, k3, rv⟩ := yl v H3 y
    have k3' : Ok ω G3 H3 := k3.pop.1
    have e3 : EnvE K ω G3 (wipeE (δ.map blind) vs) (wipe σ vs) := (env_blind (e.mono ((g1.trans g').trans g3))).wipe vs
    have s3 : Std K ω G3 H3 (wipeE (δ.map blind) vs) (wipe σ vs) := ⟨e3, k3', fun j ds hj => (blind_own hj).elim, fun j l ds es hj _ => (blind_own hj).elim⟩
    refine gm v _ H3 _ _ (gin v _ H3 _ (turn i _ acc hx p _ (wipe σ vs) G3 H3 v (fun σ2 H2 => H2 = H3 ∧ ∃ δ2, Std K ω G3 H3 δ2 σ2 ∧ WI K wi1 δ2 fun ys => ys.length ≤ 1000 ∧ ∃ P1 : Nat → List Dt → Prop, P1 0 acc ∧
        (∀ k y a, ys[k]? = some y → P1 k a → W K te ((wipeE δ2 vs1).set l (.dat y)) fun z => P1 (k + 1) (a ++ [z])) ∧ ∀ a, P1 ys.length a → P (i + 1) a) s3 rv fun σ2 δ2 s2 h2 => ⟨rfl, δ2, s2, h2⟩)) fun σ2 H2 ⟨w2, e2, δ2, s2, h2⟩ => ⟨w2.trans (wipe2 σ vs), ?_⟩
    subst e2
    dsimp only [tYes]
    rw [if_pos rfl]
    refine h2 _ σ2 G3 H2 _ (s2.env.more fun q hq => List.mem_cons_of_mem _ hq) k3 fun J1 ys G4 H4 g4 k4 gv1 ⟨hz1, P1, q0, turn1, done1⟩ => ?_
    obtain ⟨k4', f1, ⟨o, f2, f3⟩, f4⟩ := k4.pop
    have f3' : o = .lst av := f3
    subst f3'
    refine ⟨fun j m1 H' => m1 = ys.length - j ∧ j ≤ ys.length ∧ ∃ G' a aw, Same G4 G' ∧ Ok ω G' H' ∧ G' D = none ∧ H' D = some (.lst aw) ∧ RpAll K G' aw a ∧ a.length ≤ i * 1000 + j ∧ P1 j a,
      ⟨_, rfl, Nat.zero_le _, G4, acc, av, Same.refl _, k4', f1, f2, ra.mono (g3.trans g4), hl, q0⟩, ?_⟩
    rintro j m1 H5 ⟨rfl, hj, G5, a, aw, g5, k5, d3, d4, ra5, hl5, p1⟩
    by_cases hlt1 : j < ys.length
    · have hy : ys[j]? = some ys[j] := List.getElem?_eq_getElem hlt1
      have kD5 : Ok ((D, fun o => o = .lst aw) :: ω) G5 H5 := k5.push d3 d4 rfl f4
      obtain ⟨go1, yl1⟩ := (gv1 _ G5 H5 j g5 kD5).2 _ hy
      refine .inr ⟨go1, fun H2 => ∃ G2 a aw, Same G4 G2 ∧ Ok ω G2 H2 ∧ G2 D = none ∧ H2 D = some (.lst aw) ∧ RpAll K G2 aw a ∧ a.length ≤ i * 1000 + (j + 1) ∧ P1 (j + 1) a, fun H2 ⟨G2, a2, av2, z⟩ => ⟨ys.length - (j + 1), by omega, rfl, hlt1, G2, a2, av2, z⟩, fun u H6 y6 => ?_⟩
      obtain ⟨G6, g6, k6, rv6⟩ := yl1 u H6 y6
      refine ⟨(gin_name (j := l) hl1 u (wipe σ2 vs1) H6 (fun _ _ => True) trivial).1.trans (wipe2 σ2 vs1), ?_⟩
      · dsimp only [tYes]
        rw [if_pos rfl]
        have e6 : EnvE K ((D, fun o => o = .lst aw) :: ω) G6 ((wipeE δ2 vs1).set l (.dat ys[j])) ((wipe σ2 vs1).set l (some u)) :=
          ((((s2.env.mono ((g4.trans g5).trans g6)).wipe vs1).set (e := .dat ys[j]) ⟨u, rfl, rv6⟩).more fun q hq => List.mem_cons_of_mem _ hq)
        refine turn1 j _ a hy p1 _ _ G6 H6 _ e6 k6 fun z d G7 H7 g7 k7 r7 p7 => ?_
        obtain ⟨k8, f5, ⟨o, f6, f7⟩, f8⟩ := k7.pop
        have f7' : o = .lst aw := f7
        subst f7'
        refine ⟨aw, f6, by rw [ra5.len, sizeLine_eq]; omega, G7, a ++ [d], aw ++ [z], ((g5.trans g6).trans g7), k8.put f5 f8, f5, upd_same, (ra5.mono (g6.trans g7)).append (.cons r7 .nil), by rw [List.length_append]; show a.length + 1 ≤ _; omega, p7⟩
    · have e1 : j = ys.length := by omega
      subst e1
      exact .inl ⟨(gv1 ω G5 H5 _ g5 k5).1 rfl, G5, a, aw, (((g'.trans g3).trans g4).trans g5), k5, d3, d4, ra5, by omega, done1 a p1⟩
  · have e1 : i = xs.length := by omega
    subst e1
    refine .inl ⟨(gv ω G' H' _ g' k').1 rfl, ?_⟩
    have kn : Ok ω (upd G' D (.lst av)) H' := ⟨fun b o e => by
      by_cases hb : b = D
      · subst hb
        rw [upd_same] at e
        cases e
        exact d2
      · rw [upd_ne hb] at e
        exact k'.1 b o e, ⟨k'.2.1.1, k'.2.1.2.know d2 trivial⟩, fun q hq => ⟨by rw [upd_ne (ap q hq)]; exact (k'.2.2 q hq).1, (k'.2.2 q hq).2⟩⟩
    exact q (.ref D) _ (upd G' D (.lst av)) H' ((g1.trans g').trans (same_new d1)) kn (.lst upd_same (ra.mono (same_new d1))) (done acc p)
end
/-! ### x *= e -/
def ipM : TIp := fun x y H Q => ∃ i j, x = .int i ∧ y = .int j ∧ CMul i j ∧ Q (.int (i * j)) H
theorem ip_mul {X : Cx} : PIp X .Mult ipM := by
  intro pins s σ H x y v u Q I r1 r2 h
  obtain ⟨i, j, e1, e2, hc, q⟩ := h
  subst e1; subst e2
  obtain ⟨t, rfl⟩ := r1
  obtain ⟨t', rfl⟩ := r2
  exact imul_int ⟨.int _, H, I.tok _, ⟨_, rfl⟩, q⟩ hc.ok
theorem ws_augM {K : PySem.W.Frag} {δ : Nm} {te : TE} {nx bk ct : Nm → Prop} {rt : Dt → Prop} {i : Nat} {a : Int} (hi : δ[i]? = some (.dat (.int a))) (h : W K te δ fun d => ∃ b, d = .int b ∧ CMul a b ∧ nx (δ.set i (.dat (.int (a * b))))) : WS K (tAug i te ipM) δ nx rt bk ct := fun ω σ G H D s n r b c => by
  obtain ⟨s0, h1, v, h2, h3⟩ := s.env i _ hi
  subst h2
  refine ⟨v, h1, run_wg (Rel := fun G v d => Rp K G v d) h s fun u d G' H' g s' p ⟨j, e, hc, q⟩ => ?_⟩
  subst e
  exact ⟨a, j, h3.int_inv, p.int_inv, hc, n _ _ G' H' g (s'.set (.int _)) q⟩
end DW
namespace DW
open PySem PySem.Spec PyProof.Rows L2
variable [Tabl]
/-! ### who sends, what is heard, the classes -/
abbrev Pt := Int × List Int
def sndB (p : Pt) (o t : Int) : Bool := decide ((t - o) % p.1 ∈ p.2)
def voicesF (k : Int) : List Pt → List Int → Int → List Int
  | p :: ps, o :: os, t => if sndB p o t = true then k :: voicesF (k + 1) ps os t else voicesF (k + 1) ps os t
  | _, _, _ => []
def voicesL (ps : List Pt) (os : List Int) (t : Int) : List Int := voicesF 0 ps os t
theorem voicesF_snoc {p : Pt} {o t : Int} : ∀ {ps : List Pt} {os : List Int} {k : Int}, os.length = ps.length → voicesF k (ps ++ [p]) (os ++ [o]) t = voicesF k ps os t ++ if sndB p o t = true then [k + (ps.length : Int)] else []
  | [], [], k, _ => by
    show voicesF k [p] [o] t = [] ++ _
    simp [voicesF]
  | [], _ :: _, _, h => nomatch h
  | _ :: _, [], _, h => nomatch h
  | q :: ps, r :: os, k, h => by
    have ih := voicesF_snoc (p := p) (o := o) (t := t) (ps := ps) (os := os) (k := k + 1) (Nat.succ.inj h)
    show (if sndB q r t = true then k :: voicesF (k + 1) (ps ++ [p]) (os ++ [o]) t else voicesF (k + 1) (ps ++ [p]) (os ++ [o]) t) = (if sndB q r t = true then k :: voicesF (k + 1) ps os t else voicesF (k + 1) ps os t) ++ _
    rw [ih]
    have e : k + 1 + (ps.length : Int) = k + ((q :: ps).length : Int) := by
      rw [List.length_cons]
      omega
    rw [e]
    split <;> simp
theorem voicesL_take {ps : List Pt} {os : List Int} {i : Nat} {p : Pt} {o : Int} (hp : ps[i]? = some p) (ho : os[i]? = some o) (t : Int) : voicesL (ps.take (i + 1)) (os.take (i + 1)) t = voicesL (ps.take i) (os.take i) t ++ if sndB p o t = true then [(i : Int)] else [] := by
  have h1 := (List.getElem?_eq_some_iff.mp hp).1
  have h2 := (List.getElem?_eq_some_iff.mp ho).1
  have l1 : (ps.take i).length = i := by rw [List.length_take]; omega
  have l2 : (os.take i).length = i := by rw [List.length_take]; omega
  unfold voicesL
  rw [take_snoc hp, take_snoc ho, voicesF_snoc (by omega), l1, Int.zero_add]
theorem voicesF_bounds : ∀ {ps : List Pt} {os : List Int} {k t x : Int}, x ∈ voicesF k ps os t → k ≤ x ∧ x < k + (ps.length : Int)
  | [], _, _, _, _, h => by simp [voicesF] at h
  | _ :: _, [], _, _, _, h => by simp [voicesF] at h
  | q :: ps, r :: os, k, t, x, h => by
    have ih : ∀ x ∈ voicesF (k + 1) ps os t, k + 1 ≤ x ∧ x < k + 1 + (ps.length : Int) := fun x hx => voicesF_bounds hx
    rw [List.length_cons]
    unfold voicesF at h
    split at h
    · rcases List.mem_cons.mp h with e | h
      · omega
      · have := ih x h
        omega
    · have := ih x h
      omega
def kindI : List Int → Int
  | [] => -1
  | [i] => i
  | _ => -2
def heardI (ps : List Pt) (os : List Int) (t : Int) : Int := kindI (voicesL ps os t)
def lineL (ps : List Pt) (os : List Int) (n : Nat) : List Int := (upI 0 n).map (heardI ps os)
theorem line_len (ps : List Pt) (os : List Int) (n : Nat) : (lineL ps os n).length = n := by
  unfold lineL
  rw [List.length_map, upI_len]
theorem heard_bounds (ps : List Pt) (os : List Int) (t : Int) : -2 ≤ heardI ps os t ∧ heardI ps os t < (ps.length : Int) := by
  unfold heardI
  have b : ∀ x ∈ voicesL ps os t, 0 ≤ x ∧ x < (ps.length : Int) := fun x hx => by
    have := voicesF_bounds hx
    omega
  generalize voicesL ps os t = v at b
  match v, b with
  | [], _ =>
    show -2 ≤ -1 ∧ (-1 : Int) < _
    omega
  | [i], b =>
    have := b i List.mem_cons_self
    show -2 ≤ i ∧ i < _
    omega
  | _ :: _ :: _, _ =>
    show -2 ≤ -2 ∧ (-2 : Int) < _
    omega
/-- the product of a list -/
def prodI : List Int → Int
  | [] => 1
  | n :: ns => n * prodI ns
theorem prodI_snoc (ns : List Int) (n : Int) : prodI (ns ++ [n]) = prodI ns * n := by
  induction ns with
  | nil =>
    show n * 1 = 1 * n
    omega
  | cons m ns ih =>
    show m * prodI (ns ++ [n]) = m * prodI ns * n
    rw [ih, Int.mul_assoc]
/-- for each pattern how many of its offsets stand in the classes -/
def sizesF (s : Nat) : List Pt → List Int
  | [] => []
  | p :: ps => ((Nat.gcd s p.1.natAbs : Nat) : Int) :: sizesF (Nat.lcm s p.1.natAbs) ps
def spanF (s : Nat) : List Pt → Nat
  | [] => s
  | p :: ps => spanF (Nat.lcm s p.1.natAbs) ps
def sizesL (ps : List Pt) : List Int := sizesF 1 ps
def spanN (ps : List Pt) : Nat := spanF 1 ps
theorem spanF_snoc (p : Pt) : ∀ (ps : List Pt) (s : Nat), spanF s (ps ++ [p]) = Nat.lcm (spanF s ps) p.1.natAbs
  | [], s => rfl
  | q :: ps, s => spanF_snoc p ps (Nat.lcm s q.1.natAbs)
theorem sizesF_snoc (p : Pt) : ∀ (ps : List Pt) (s : Nat), sizesF s (ps ++ [p]) = sizesF s ps ++ [((Nat.gcd (spanF s ps) p.1.natAbs : Nat) : Int)]
  | [], s => rfl
  | q :: ps, s => by
    show _ :: sizesF (Nat.lcm s q.1.natAbs) (ps ++ [p]) = _ :: (sizesF (Nat.lcm s q.1.natAbs) ps ++ _)
    rw [sizesF_snoc p ps]
    rfl
theorem sizes_len : ∀ (ps : List Pt) (s : Nat), (sizesF s ps).length = ps.length
  | [], _ => rfl
  | q :: ps, s => by
    show (sizesF (Nat.lcm s q.1.natAbs) ps).length + 1 = _
    rw [sizes_len ps]
    rfl
theorem span_whole : ∀ (ps : List Pt), (∀ p ∈ ps, 0 < p.1) → Whole ps (spanN ps : Nat) := by
  intro ps
  have key : ∀ (qs : List Pt) (s : Nat) (rs : List Pt), (∀ p ∈ qs, 0 < p.1) → Whole rs (s : Int) → Whole (rs ++ qs) (spanF s qs : Nat) := by
    intro qs
    induction qs with
    | nil =>
      intro s rs _ h
      rw [List.append_nil]
      exact h
    | cons q qs ih =>
      intro s rs hq h
      have := ih (Nat.lcm s q.1.natAbs) (rs ++ [q]) (fun p hp => hq p (List.mem_cons_of_mem _ hp)) (by
        have := whole_snoc h (hq q List.mem_cons_self)
        rw [Int.natAbs_natCast] at this
        exact this)
      rw [List.append_assoc] at this
      exact this
  intro h
  have := key ps 1 [] h whole_nil
  rw [List.nil_append] at this
  exact this
/-- all tuples below -/
def belowL (ns : List Int) : List (List Int) := ns.foldl (fun rows n => rows.flatMap fun r => (upI 0 n.toNat).map fun x => r ++ [x]) [[]]
theorem below_snoc (ns : List Int) (n : Int) : belowL (ns ++ [n]) = (belowL ns).flatMap fun r => (upI 0 n.toNat).map fun x => r ++ [x] := by
  unfold belowL
  rw [List.foldl_append]
  rfl
def Box : List Int → List Int → Prop
  | [], [] => True
  | o :: os, n :: ns => (0 ≤ o ∧ o < n) ∧ Box os ns
  | _, _ => False
theorem Box.len : ∀ {os ns : List Int}, Box os ns → os.length = ns.length
  | [], [], _ => rfl
  | _ :: _, _ :: _, h => congrArg Nat.succ h.2.len
  | [], _ :: _, h => h.elim
  | _ :: _, [], h => h.elim
theorem box_snoc {o n : Int} : ∀ {os ns : List Int}, os.length = ns.length → (Box (os ++ [o]) (ns ++ [n]) ↔ Box os ns ∧ 0 ≤ o ∧ o < n)
  | [], [], _ => ⟨fun h => ⟨trivial, h.1⟩, fun h => ⟨h.2, trivial⟩⟩
  | [], _ :: _, h => nomatch h
  | _ :: _, [], h => nomatch h
  | a :: os, b :: ns, h => by
    have ih := box_snoc (o := o) (n := n) (os := os) (ns := ns) (Nat.succ.inj h)
    show ((0 ≤ a ∧ a < b) ∧ Box (os ++ [o]) (ns ++ [n])) ↔ (((0 ≤ a ∧ a < b) ∧ Box os ns) ∧ 0 ≤ o ∧ o < n)
    rw [ih]
    exact ⟨fun ⟨a, b, c⟩ => ⟨⟨a, b⟩, c⟩, fun ⟨⟨a, b⟩, c⟩ => ⟨a, b, c⟩⟩
theorem snoc_split {α : Type} {P : List α → Prop} (h0 : P []) (hs : ∀ xs x, P xs → P (xs ++ [x])) (xs : List α) : P xs := by
  have : ∀ (n : Nat) (xs : List α), xs.length = n → P xs := by
    intro n
    induction n with
    | zero => exact fun xs h => by rw [List.length_eq_zero_iff.mp h]; exact h0
    | succ n ih =>
      intro xs h
      have ne : xs ≠ [] := fun z => by rw [z] at h; cases h
      rw [← List.dropLast_concat_getLast ne]
      refine hs _ _ (ih _ ?_)
      rw [List.length_dropLast]
      omega
  exact this _ xs rfl
theorem mem_below : ∀ {ns os : List Int}, os ∈ belowL ns ↔ Box os ns := by
  intro ns
  induction ns using snoc_split with
  | h0 =>
    intro os
    show os ∈ [[]] ↔ _
    rw [List.mem_singleton]
    constructor
    · intro h
      rw [h]
      trivial
    · intro h
      exact List.length_eq_zero_iff.mp h.len
  | hs ns n ih =>
    intro os
    rw [below_snoc, List.mem_flatMap]
    constructor
    · rintro ⟨r, hr, h⟩
      obtain ⟨x, hx, rfl⟩ := List.mem_map.mp h
      have hb := ih.mp hr
      have := mem_upI.mp hx
      exact (box_snoc hb.len).mpr ⟨hb, by omega, by omega⟩
    · intro h
      have hl := h.len
      rw [List.length_append] at hl
      have ne : os ≠ [] := fun z => by rw [z] at hl; cases hl
      have e := (List.dropLast_concat_getLast ne).symm
      rw [e] at h
      have l2 : os.dropLast.length = ns.length := by
        rw [List.length_dropLast]
        have : os.length = ns.length + 1 := hl
        omega
      obtain ⟨h1, h2, h3⟩ := (box_snoc l2).mp h
      exact ⟨os.dropLast, ih.mpr h1, List.mem_map.mpr ⟨os.getLast ne, mem_upI.mpr ⟨h2, by omega⟩, e.symm⟩⟩
theorem app_lt {xs ys : List Int} {a b : Int} (hl : xs.length = ys.length) (h : xs < ys ∨ (xs = ys ∧ a < b)) : xs ++ [a] < ys ++ [b] := by
  induction xs generalizing ys with
  | nil =>
    cases ys with
    | nil =>
      rcases h with h | ⟨_, h⟩
      · exact absurd h (llt_irrefl _)
      · exact List.cons_lt_cons_iff.mpr (.inl h)
    | cons _ _ => cases hl
  | cons x xs ih =>
    cases ys with
    | nil => cases hl
    | cons y ys =>
      refine List.cons_lt_cons_iff.mpr ?_
      rcases h with h | ⟨h, h2⟩
      · rcases List.cons_lt_cons_iff.mp h with z | ⟨z1, z2⟩
        · exact .inl z
        · exact .inr ⟨z1, ih (Nat.succ.inj hl) (.inl z2)⟩
      · injection h with e1 e2
        exact .inr ⟨e1, ih (Nat.succ.inj hl) (.inr ⟨e2, h2⟩)⟩
theorem below_asc (ns : List Int) : (belowL ns).Pairwise (· < ·) := by
  induction ns using snoc_split with
  | h0 => exact List.pairwise_singleton _ _
  | hs ns n ih =>
    rw [below_snoc]
    have lens : ∀ r ∈ belowL ns, r.length = ns.length := fun r hr => (mem_below.mp hr).len
    generalize belowL ns = L at ih lens
    induction L with
    | nil => exact .nil
    | cons r L ih2 =>
      obtain ⟨h1, h2⟩ := List.pairwise_cons.mp ih
      rw [List.flatMap_cons, List.pairwise_append]
      refine ⟨?_, ih2 h2 fun q hq => lens q (List.mem_cons_of_mem _ hq), fun a ha b hb => ?_⟩
      · refine List.Pairwise.map _ (fun a b hab => ?_) (upI_asc 0 n.toNat)
        exact app_lt rfl (.inr ⟨rfl, hab⟩)
      · obtain ⟨x, _, rfl⟩ := List.mem_map.mp ha
        obtain ⟨q, hq, hb⟩ := List.mem_flatMap.mp hb
        obtain ⟨y, _, rfl⟩ := List.mem_map.mp hb
        exact app_lt ((lens r List.mem_cons_self).trans (lens q (List.mem_cons_of_mem _ hq)).symm) (.inl (h1 q hq))
def classL (ps : List Pt) : List (List Int) := belowL (sizesL ps)
/-- range(a, b, c) upwards: so many, those below b -/
theorem rgc_gen {a b c : Int} (a0 : 0 ≤ a) (b0 : 0 ≤ b) (c0 : 0 < c) (ha : a < 1000000) (hb : b < 1000000) (hc : c < 1000000) : ∃ n : Nat, RgC a b c n ∧ ∀ j : Nat, j < n ↔ a + (j : Int) * c < b := by
  have key : ∀ j : Int, 0 ≤ j → (j < (if a < b then (b - a - 1) / c + 1 else 0) ↔ a + j * c < b) := fun j j0 => by
    by_cases h : a < b
    · rw [if_pos h]
      constructor
      · intro hj
        have h1 : j ≤ (b - a - 1) / c := by omega
        have h2 := (Int.le_ediv_iff_mul_le c0).mp h1
        omega
      · intro hj
        have h2 : j * c ≤ b - a - 1 := by omega
        have h1 := (Int.le_ediv_iff_mul_le c0).mpr h2
        omega
    · rw [if_neg h]
      have : 0 ≤ j * c := Int.mul_nonneg j0 (by omega)
      omega
  have sz : Builtin.Range.rangeSize a b c = if a < b then (b - a - 1) / c + 1 else 0 := by
    unfold Builtin.Range.rangeSize
    rw [if_pos (show c > 0 from c0)]
  have nn : 0 ≤ (if a < b then (b - a - 1) / c + 1 else 0) := by
    split
    · have := Int.ediv_nonneg (show 0 ≤ b - a - 1 by omega) (show 0 ≤ c by omega)
      omega
    · omega
  have up : (if a < b then (b - a - 1) / c + 1 else 0) ≤ 1000000 := by
    split
    · have := Int.ediv_le_self c (show 0 ≤ b - a - 1 by omega)
      omega
    · omega
  generalize hn : (if a < b then (b - a - 1) / c + 1 else 0) = n at key sz nn up
  refine ⟨n.toNat, ⟨by omega, by omega, ?_, by rw [sz]; omega⟩, fun j => ?_⟩
  · unfold Builtin.Range.small
    rw [sz, if_pos (show c > 0 from c0)]
    simp only [Builtin.Range.rangeFitsLong, Bool.and_eq_true, Bool.or_eq_true, decide_eq_true_eq, beq_iff_eq]
    omega
  · have := key (j : Int) (by omega)
    omega
end DW
namespace DW
open PySem PySem.Spec PyProof.Rows L2
variable [Tabl]
theorem crowd_pos {ps : List Pt} (h : Crowd ps) : ∀ p ∈ ps, 0 < p.1 := fun p hp => by
  have := (h.all p hp).n0
  omega
theorem sizes_pos : ∀ {ps : List Pt} (s : Nat), (∀ p ∈ ps, 0 < p.1 ∧ p.1 ≤ 60) → ∀ n ∈ sizesF s ps, 1 ≤ n ∧ n ≤ 60
  | [], _, _, n, hn => by cases hn
  | p :: ps, s, h, n, hn => by
    have b := h p List.mem_cons_self
    rcases List.mem_cons.mp hn with e | hn
    · have a := Nat.gcd_le_right s (show 0 < p.1.natAbs by omega)
      have c := Nat.gcd_pos_of_pos_right s (show 0 < p.1.natAbs by omega)
      omega
    · exact sizes_pos _ (fun q hq => h q (List.mem_cons_of_mem _ hq)) n hn
theorem crowd_60 {ps : List Pt} (h : Crowd ps) : ∀ p ∈ ps, 0 < p.1 ∧ p.1 ≤ 60 := fun p hp => by
  have a := (h.all p hp).n0
  have b := (h.all p hp).n1
  omega
theorem below_len : ∀ {ns : List Int}, (∀ n ∈ ns, 1 ≤ n) → ((belowL ns).length : Int) = prodI ns := by
  intro ns
  induction ns using snoc_split with
  | h0 => exact fun _ => rfl
  | hs ns n ih =>
    intro h
    have n1 := h n (List.mem_append_right _ List.mem_cons_self)
    rw [below_snoc, prodI_snoc, ← ih fun m hm => h m (List.mem_append_left _ hm)]
    generalize belowL ns = L
    induction L with
    | nil =>
      show ((0 : Nat) : Int) = ((0 : Nat) : Int) * n
      rw [Int.natCast_zero, Int.zero_mul]
    | cons r L ih2 =>
      rw [List.flatMap_cons, List.length_append, List.length_map, upI_len, Int.natCast_add, ih2, List.length_cons, Int.natCast_add, Int.add_mul]
      have : ((n.toNat : Nat) : Int) = n := by omega
      rw [this]
      omega
theorem prod_pos : ∀ {ns : List Int}, (∀ n ∈ ns, 1 ≤ n) → 1 ≤ prodI ns
  | [], _ => Int.le_refl _
  | n :: ns, h => by
    have n1 := h n List.mem_cons_self
    have a := prod_pos (ns := ns) fun m hm => h m (List.mem_cons_of_mem _ hm)
    show 1 ≤ n * prodI ns
    have := Int.mul_pos (show 0 < n by omega) (show 0 < prodI ns by omega)
    omega
theorem prod_take : ∀ {ns : List Int} (i : Nat), (∀ n ∈ ns, 1 ≤ n) → 1 ≤ prodI (ns.take i) ∧ prodI (ns.take i) ≤ prodI ns
  | [], i, _ => by
    rw [List.take_nil]
    exact ⟨Int.le_refl _, Int.le_refl _⟩
  | n :: ns, 0, h => ⟨by show (1 : Int) ≤ 1; omega, prod_pos h⟩
  | n :: ns, i + 1, h => by
    have n1 := h n List.mem_cons_self
    obtain ⟨a, b⟩ := prod_take (ns := ns) i fun m hm => h m (List.mem_cons_of_mem _ hm)
    show 1 ≤ n * prodI (ns.take i) ∧ n * prodI (ns.take i) ≤ n * prodI ns
    refine ⟨?_, Int.mul_le_mul_of_nonneg_left b (by omega)⟩
    have := Int.mul_pos (show 0 < n by omega) (show 0 < prodI (ns.take i) by omega)
    omega
theorem class_box_offs : ∀ {ps : List Pt} {os : List Int} (s : Nat), (∀ p ∈ ps, 0 < p.1 ∧ p.1 ≤ 60) → Box os (sizesF s ps) → os.length = ps.length ∧ ∀ q ∈ os.zip ps, 0 ≤ q.1 ∧ q.1 < q.2.1
  | [], [], _, _, _ => ⟨rfl, fun q hq => absurd hq List.not_mem_nil⟩
  | [], _ :: _, _, _, h => h.elim
  | _ :: _, [], _, _, h => h.elim
  | p :: ps, o :: os, s, hp, h => by
    obtain ⟨⟨h0, h1⟩, h2⟩ := h
    obtain ⟨a, b⟩ := class_box_offs _ (fun q hq => hp q (List.mem_cons_of_mem _ hq)) h2
    have c := hp p List.mem_cons_self
    have d := Nat.gcd_le_right s (show 0 < p.1.natAbs by omega)
    refine ⟨congrArg Nat.succ a, fun q hq => ?_⟩
    rcases List.mem_cons.mp hq with e | hq
    · rw [e]
      exact ⟨h0, by show o < p.1; omega⟩
    · exact b q hq
theorem class_offs {ps : List Pt} (hc : Crowd ps) {os : List Int} (h : os ∈ classL ps) : Offs ps os := by
  obtain ⟨a, b⟩ := class_box_offs 1 (crowd_60 hc) (mem_below.mp h)
  exact ⟨a, b⟩
def lineRow (ps : List Pt) (n : Nat) (os : List Int) : Dt := .tuple [.list ((lineL ps os n).map .int), offsD os]
def kindN (ps : List Pt) (k : Int) (os : List Int) : Nat := (lineL ps os (spanN ps)).count k
theorem class_ne (ps : List Pt) (hc : Crowd ps) : classL ps ≠ [] := fun z => by
  have : ((classL ps).length : Int) = prodI (sizesL ps) := below_len fun m hm => (sizes_pos 1 (crowd_60 hc) m hm).1
  have h := prod_pos (ns := sizesL ps) fun m hm => (sizes_pos 1 (crowd_60 hc) m hm).1
  rw [z] at this
  have this : (0 : Int) = prodI (sizesL ps) := this
  omega
/-- what counts tells -/
def countsL (ps : List Pt) (os : List Int) : List Int := ((kindN ps (-1) os : Nat) : Int) :: ((upI 0 ps.length).map fun w => ((kindN ps w os : Nat) : Int)) ++ [((kindN ps (-2) os : Nat) : Int)]
/-! ### a def that hands back a plain tuple -/
section
variable {K : PySem.W.Frag} {δ δ0 : Nm} {ω : Wd} {G H : Hp} {σ : L2.St} {ts tw : TS} {ar : TA}
theorem ws_then {D : Ends} (h : WS K ts δ (fun δ' => δ' = δ0) (fun _ => False) (fun _ => False) (fun _ => False)) (s : Std K ω G H δ σ) (k : ∀ σ' G' H', Same G G' → Std K ω G' H' δ0 σ' → tw D σ' H') : tSeq ts tw D σ H :=
  h ω σ G H { D with nx := tw D } s (fun σ' δ' G' H' g s' e => by subst e; exact k σ' G' H' g s') (fun _ _ _ _ _ _ _ z => z.elim) (fun _ _ _ _ _ _ z => z.elim) (fun _ _ _ _ _ _ z => z.elim)
theorem w_tupP {R : List Dt → Prop} (h : WA K ar δ fun es => ∃ ds, es = [.dat (.list ds)] ∧ R ds) : WG K (fun _ G v ds => PlT K G v ds) (tCB (rTupP K) ar) δ R := fun ω σ G H Q e k q =>
  h ω σ G H _ e k fun vs es G1 H1 g1 k1 r1 ⟨ds, e1, hr⟩ => by
    subst e1
    obtain ⟨v, rfl, rv⟩ := rel1 r1
    obtain ⟨a, xs, rfl, hs, ra⟩ := rv.list_inv
    refine ⟨a, xs, rfl, .inl (.inl (k1.1 _ _ hs)), fun l o hl hc hd => ?_⟩
    have hg := k1.1.free hl
    exact q (.ref l) ds (upd G1 l (.frz o (.tup xs))) _ (g1.trans (same_new hg)) (k1.new hl) ⟨l, o, xs, rfl, upd_same, ⟨hc, hd⟩, ra.mono (same_new hg)⟩ hr
end
theorem Use.plain {P : Program} {w : World} {K : PySem.W.Frag} {mg : Str → Option Value} {base : Heap} {x : Str} {st : Stmt} {N ps : List Str} {k : Nat} {α : Type} {args : α → List E} {ok : α → Prop} {post : α → List Dt → Prop} (F : Dfn K mg x st ps) (S : FnScope N ps (defScope st))
    (many : ∀ a, (args a).length = ps.length ∧ noOwn (args a) = true)
    (hbody : ∀ (f : Addr) (cdv : Value) (A : Around) (out : List PySem.Env) (s : Shared) (H : Hp) (E : XK), A.guards = some [] → Room k (A.deeper (envOfC x (defScope st) s.heap.objs.size f cdv)) →
      ∃ t, PSs (cxOf CX0 P w K mg base N x (defScope st) f cdv A out s H E).nox (defBody st) t ∧
        ∀ a, ok a → ∀ (ω : Wd) (G H : Hp) (σ : L2.St) (Q : VK), Std K ω G H (startE N (args a)) σ → (∀ v ds G' H', Same G G' → Ok ω G' H' → PlT K G' v ds → post a ds → Q v H') → t { nx := fun _ H' => Q .non H', rt := Q } σ H) : Use P w K mg base x (k + 1) ps (spP K args ok post) := by
  refine Use.low F S (fun vs H Q E ⟨ω, G, a, _, r, _, _⟩ => by rw [rel_len r]; exact (many a).1) fun f cdv A out s H vs Q E hG hr ⟨ω, G, a, k0, r, ho, q⟩ => ?_
  obtain ⟨t, ht, hw⟩ := hbody f cdv A out s H E hG hr
  have no : ∀ (i : Nat) (ds : Dt), (startE N (args a))[i]? = some (.own ds) → False := fun i ds hi => by
    have hm : (DW.E.own ds) ∈ startE N (args a) := List.mem_of_getElem? hi
    rcases List.mem_append.mp hm with z | z
    · have := (many a).2
      unfold noOwn at this
      rw [Bool.not_eq_true'] at this
      exact List.any_eq_false.mp this _ z rfl
    · cases (List.mem_replicate.mp z).2
  exact ⟨t, ht, hw a ho ω G H _ Q ⟨env_start N r, k0, fun i ds hi => (no i ds hi).elim, fun i j ds _ hi _ => (no i ds hi).elim⟩ q⟩
end DW
namespace DW
open PySem PySem.Spec PyProof.Rows L2
variable [Tabl]
/-! ### names that own, more than one at a time -/
section
variable {K : PySem.W.Frag} {ω : Wd} {G H : Hp} {δ : Nm} {σ : L2.St} {te : TE} {nx bk ct : Nm → Prop} {rt : Dt → Prop}
theorem Std.held {p : Addr} {o0 : HO} (s : Std K ω G H δ σ) (hp : H p = none) (pl : Pl o0 := by first | trivial | assumption | exact RpO.pl (by assumption)) : Std K ((p, fun o => o = o0) :: ω) G (upd H p o0) δ σ := by
  have hg := s.ok.1.free hp
  have ap := s.ok.apart hp
  refine ⟨s.env.more fun q hq => List.mem_cons_of_mem _ hq, (s.ok.put hg ap).push hg upd_same rfl ap, fun j ds hj => ?_, s.one⟩
  obtain ⟨p', vs, h1, h2, h3, h4, h5⟩ := s.own j ds hj
  have ne : p' ≠ p := ne_of_none h2 hp
  refine ⟨p', vs, h1, by rw [upd_ne ne]; exact h2, h3, h4, fun q hq => ?_⟩
  rcases List.mem_cons.mp hq with e | hq
  · rw [e]
    exact Ne.symm ne
  · exact h5 q hq
theorem Std.adopt {p : Addr} {o0 : HO} {d : Dt} {i : Nat} (s : Std K ((p, fun o => o = o0) :: ω) G H δ σ) (hl : i < δ.length) (ro : RpO K G o0 d) : Std K ω G H (δ.set i (.own d)) (σ.set i (some (.ref p))) := by
  obtain ⟨k, d1, ⟨o, d2, d3⟩, d4⟩ := s.ok.pop
  have d3' : o = o0 := d3
  subst d3'
  have ls : i < σ.length := by
    obtain ⟨s0, z, _⟩ := s.env i _ (List.getElem?_eq_getElem hl)
    exact (List.getElem?_eq_some_iff.mp z).1
  have far : ∀ (j : Nat) (es : Dt) (q : Addr), δ[j]? = some (.own es) → σ[j]? = some (some (.ref q)) → q ≠ p := fun j es q hj hq e => by
    obtain ⟨p', vs, h1, h2, h3, h4, h5⟩ := s.own j es hj
    rw [hq] at h1
    cases h1
    exact h5 (p, _) List.mem_cons_self e.symm
  have env : EnvE K ω G δ σ → EnvE K ω G (δ.set i (.own d)) (σ.set i (some (.ref p))) := fun h => h.set (e := .own d) trivial
  have pens : EnvE K ω G (δ.set i (.own d)) (σ.set i (some (.ref p))) := by
    intro j e hj
    obtain ⟨s0, z1, z2⟩ := (s.env.set (i := i) (e := .own d) (s := some (.ref p)) trivial) j e hj
    refine ⟨s0, z1, ?_⟩
    cases e with
    | unk => trivial
    | own _ => trivial
    | dat _ => exact z2
    | pl _ => exact z2
    | dic _ => exact z2
    | scr _ => exact z2
    | pen =>
      obtain ⟨q, e1, e2⟩ := z2
      rcases List.mem_cons.mp e2 with z | z
      · have e3 : PenS = fun o' => o' = o := congrArg Prod.snd z
        have a : HO.lst [.int 0, .int 0, .int 0] = o := (congrFun e3 _).mp ⟨0, 0, 0, rfl, by decide, by decide⟩
        have b : HO.lst [.int 1, .int 0, .int 0] = o := (congrFun e3 _).mp ⟨1, 0, 0, rfl, by decide, by decide⟩
        rw [← b] at a
        injection a with a
        injection a with a
        injection a with a
        cases a
      · exact ⟨q, e1, z⟩
  refine ⟨pens, k, fun j es hj => ?_, fun j l ds' es h1 h2 => ?_⟩
  · by_cases hij : i = j
    · subst hij
      rw [List.getElem?_set_self hl] at hj
      cases hj
      exact ⟨p, o, by rw [List.getElem?_set_self ls], d2, ro, d1, d4⟩
    · rw [List.getElem?_set_ne hij] at hj
      obtain ⟨p', vs, a1, a2, a3, a4, a5⟩ := s.own j es hj
      exact ⟨p', vs, by rw [List.getElem?_set_ne hij]; exact a1, a2, a3, a4, fun q hq => a5 q (List.mem_cons_of_mem _ hq)⟩
  · by_cases hij : i = j
    · by_cases hil : i = l
      · exact .inl (hij.symm.trans hil)
      · rw [List.getElem?_set_ne hil] at h2
        refine .inr fun q e1 e2 => ?_
        subst hij
        rw [List.getElem?_set_self ls] at e1
        rw [List.getElem?_set_ne hil] at e2
        cases e1
        exact far l es p h2 e2 rfl
    · rw [List.getElem?_set_ne hij] at h1
      by_cases hil : i = l
      · refine .inr fun q e1 e2 => ?_
        subst hil
        rw [List.getElem?_set_self ls] at e2
        rw [List.getElem?_set_ne hij] at e1
        cases e2
        exact far j ds' p h1 e1 rfl
      · rw [List.getElem?_set_ne hil] at h2
        rw [List.getElem?_set_ne hij, List.getElem?_set_ne hil]
        exact s.one j l ds' es h1 h2
/-- x, y = [], e -/
theorem ws_parO {i j : Nat} (hi : (δ[i]?).isSome = true) (h : W K te δ fun d => nx ((δ.set i (.own (.list []))).set j (.dat d))) : WS K (tPar i j (tCons (tLst tNil) (tCons te tNil))) δ nx rt bk ct := fun ω σ G H D s n r b c =>
  ⟨Nat.zero_le _, fun p hp => run_wg (Rel := fun G v d => Rp K G v d) h (s.held (o0 := .lst []) hp) fun v d G' H' g s' rv q =>
    ⟨.ref p, v, rfl, n _ _ G' H' g ((s'.adopt (d := .list []) (lt_of_isSome hi) .nil).set rv) q⟩⟩
/-- x, y, z = [], e, [] -/
theorem ws_par3O {i j l : Nat} (hi : (δ[i]?).isSome = true) (hl : (δ[l]?).isSome = true) (hjl : j ≠ l) (hil : i ≠ l) (h : W K te δ fun d => nx (((δ.set i (.own (.list []))).set j (.dat d)).set l (.own (.list [])))) : WS K (tPar3 i j l (tCons (tLst tNil) (tCons te (tCons (tLst tNil) tNil)))) δ nx rt bk ct := fun ω σ G H D s n r b c =>
  ⟨Nat.zero_le _, fun p hp => run_wg (Rel := fun G v d => Rp K G v d) h (s.held (o0 := .lst []) hp) fun v d G' H' g s' rv q => ⟨Nat.zero_le _, fun u hu => by
    refine ⟨.ref p, v, .ref u, rfl, n _ _ G' _ g ?_ q⟩
    have hu2 : H' u = none := hu
    have h1 := s'.held (o0 := .lst []) hu2
    have h2 := h1.adopt (i := l) (d := .list []) (lt_of_isSome hl) .nil
    have h3 := h2.adopt (i := i) (d := .list []) (by rw [List.length_set]; exact lt_of_isSome hi) .nil
    have h4 := h3.set (i := j) rv
    have e1 : ((δ.set l (.own (.list []))).set i (.own (.list []))).set j (.dat d) = ((δ.set i (.own (.list []))).set j (.dat d)).set l (.own (.list [])) := by
      rw [List.set_comm _ _ (Ne.symm hil), List.set_comm _ _ (Ne.symm hjl)]
    have e2 : ((σ.set l (some (.ref u))).set i (some (.ref p))).set j (some v) = ((σ.set i (some (.ref p))).set j (some v)).set l (some (.ref u)) := by
      rw [List.set_comm _ _ (Ne.symm hil), List.set_comm _ _ (Ne.symm hjl)]
    rw [e1, e2] at h4
    exact h4⟩⟩
end
end DW
namespace DW
open PySem PySem.Spec PyProof.Rows L2
variable [Tabl]
/-! ### the greatest of a tuple of ints; an item of an own list -/
def rMaxT (K : PySem.W.Frag) : List V → Hp → VK → Prop := fun vs H Q => ∃ a xs d ds, vs = [V.ref a] ∧ SqT K H a xs ∧ DpAll K H xs (d :: ds) ∧ (PyData.canLayAll0 (d :: ds) = true ∧ PySem.W.AlikeAll (d :: ds) ∧ PyData.depthAll (d :: ds) ≤ 60) ∧ ∀ (i : Nat) x, xs[i]? = some x → (d :: ds)[i]? = some (PySem.W.maxD d ds) → Q x H
theorem cr_maxT {X : Cx} (hc : X.calm = true) (hu : X.A.units + 70 < cLine) : CallR X (.builtin "max") (rMaxT X.K) := fun pins s σ H vs us Q I r ⟨a, xs, d, ds, e, hs, hd, ⟨hlay, hal, hdep⟩, q⟩ => by
  subst e
  obtain ⟨its, rv, hl, _⟩ := I.tuple hs
  rw [Vals.ref1 r]
  obtain ⟨as, rs⟩ := Dp.readsAll I _ _ _ hd rv
  refine PySem.W.max_tuple_data (I.ok.hd hc) hl rs hal (by omega) fun i v h' tk bs hv hr hk => ?_
  have hv' : its[i]? = some v := by simpa using hv
  obtain ⟨x, hx, rx⟩ := vals_at rv hv'
  obtain ⟨cs, rc, il, _⟩ := PySem.W.readsAll_at rs i v hv'
  have e := (Reads.unique (Reads.keeps hk rc) _ _ hr).1
  refine ⟨x, H, I.kept (t' := tk) hk, rx, q i x hx ?_⟩
  rw [List.getElem?_eq_getElem il, ← e, List.getD_eq_getElem?_getD, List.getElem?_eq_getElem il]
  rfl
theorem fold_max : ∀ (ns : List Int) (n : Int), ns.foldl max n ∈ n :: ns ∧ ∀ y ∈ n :: ns, y ≤ ns.foldl max n
  | [], n => ⟨List.mem_cons_self, fun y hy => by rw [List.mem_singleton.mp hy]; exact Int.le_refl _⟩
  | k :: ns, n => by
    rw [List.foldl_cons]
    obtain ⟨h1, h2⟩ := fold_max ns (max n k)
    have hm := h2 _ List.mem_cons_self
    refine ⟨?_, fun y hy => ?_⟩
    · rcases List.mem_cons.mp h1 with e | e
      · rw [e]
        by_cases c : n ≤ k
        · rw [Int.max_eq_right c]
          exact List.mem_cons_of_mem _ List.mem_cons_self
        · rw [Int.max_eq_left (by omega)]
          exact List.mem_cons_self
      · exact List.mem_cons_of_mem _ (List.mem_cons_of_mem _ e)
    · rcases List.mem_cons.mp hy with e | hy
      · subst e
        omega
      · rcases List.mem_cons.mp hy with e | hy
        · subst e
          omega
        · exact h2 y (List.mem_cons_of_mem _ hy)
theorem b_maxT {K : PySem.W.Frag} {R : Dt → Prop} {ns : List Int} (hne : ns ≠ []) (r : ∀ m, m ∈ ns → (∀ y ∈ ns, y ≤ m) → R (.int m)) : CbD K (rMaxT K) [.dat (.tuple (ns.map .int))] R := fun ω G H vs Q k h q => by
  obtain ⟨v, rfl, rv⟩ := rel1 h
  obtain ⟨a, xs, rfl, hs, ra⟩ := rv.tuple_inv
  cases ns with
  | nil => exact absurd rfl hne
  | cons n ns =>
    rw [List.map_cons] at ra
    have lay : PyData.canLayAll0 (PyData.int n :: ns.map .int) = true := lay_ints (n :: ns)
    have dep : PyData.depthAll (PyData.int n :: ns.map .int) ≤ 60 := by
      have : PyData.depthAll (PyData.int n :: ns.map .int) = 0 := depth_ints (n :: ns)
      omega
    have ali : PySem.W.AlikeAll (PyData.int n :: ns.map .int) := by
      have all : ∀ d ∈ PyData.int n :: ns.map .int, ∃ i : Int, d = .int i := fun d hd => by
        rcases List.mem_cons.mp hd with e | hd
        · exact ⟨n, e⟩
        · obtain ⟨i, _, e⟩ := List.mem_map.mp hd
          exact ⟨i, e.symm⟩
      refine ⟨fun a ha b hb => ?_, fun a ha => ?_⟩
      · obtain ⟨i, rfl⟩ := all a ha
        obtain ⟨j, rfl⟩ := all b hb
        simp [PySem.W.alike]
      · obtain ⟨i, rfl⟩ := all a ha
        exact fun e => by cases e
    refine ⟨a, xs, _, _, rfl, same_t k.1 hs, (ra.mono k.1).dp lay, ⟨lay, ali, dep⟩, fun i x hx hi => ?_⟩
    obtain ⟨c, hc, rx⟩ := ra.get hx
    rw [hi] at hc
    cases hc
    rw [PySem.W.maxD_ints] at rx
    obtain ⟨h1, h2⟩ := fold_max ns n
    exact q _ _ G H (Same.refl G) k rx (r _ h1 h2)
section
variable {K : PySem.W.Frag} {δ : Nm} {ts : TS} {nx bk ct : Nm → Prop} {rt : Dt → Prop}
/-- y = x[k], x an own list -/
theorem ws_asgO {i j : Nat} {k : Int} {ds : List Dt} {d : Dt} (hi : δ[i]? = some (.own (.list ds))) (hd : atI ds k = some d) (h : nx (δ.set j (.dat d))) : WS K (tAsg (tOp (rIxK K) (tVar i) (tC (.int k))) (gName j)) δ nx rt bk ct := fun ω σ G H D s n r b c => by
  obtain ⟨p, vs, h1, h2, h3, h4, h5⟩ := s.lst hi
  obtain ⟨v, ev, rv⟩ : ∃ v, atI vs k = some v ∧ Rp K G v d := by
    unfold atI at hd ⊢
    rw [h3.len]
    cases hx : ixN ds.length k with
    | none => rw [hx] at hd; cases hd
    | some m =>
      rw [hx] at hd
      have hd' : ds[m]? = some d := hd
      obtain ⟨v, hv, rv⟩ := h3.at hd'
      exact ⟨v, hv, rv⟩
  exact ⟨.ref p, h1, .inl ⟨p, vs, k, v, rfl, rfl, .inl (.inl h2), ev, n _ _ G H (Same.refl G) (s.set rv) h⟩⟩
end
theorem Tidy.shaped {d : Dt} {p w : Nat} (h : Tidy d p w) (hp : p ≤ 64) : SeqAt.shaped d = true := by
  unfold SeqAt.shaped
  rw [h.lay, decide_eq_true (Nat.le_trans h.dep hp)]
  rfl
theorem beat_tidy {p : Pt} (b : Beat p.1 p.2) : Tidy (patP p) 2 2600 := tidy_pat (by have := b.n0; omega) b.n1 (fun s hs => by have := b.inn s hs; have := b.n1; omega) (by have := b.few; have := b.n1; omega)
theorem pats_tidy {ps : List Pt} (h : ∀ p ∈ ps, Beat p.1 p.2) : TidyAll (ps.map patP) 2 (ps.length * 2601) := by
  have := tidyAll_of (p := 2) (w := 2600) (ds := ps.map patP) fun d hd => by
    obtain ⟨p, hp, rfl⟩ := List.mem_map.mp hd
    exact beat_tidy (h p hp)
  rw [List.length_map] at this
  exact this
theorem spanF_le : ∀ (qs : List Pt) (s : Nat), (∀ p ∈ qs, 0 < p.1 ∧ p.1 ≤ 60) → spanF s qs ≤ s * 60 ^ qs.length
  | [], s, _ => by show s ≤ s * 1; omega
  | q :: qs, s, h => by
    have a := spanF_le qs (Nat.lcm s q.1.natAbs) fun p hp => h p (List.mem_cons_of_mem _ hp)
    have b := lcm_le s q.1.natAbs
    have c := h q List.mem_cons_self
    have d : s * q.1.natAbs ≤ s * 60 := Nat.mul_le_mul_left _ (by omega)
    refine Nat.le_trans a (Nat.le_trans (Nat.mul_le_mul_right _ (Nat.le_trans b d)) ?_)
    rw [List.length_cons, Nat.pow_succ, Nat.mul_assoc, Nat.mul_comm 60]
    exact Nat.le_refl _
theorem span_le {ps : List Pt} (hc : Crowd ps) : spanN ps ≤ 12960000 := by
  have h := spanF_le ps 1 (crowd_60 hc)
  have l := hc.l1
  have : 60 ^ ps.length ≤ 60 ^ 4 := Nat.pow_le_pow_right (by decide) l
  have e : (60 : Nat) ^ 4 = 12960000 := by decide
  unfold spanN
  omega
theorem whole_two {p q : Pt} (hp : 0 < p.1) (hq : 0 < q.1) : Whole [p, q] ((Nat.lcm p.1.natAbs q.1.natAbs : Nat) : Int) := by
  have h := span_whole [p, q] fun r hr => by
    rcases List.mem_cons.mp hr with z | z
    · rw [z]
      exact hp
    · rw [List.mem_singleton.mp z]
      exact hq
  have e : spanN [p, q] = Nat.lcm p.1.natAbs q.1.natAbs := by
    show Nat.lcm (Nat.lcm 1 p.1.natAbs) q.1.natAbs = _
    rw [Nat.lcm_one_left]
  rw [e] at h
  exact h
/-! ### the sure bound -/
def lcmP (p q : Pt) : Int := ((Nat.lcm p.1.natAbs q.1.natAbs : Nat) : Int)
def sureF (ps : List Pt) (p : Pt) (w : Nat) (S : Int) : Nat → Int
  | 0 => (p.2.length : Int) * (S / p.1)
  | i + 1 => match ps[i]? with
    | some q => if i = w then sureF ps p w S i else sureF ps p w S i - mostP p q * (S / lcmP p q)
    | none => sureF ps p w S i
def sureI (ps : List Pt) (w : Nat) : Int := match ps[w]? with
  | some p => sureF ps p w (spanN ps : Nat) ps.length
  | none => 0
theorem lcmP_bounds {p q : Pt} (hp : Beat p.1 p.2) (hq : Beat q.1 q.2) : 0 < lcmP p q ∧ lcmP p q ≤ 3600 := by
  have a := hp.n0
  have b := hp.n1
  have c := hq.n0
  have d := hq.n1
  unfold lcmP
  have e := Nat.lcm_pos (m := p.1.natAbs) (n := q.1.natAbs) (by omega) (by omega)
  have f := lcm_le p.1.natAbs q.1.natAbs
  have g : p.1.natAbs * q.1.natAbs ≤ 60 * 60 := Nat.mul_le_mul (by omega) (by omega)
  omega
theorem sureF_bounds {ps : List Pt} {p : Pt} {w : Nat} {S : Int} (hp : Beat p.1 p.2) (hb : ∀ q ∈ ps, Beat q.1 q.2) (s0 : 0 ≤ S) (s1 : S ≤ 12960000) : ∀ i : Nat, sureF ps p w S i ≤ 777600000 ∧ -((i : Int) * 46656000000) ≤ sureF ps p w S i
  | 0 => by
    have a := hp.few
    have b := hp.n1
    have c := hp.n0
    have d := Int.ediv_nonneg s0 (show 0 ≤ p.1 by omega)
    have e := Int.ediv_le_self p.1 s0
    have f : (p.2.length : Int) * (S / p.1) ≤ 60 * 12960000 := Int.mul_le_mul (by omega) (by omega) d (by omega)
    have g : 0 ≤ (p.2.length : Int) * (S / p.1) := Int.mul_nonneg (by omega) d
    show (p.2.length : Int) * (S / p.1) ≤ _ ∧ -(((0 : Nat) : Int) * 46656000000) ≤ (p.2.length : Int) * (S / p.1)
    omega
  | i + 1 => by
    obtain ⟨h1, h2⟩ := sureF_bounds (w := w) hp hb s0 s1 i
    have e : (((i + 1 : Nat) : Int)) * 46656000000 = (i : Int) * 46656000000 + 46656000000 := by omega
    unfold sureF
    cases hq : ps[i]? with
    | none =>
      dsimp only
      omega
    | some q =>
      dsimp only
      have bq := hb q (List.mem_of_getElem? hq)
      split
      · omega
      · obtain ⟨m0, m1⟩ := most_bound hp bq
        obtain ⟨l0, l1⟩ := lcmP_bounds hp bq
        have d := Int.ediv_nonneg s0 (show 0 ≤ lcmP p q by omega)
        have e2 := Int.ediv_le_self (lcmP p q) s0
        have f : mostP p q * (S / lcmP p q) ≤ 3600 * 12960000 := Int.mul_le_mul m1 (by omega) d (by omega)
        have g : 0 ≤ mostP p q * (S / lcmP p q) := Int.mul_nonneg m0 d
        omega
theorem sure_tidy {ps : List Pt} (hc : Crowd ps) {w : Nat} : Shows (.int (sureI ps w)) := by
  refine Tidy.shows (tidy_int ?_) (Nat.zero_le _) (by decide)
  unfold sureI
  cases hp : ps[w]? with
  | none => exact (by decide : (0 : Int).natAbs < 1000000000000)
  | some p =>
    dsimp only
    have l := hc.l1
    have := sureF_bounds (w := w) (S := (spanN ps : Nat)) (hc.all p (List.mem_of_getElem? hp)) hc.all (by omega) (by have := span_le hc; omega) ps.length
    omega
end DW
namespace DW
open PySem PySem.Spec PyProof.Rows L2
variable [Tabl]
/-! ### counts over a span: begun later, put in classes, even groups -/
/-- counting over a period, begun anywhere -/
theorem upI_cons (a : Int) (n : Nat) : upI a (n + 1) = a :: upI (a + 1) n := by
  unfold upI
  rw [List.range_succ_eq_map, List.map_cons, List.map_map]
  congr 1
  · show a + ((0 : Nat) : Int) = a
    omega
  · apply List.map_congr_left
    intro i _
    show a + ((i + 1 : Nat) : Int) = a + 1 + (i : Int)
    omega
theorem upI_snoc (a : Int) (n : Nat) : upI a (n + 1) = upI a n ++ [a + (n : Int)] := by
  unfold upI
  rw [List.range_succ, List.map_append]
  rfl
theorem count_step {f : Int → Bool} {n : Nat} (hf : ∀ t, f (t + (n : Int)) = f t) (a : Int) : (upI (a + 1) n).countP f = (upI a n).countP f := by
  cases n with
  | zero => rfl
  | succ m =>
    rw [upI_snoc, upI_cons, List.countP_append, List.countP_cons, List.countP_cons, List.countP_nil]
    have e : a + 1 + (m : Int) = a + ((m + 1 : Nat) : Int) := by omega
    rw [e, hf]
    omega
theorem count_shift {f : Int → Bool} {n : Nat} (hf : ∀ t, f (t + (n : Int)) = f t) (a : Int) : (upI a n).countP f = (upI 0 n).countP f := by
  have up : ∀ k : Nat, (upI (k : Int) n).countP f = (upI 0 n).countP f := fun k => by
    induction k with
    | zero => rfl
    | succ k ih =>
      rw [← ih, ← count_step hf (k : Int)]
      rfl
  have dn : ∀ k : Nat, (upI (-(k : Int)) n).countP f = (upI 0 n).countP f := fun k => by
    induction k with
    | zero => rfl
    | succ k ih =>
      rw [← ih, ← count_step hf (-((k + 1 : Nat) : Int))]
      congr 2
      omega
  rcases Int.lt_or_le a 0 with h | h
  · have := dn a.natAbs
    rw [show -((a.natAbs : Nat) : Int) = a by omega] at this
    exact this
  · have := up a.natAbs
    rw [show ((a.natAbs : Nat) : Int) = a by omega] at this
    exact this
theorem upI_map_add (a s : Int) (n : Nat) : (upI a n).map (fun t => t - s) = upI (a - s) n := by
  unfold upI
  rw [List.map_map]
  apply List.map_congr_left
  intro i _
  show a + (i : Int) - s = a - s + (i : Int)
  omega
/-- the same, the ticks told later -/
theorem count_later {f : Int → Bool} {n : Nat} (hf : ∀ t, f (t + (n : Int)) = f t) (s : Int) : (upI 0 n).countP (fun t => f (t - s)) = (upI 0 n).countP f := by
  have : (upI 0 n).countP (fun t => f (t - s)) = ((upI 0 n).map (fun t => t - s)).countP f := by
    rw [List.countP_map]
    rfl
  rw [this, upI_map_add, count_shift hf]

/-! who sends -/
theorem snd_put {p : Pt} {o s t : Int} : sndB p ((o + s) % p.1) t = sndB p o (t - s) := by
  unfold sndB
  congr 1
  have e : (t - (o + s) % p.1) % p.1 = (t - s - o) % p.1 := by
    rw [Int.sub_emod, Int.emod_emod_of_dvd _ (Int.dvd_refl p.1), ← Int.sub_emod]
    congr 1
    omega
  rw [e]
theorem snd_per {p : Pt} {o t W : Int} (h : p.1 ∣ W) : sndB p o (t + W) = sndB p o t := by
  unfold sndB
  obtain ⟨k, rfl⟩ := h
  have e : (t + p.1 * k - o) % p.1 = (t - o) % p.1 := by
    rw [show t + p.1 * k - o = t - o + p.1 * k by omega, Int.add_mul_emod_self_left]
  rw [e]
theorem voices_put : ∀ {ps : List Pt} {os : List Int} (k s t : Int), voicesF k ps (putL ps os s) t = voicesF k ps os (t - s)
  | [], [], _, _, _ => rfl
  | [], _ :: _, _, _, _ => rfl
  | _ :: _, [], _, _, _ => rfl
  | p :: ps, o :: os, k, s, t => by
    have ih := voices_put (ps := ps) (os := os) (k + 1) s t
    have e : putL (p :: ps) (o :: os) s = (o + s) % p.1 :: putL ps os s := rfl
    rw [e]
    unfold voicesF
    rw [snd_put, ih]
theorem voices_per {W : Int} : ∀ {ps : List Pt} {os : List Int} (k t : Int), (∀ p ∈ ps, p.1 ∣ W) → voicesF k ps os (t + W) = voicesF k ps os t
  | [], _, _, _, _ => rfl
  | _ :: _, [], _, _, _ => rfl
  | p :: ps, o :: os, k, t, h => by
    have ih := voices_per (ps := ps) (os := os) (k + 1) t fun q hq => h q (List.mem_cons_of_mem _ hq)
    unfold voicesF
    rw [snd_per (h p List.mem_cons_self), ih]
theorem heard_put (ps : List Pt) (os : List Int) (s t : Int) : heardI ps (putL ps os s) t = heardI ps os (t - s) := by
  unfold heardI voicesL
  rw [voices_put]
theorem heard_per {ps : List Pt} {os : List Int} {W : Int} (h : ∀ p ∈ ps, p.1 ∣ W) (t : Int) : heardI ps os (t + W) = heardI ps os t := by
  unfold heardI voicesL
  rw [voices_per _ _ h]
theorem kindN_eq (ps : List Pt) (k : Int) (os : List Int) : kindN ps k os = (upI 0 (spanN ps)).countP fun t => decide (heardI ps os t = k) := by
  unfold kindN lineL List.count
  rw [List.countP_map]
  apply List.countP_congr
  intro t _
  show (heardI ps os t == k) = true ↔ _
  rw [beq_iff_eq, decide_eq_true_iff]
/-- offsets some ticks later have the same counts -/
theorem kind_put {ps : List Pt} (hp : ∀ p ∈ ps, 0 < p.1) (os : List Int) (s k : Int) : kindN ps k (putL ps os s) = kindN ps k os := by
  have hW := span_whole ps hp
  rw [kindN_eq, kindN_eq]
  have := count_later (f := fun t => decide (heardI ps os t = k)) (n := spanN ps) (fun t => by rw [heard_per hW.dvd]) s
  rw [← this]
  apply List.countP_congr
  intro t _
  rw [heard_put]

/-! the classes: each offsets lead to one -/
theorem putL_len {ps : List Pt} {os : List Int} (t : Int) (h : os.length = ps.length) : (putL ps os t).length = ps.length := by
  unfold putL
  rw [List.length_map, List.length_zip, h]
  omega
theorem putL_add {W : Int} : ∀ {ps : List Pt} {os : List Int} (t j : Int), (∀ p ∈ ps, p.1 ∣ W) → putL ps os (t + W * j) = putL ps os t
  | [], [], _, _, _ => rfl
  | [], _ :: _, _, _, _ => rfl
  | _ :: _, [], _, _, _ => rfl
  | p :: ps, o :: os, t, j, h => by
    have ih := putL_add (ps := ps) (os := os) t j fun q hq => h q (List.mem_cons_of_mem _ hq)
    obtain ⟨k, hk⟩ := h p List.mem_cons_self
    show (o + (t + W * j)) % p.1 :: putL ps os (t + W * j) = (o + t) % p.1 :: putL ps os t
    rw [ih, hk, show o + (t + p.1 * k * j) = o + t + p.1 * (k * j) by rw [Int.mul_assoc]; omega, Int.add_mul_emod_self_left]
theorem putL_snoc {ps : List Pt} {os : List Int} {p : Pt} {o : Int} (t : Int) (h : os.length = ps.length) : putL (ps ++ [p]) (os ++ [o]) t = putL ps os t ++ [(o + t) % p.1] := by
  unfold putL
  rw [List.zip_append h, List.map_append]
  rfl
theorem class_ex {ps : List Pt} {os : List Int} (hp : ∀ p ∈ ps, 0 < p.1) (hl : os.length = ps.length) : ∃ t, putL ps os t ∈ classL ps := by
  have key : ∀ i, i ≤ ps.length → ∃ t, Box (putL (ps.take i) (os.take i) t) (sizesL (ps.take i)) := by
    intro i
    induction i with
    | zero => exact fun _ => ⟨0, trivial⟩
    | succ i ih =>
      intro hi
      obtain ⟨t, ht⟩ := ih (by omega)
      have h1 : ps[i]? = some ps[i] := List.getElem?_eq_getElem (by omega)
      have h2 : os[i]? = some os[i] := List.getElem?_eq_getElem (by omega)
      generalize ps[i] = p at h1
      generalize os[i] = o at h2
      have p0 := hp p (List.mem_of_getElem? h1)
      have hW := span_whole (ps.take i) fun q hq => hp q (List.mem_of_mem_take hq)
      have w0 := hW.pos
      have g0 := Nat.gcd_pos_of_pos_right (spanN (ps.take i)) (show 0 < p.1.natAbs by omega)
      have g1 := Nat.gcd_le_right (spanN (ps.take i)) (show 0 < p.1.natAbs by omega)
      have r0 := Int.emod_nonneg (o + t) (show ((Nat.gcd (spanN (ps.take i)) p.1.natAbs : Nat) : Int) ≠ 0 by omega)
      have r1 := Int.emod_lt_of_pos (o + t) (show 0 < ((Nat.gcd (spanN (ps.take i)) p.1.natAbs : Nat) : Int) by omega)
      obtain ⟨j, _, hj⟩ := reach (l := t) (s := (spanN (ps.take i) : Nat)) (n := p.1) (o := o) (q := (o + t) % ((Nat.gcd (spanN (ps.take i)) p.1.natAbs : Nat) : Int)) (by omega) p0 (by
        rw [Int.natAbs_natCast, Int.emod_def]
        exact ⟨-((o + t) / ((Nat.gcd (spanN (ps.take i)) p.1.natAbs : Nat) : Int)), by rw [Int.mul_neg]; omega⟩)
      have l1 : (ps.take i).length = i := by rw [List.length_take]; omega
      have l2 : (os.take i).length = i := by rw [List.length_take]; omega
      refine ⟨t + ((spanN (ps.take i) : Nat) : Int) * (j : Int), ?_⟩
      rw [take_snoc h1, take_snoc h2, putL_snoc _ (by omega), putL_add _ _ hW.dvd]
      have e1 : sizesL (ps.take i ++ [p]) = sizesL (ps.take i) ++ [((Nat.gcd (spanN (ps.take i)) p.1.natAbs : Nat) : Int)] := sizesF_snoc p _ _
      rw [e1]
      refine (box_snoc ht.len).mpr ⟨ht, ?_⟩
      have e : (o + (t + ((spanN (ps.take i) : Nat) : Int) * (j : Int))) % p.1 = (o + t) % ((Nat.gcd (spanN (ps.take i)) p.1.natAbs : Nat) : Int) := by
        rw [Int.add_emod, hj, ← Int.add_emod, show o + ((o + t) % ((Nat.gcd (spanN (ps.take i)) p.1.natAbs : Nat) : Int) - o) = (o + t) % ((Nat.gcd (spanN (ps.take i)) p.1.natAbs : Nat) : Int) by omega]
        exact Int.emod_eq_of_lt r0 (by omega)
      rw [e]
      exact ⟨r0, r1⟩
  obtain ⟨t, ht⟩ := key ps.length (Nat.le_refl _)
  rw [List.take_length, List.take_of_length_le (by omega)] at ht
  exact ⟨t, mem_below.mpr ht⟩
/-- each offsets have the counts of one of the classes -/
theorem class_counts {ps : List Pt} {os : List Int} (hp : ∀ p ∈ ps, 0 < p.1) (hl : os.length = ps.length) : ∃ qs ∈ classL ps, ∀ k, kindN ps k qs = kindN ps k os := by
  obtain ⟨t, ht⟩ := class_ex hp hl
  exact ⟨_, ht, fun k => kind_put hp os t k⟩

/-! even groups -/
/-- nobody of these sends -/
def quietZ (zs : List (Int × Pt)) (t : Int) : Bool := zs.all fun z => !sndB z.2 z.1 t
theorem voices_quiet : ∀ {ps : List Pt} {os : List Int} (k t : Int), os.length = ps.length → (voicesF k ps os t = [] ↔ quietZ (os.zip ps) t = true)
  | [], [], _, _, _ => ⟨fun _ => rfl, fun _ => rfl⟩
  | [], _ :: _, _, _, h => nomatch h
  | _ :: _, [], _, _, h => nomatch h
  | p :: ps, o :: os, k, t, h => by
    have ih := voices_quiet (ps := ps) (os := os) (k + 1) t (Nat.succ.inj h)
    have e : quietZ ((o, p) :: os.zip ps) t = (!sndB p o t && quietZ (os.zip ps) t) := rfl
    rw [List.zip_cons_cons, e]
    unfold voicesF
    cases sndB p o t with
    | true => simp
    | false =>
      rw [if_neg Bool.false_ne_true, ih]
      rfl
theorem kind_none {v : List Int} (h : ∀ x ∈ v, 0 ≤ x) : kindI v = -1 ↔ v = [] := by
  match v, h with
  | [], _ => exact ⟨fun _ => rfl, fun _ => rfl⟩
  | [x], h =>
    have := h x List.mem_cons_self
    exact ⟨fun e => by have e : x = -1 := e; omega, fun e => nomatch e⟩
  | _ :: _ :: _, _ => exact ⟨fun e => by have e : (-2 : Int) = -1 := e; omega, fun e => nomatch e⟩
theorem quiet_count {ps : List Pt} {os : List Int} (hl : os.length = ps.length) : kindN ps (-1) os = (upI 0 (spanN ps)).countP (quietZ (os.zip ps)) := by
  rw [kindN_eq]
  apply List.countP_congr
  intro t _
  rw [decide_eq_true_iff]
  unfold heardI
  rw [kind_none fun x hx => by have := voicesF_bounds hx; omega]
  exact voices_quiet 0 t hl
/-- a sender gets through: it sends, the others don't -/
theorem voices_one : ∀ {ps : List Pt} {os : List Int} (k t : Int) (w : Nat), os.length = ps.length → w < ps.length → (voicesF k ps os t = [k + (w : Int)] ↔ quietZ ((os.zip ps).eraseIdx w) t = true ∧ ¬ quietZ (os.zip ps) t = true)
  | [], _, _, _, _, _, h => absurd h (Nat.not_lt_zero _)
  | _ :: _, [], _, _, _, h, _ => nomatch h
  | p :: ps, o :: os, k, t, 0, h, _ => by
    have vq := voices_quiet (ps := ps) (os := os) (k + 1) t (Nat.succ.inj h)
    have e : quietZ ((o, p) :: os.zip ps) t = (!sndB p o t && quietZ (os.zip ps) t) := rfl
    rw [List.zip_cons_cons, List.eraseIdx_cons_zero, e]
    unfold voicesF
    have e0 : k + ((0 : Nat) : Int) = k := by omega
    rw [e0]
    cases sndB p o t with
    | true =>
      rw [if_pos rfl, ← vq]
      simp
    | false =>
      rw [if_neg Bool.false_ne_true]
      constructor
      · intro z
        have : k ∈ voicesF (k + 1) ps os t := by rw [z]; exact List.mem_cons_self
        have := voicesF_bounds this
        omega
      · rintro ⟨z1, z2⟩
        rw [z1] at z2
        exact absurd rfl z2
  | p :: ps, o :: os, k, t, w + 1, h, hw => by
    have ih := voices_one (ps := ps) (os := os) (k + 1) t w (Nat.succ.inj h) (Nat.lt_of_succ_lt_succ hw)
    have e : quietZ ((o, p) :: os.zip ps) t = (!sndB p o t && quietZ (os.zip ps) t) := rfl
    have e2 : quietZ ((o, p) :: (os.zip ps).eraseIdx w) t = (!sndB p o t && quietZ ((os.zip ps).eraseIdx w) t) := rfl
    rw [List.zip_cons_cons, List.eraseIdx_cons_succ, e, e2]
    unfold voicesF
    have e0 : k + ((w + 1 : Nat) : Int) = k + 1 + (w : Int) := by omega
    rw [e0]
    cases sndB p o t with
    | true =>
      rw [if_pos rfl]
      constructor
      · intro z
        injection z with z1 z2
        omega
      · rintro ⟨z1, _⟩
        cases z1
    | false =>
      rw [if_neg Bool.false_ne_true, ih]
      rfl
theorem kind_one {v : List Int} {w : Int} (h : ∀ x ∈ v, 0 ≤ x) (hw : 0 ≤ w) : kindI v = w ↔ v = [w] := by
  match v, h with
  | [], _ => exact ⟨fun e => by have e : (-1 : Int) = w := e; omega, fun e => nomatch e⟩
  | [x], h => exact ⟨fun e => by have e : x = w := e; rw [e], fun e => by injection e⟩
  | _ :: _ :: _, _ => exact ⟨fun e => by have e : (-2 : Int) = w := e; omega, fun e => by injection e with _ e; cases e⟩
theorem erase_quiet {zs : List (Int × Pt)} {t : Int} (w : Nat) (h : quietZ zs t = true) : quietZ (zs.eraseIdx w) t = true := by
  unfold quietZ at h ⊢
  rw [List.all_eq_true] at h ⊢
  exact fun z hz => h z (List.mem_of_mem_eraseIdx hz)
theorem count_diff {α : Type} (T : List α) (p q : α → Bool) (h : ∀ t, q t = true → p t = true) : T.countP (fun t => p t && !q t) + T.countP q = T.countP p := by
  induction T with
  | nil => rfl
  | cons t T ih =>
    rw [List.countP_cons, List.countP_cons, List.countP_cons, ← ih]
    cases hq : q t with
    | true =>
      rw [h t hq]
      simp
      omega
    | false =>
      cases p t <;> simp
      omega
theorem through_count {ps : List Pt} {os : List Int} (hl : os.length = ps.length) {w : Nat} (hw : w < ps.length) : kindN ps (w : Int) os + kindN ps (-1) os = (upI 0 (spanN ps)).countP (quietZ ((os.zip ps).eraseIdx w)) := by
  rw [quiet_count hl, ← count_diff (upI 0 (spanN ps)) (quietZ ((os.zip ps).eraseIdx w)) (quietZ (os.zip ps)) fun t h => erase_quiet w h, kindN_eq]
  congr 1
  apply List.countP_congr
  intro t _
  rw [decide_eq_true_iff]
  unfold heardI
  rw [kind_one (fun x hx => by have := voicesF_bounds hx; omega) (by omega)]
  have := voices_one (ps := ps) (os := os) 0 t w hl hw
  rw [Int.zero_add] at this
  unfold voicesL
  rw [this, Bool.and_eq_true, Bool.not_eq_true', Bool.not_eq_true]
/-- adding up over the offsets of one sender -/
theorem sum_swap {α β : Type} (f : α → β → Bool) (L : List α) : ∀ T : List β, (L.map fun o => T.countP (f o)).sum = (T.map fun t => L.countP fun o => f o t).sum
  | [] => by
    induction L with
    | nil => rfl
    | cons o L ih =>
      rw [List.map_cons, List.sum_cons, ih]
      rfl
  | t :: T => by
    rw [List.map_cons, List.sum_cons, ← sum_swap f L T]
    induction L with
    | nil => rfl
    | cons o L ih =>
      rw [List.map_cons, List.sum_cons, List.map_cons, List.sum_cons, List.countP_cons, List.countP_cons, ih]
      omega
theorem offs_sending {p : Pt} (b : Beat p.1 p.2) (t : Int) : (upI 0 p.1.toNat).countP (fun o => sndB p o t) = p.2.length := by
  have n0 := b.n0
  have ck := count_keys (upI 0 p.1.toNat) (fun o => (t - o) % p.1) (asc_nodup b.asc)
  have e : (upI 0 p.1.toNat).countP (fun o => sndB p o t) = (upI 0 p.1.toNat).countP fun o => p.2.any fun s => decide ((t - o) % p.1 = s) := by
    apply List.countP_congr
    intro o _
    unfold sndB
    rw [decide_eq_true_iff, List.any_eq_true]
    constructor
    · exact fun h => ⟨_, h, decide_eq_true rfl⟩
    · rintro ⟨s, hs, h⟩
      rw [of_decide_eq_true h]
      exact hs
  rw [e, ck, sum_ind (fun _ => true) _ p.2 fun s hs => ?_, List.countP_true]
  rw [if_pos rfl]
  have bs := b.inn s hs
  have h0 := Int.emod_nonneg (t - s) (show p.1 ≠ 0 by omega)
  have h1 := Int.emod_lt_of_pos (t - s) (show 0 < p.1 by omega)
  have back : ∀ o, 0 ≤ o → o < p.1 → ((t - o) % p.1 = s ↔ o = (t - s) % p.1) := fun o o0 o1 => by
    constructor
    · intro h
      rw [← h, Int.sub_emod, Int.emod_emod_of_dvd _ (Int.dvd_refl p.1), ← Int.sub_emod, show t - (t - o) = o by omega]
      exact (Int.emod_eq_of_lt o0 o1).symm
    · intro h
      rw [h, Int.sub_emod, Int.emod_emod_of_dvd _ (Int.dvd_refl p.1), ← Int.sub_emod, show t - (t - s) = s by omega]
      exact Int.emod_eq_of_lt bs.1 bs.2
  refine count_one (t0 := (t - s) % p.1) (asc_nodup (upI_asc _ _)) (mem_upI.mpr ⟨h0, by omega⟩) fun o ho => ?_
  obtain ⟨o0, o1⟩ := mem_upI.mp ho
  rw [decide_eq_true_iff]
  exact back o o0 (by omega)
theorem quiet_set {ps : List Pt} {os : List Int} {w : Nat} {p : Pt} (hl : os.length = ps.length) (hp : ps[w]? = some p) (o t : Int) : quietZ ((os.set w o).zip ps) t = (quietZ ((os.zip ps).eraseIdx w) t && !sndB p o t) := by
  induction ps generalizing os w with
  | nil => simp at hp
  | cons q ps ih =>
    cases os with
    | nil => cases hl
    | cons r os =>
      cases w with
      | zero =>
        rw [List.getElem?_cons_zero] at hp
        cases hp
        show (!sndB p o t && quietZ (os.zip ps) t) = (quietZ (os.zip ps) t && !sndB p o t)
        rw [Bool.and_comm]
      | succ w =>
        rw [List.getElem?_cons_succ] at hp
        have := ih (Nat.succ.inj hl) hp
        show (!sndB q r t && quietZ ((os.set w o).zip ps) t) = ((!sndB q r t && quietZ ((os.zip ps).eraseIdx w) t) && !sndB p o t)
        rw [this, Bool.and_assoc]
theorem sum_const {α : Type} (f : α → Nat) (c : Nat) : ∀ L : List α, (∀ x ∈ L, f x = c) → (L.map f).sum = L.length * c
  | [], _ => by simp
  | x :: L, h => by
    rw [List.map_cons, List.sum_cons, sum_const f c L fun y hy => h y (List.mem_cons_of_mem _ hy), h x List.mem_cons_self, List.length_cons, Nat.succ_mul]
    omega
theorem sum_sel {α : Type} (p : α → Bool) (c : Nat) : ∀ T : List α, (T.map fun t => if p t = true then c else 0).sum = T.countP p * c
  | [] => by simp
  | t :: T => by
    rw [List.map_cons, List.sum_cons, sum_sel p c T, List.countP_cons]
    cases p t with
    | true =>
      rw [if_pos rfl, if_pos rfl, Nat.add_mul]
      omega
    | false =>
      rw [if_neg Bool.false_ne_true, if_neg Bool.false_ne_true, Nat.zero_add, Nat.add_zero]
/-- the quiet ticks for all offsets of one sender, together -/
theorem quiet_sum {ps : List Pt} {os : List Int} {w : Nat} {p : Pt} (hl : os.length = ps.length) (hp : ps[w]? = some p) (b : Beat p.1 p.2) :
    ((upI 0 p.1.toNat).map fun o => kindN ps (-1) (os.set w o)).sum = (upI 0 (spanN ps)).countP (quietZ ((os.zip ps).eraseIdx w)) * (p.1.toNat - p.2.length) := by
  have e : ∀ o, kindN ps (-1) (os.set w o) = (upI 0 (spanN ps)).countP fun t => quietZ ((os.zip ps).eraseIdx w) t && !sndB p o t := fun o => by
    rw [quiet_count (by rw [List.length_set]; exact hl)]
    apply List.countP_congr
    intro t _
    rw [quiet_set hl hp]
  have e1 : ((upI 0 p.1.toNat).map fun o => kindN ps (-1) (os.set w o)) = (upI 0 p.1.toNat).map fun o => (upI 0 (spanN ps)).countP fun t => quietZ ((os.zip ps).eraseIdx w) t && !sndB p o t := List.map_congr_left fun o _ => e o
  rw [e1, sum_swap (fun o t => quietZ ((os.zip ps).eraseIdx w) t && !sndB p o t), ← sum_sel]
  congr 1
  apply List.map_congr_left
  intro t _
  cases hq : quietZ ((os.zip ps).eraseIdx w) t with
  | false =>
    rw [if_neg Bool.false_ne_true, List.countP_eq_zero]
    simp
  | true =>
    rw [if_pos rfl]
    have a := offs_sending b t
    have c := List.length_eq_countP_add_countP (p := fun o => sndB p o t) (l := upI 0 p.1.toNat)
    rw [upI_len, a] at c
    have d : (upI 0 p.1.toNat).countP (fun o => true && !sndB p o t) = (upI 0 p.1.toNat).countP (fun o => !sndB p o t) := by
      apply List.countP_congr
      intro o _
      rw [Bool.true_and]
    rw [d]
    have e2 : (upI 0 p.1.toNat).countP (fun o => !sndB p o t) = (upI 0 p.1.toNat).countP (fun a => decide (¬ (sndB p a t = true))) := by
      apply List.countP_congr
      intro o _
      cases sndB p o t <;> simp
    rw [e2]
    omega
/-- all counts of a span together -/
theorem kinds_sum (ps : List Pt) (os : List Int) : kindN ps (-2) os + (kindN ps (-1) os + ((upI 0 ps.length).map fun w => kindN ps w os).sum) = spanN ps := by
  have nd : ((-2 : Int) :: (-1 : Int) :: upI 0 ps.length).Nodup := by
    rw [List.nodup_cons, List.nodup_cons]
    refine ⟨fun h => ?_, fun h => ?_, asc_nodup (upI_asc _ _)⟩
    · rcases List.mem_cons.mp h with e | h
      · omega
      · have := mem_upI.mp h
        omega
    · have := mem_upI.mp h
      omega
  have ck := count_keys (upI 0 (spanN ps)) (heardI ps os) nd
  have all : (upI 0 (spanN ps)).countP (fun t => ((-2 : Int) :: (-1 : Int) :: upI 0 ps.length).any fun q => decide (heardI ps os t = q)) = spanN ps := by
    rw [List.countP_eq_length.mpr fun t _ => ?_, upI_len]
    rw [List.any_eq_true]
    have hb := heard_bounds ps os t
    refine ⟨heardI ps os t, ?_, decide_eq_true rfl⟩
    by_cases c1 : heardI ps os t = -2
    · rw [c1]
      exact List.mem_cons_self
    · by_cases c2 : heardI ps os t = -1
      · rw [c2]
        exact List.mem_cons_of_mem _ List.mem_cons_self
      · exact List.mem_cons_of_mem _ (List.mem_cons_of_mem _ (mem_upI.mpr ⟨by omega, by omega⟩))
  rw [all, List.map_cons, List.sum_cons, List.map_cons, List.sum_cons] at ck
  rw [ck, kindN_eq, kindN_eq]
  congr 2
  congr 1
  apply List.map_congr_left
  intro w _
  rw [kindN_eq]
/-- a group is even if its quiet ticks are -/
def EvenQ (ps : List Pt) : Prop := ∀ os qs, Offs ps os → Offs ps qs → kindN ps (-1) os = kindN ps (-1) qs
theorem offs_set {ps : List Pt} {os : List Int} {w : Nat} {p : Pt} {o : Int} (h : Offs ps os) (hp : ps[w]? = some p) (h0 : 0 ≤ o) (h1 : o < p.1) : Offs ps (os.set w o) := by
  refine offs_of (by rw [List.length_set, h.len]) fun i q r hq hr => ?_
  by_cases e : w = i
  · subst e
    have hw := (List.getElem?_eq_some_iff.mp hp).1
    rw [List.getElem?_set_self (by rw [h.len]; exact hw)] at hr
    rw [hp] at hq
    cases hq
    cases hr
    exact ⟨h0, h1⟩
  · rw [List.getElem?_set_ne e] at hr
    obtain ⟨r', a, b⟩ := h.at hq
    rw [hr] at a
    cases a
    exact b
theorem even_all {ps : List Pt} (hc : Crowd ps) (he : EvenQ ps) : ∀ os qs, Offs ps os → Offs ps qs → ∀ k, -2 ≤ k → k < (ps.length : Int) → kindN ps k os = kindN ps k qs := by
  have one : ∀ os qs, Offs ps os → Offs ps qs → ∀ w, w < ps.length → kindN ps (w : Int) os = kindN ps (w : Int) qs := fun os qs ho hq w hw => by
    have hp : ps[w]? = some ps[w] := List.getElem?_eq_getElem hw
    generalize ps[w] = p at hp
    have b := hc.all p (List.mem_of_getElem? hp)
    have n0 := b.n0
    have few := b.few
    have s1 := quiet_sum ho.len hp b
    have s2 := quiet_sum hq.len hp b
    have c1 := sum_const (fun o => kindN ps (-1) (os.set w o)) (kindN ps (-1) os) (upI 0 p.1.toNat) fun o h => by
      obtain ⟨a, c⟩ := mem_upI.mp h
      exact he _ _ (offs_set ho hp a (by omega)) ho
    have c2 := sum_const (fun o => kindN ps (-1) (qs.set w o)) (kindN ps (-1) os) (upI 0 p.1.toNat) fun o h => by
      obtain ⟨a, c⟩ := mem_upI.mp h
      exact he _ _ (offs_set hq hp a (by omega)) ho
    have pos : 0 < p.1.toNat - p.2.length := by omega
    have e : (upI 0 (spanN ps)).countP (quietZ ((os.zip ps).eraseIdx w)) = (upI 0 (spanN ps)).countP (quietZ ((qs.zip ps).eraseIdx w)) := by
      apply Nat.eq_of_mul_eq_mul_right pos
      rw [← s1, ← s2, c1, c2]
    have t1 := through_count ho.len hw
    have t2 := through_count hq.len hw
    have q := he os qs ho hq
    omega
  intro os qs ho hq k k0 k1
  rcases Int.lt_or_le k 0 with h | h
  · by_cases c : k = -1
    · rw [c]
      exact he os qs ho hq
    · have e : k = -2 := by omega
      have a := kinds_sum ps os
      have b := kinds_sum ps qs
      have m : ((upI 0 ps.length).map fun w => kindN ps w os) = (upI 0 ps.length).map fun w => kindN ps w qs := List.map_congr_left fun w hw => by
        obtain ⟨w0, w1⟩ := mem_upI.mp hw
        have := one os qs ho hq w.toNat (by omega)
        rw [show ((w.toNat : Nat) : Int) = w by omega] at this
        exact this
      have q := he os qs ho hq
      rw [m] at a
      rw [e]
      omega
  · have := one os qs ho hq k.toNat (by omega)
    rw [show ((k.toNat : Nat) : Int) = k by omega] at this
    exact this
/-- .. and if the quiet ticks of its classes are -/
theorem even_classes {ps : List Pt} (hc : Crowd ps) (c : Nat) (h : ∀ os ∈ classL ps, kindN ps (-1) os = c) : EvenQ ps := fun os qs ho hq => by
  obtain ⟨a, ha, ea⟩ := class_counts (crowd_pos hc) ho.len
  obtain ⟨b, hb, eb⟩ := class_counts (crowd_pos hc) hq.len
  rw [← ea, ← eb, h a ha, h b hb]
theorem uneven_even {ps : List Pt} (hc : Crowd ps) : (classL ps).find? (fun os => decide (kindN ps (-1) os ≠ kindN ps (-1) ((classL ps).headD []))) = none ↔ EvenQ ps := by
  constructor
  · intro h
    refine even_classes hc (kindN ps (-1) ((classL ps).headD [])) fun os hos => ?_
    have := List.find?_eq_none.mp h os hos
    simpa using this
  · intro h
    rw [List.find?_eq_none]
    intro os hos
    have hd : (classL ps).headD [] ∈ classL ps := by
      cases hL : classL ps with
      | nil => exact absurd hL (class_ne ps hc)
      | cons z L => exact List.mem_cons_self
    have := h os _ (class_offs hc hos) (class_offs hc hd)
    simpa using this
end DW
namespace DW
open PySem PySem.Spec PyProof.Rows L2
variable [Tabl]
/-! ### how many classes; groups by digits are even -/
def prodQ (ps : List Pt) : Int := prodI (ps.map (·.1))
theorem prodQ_snoc (ps : List Pt) (p : Pt) : prodQ (ps ++ [p]) = prodQ ps * p.1 := by
  unfold prodQ
  rw [List.map_append]
  exact prodI_snoc _ _
theorem sizes_prod : ∀ (ps : List Pt) (s : Nat), (∀ p ∈ ps, 0 < p.1) → prodI (sizesF s ps) * ((spanF s ps : Nat) : Int) = (s : Int) * prodQ ps
  | [], s, _ => by
    show (1 : Int) * (s : Int) = (s : Int) * 1
    omega
  | p :: ps, s, h => by
    have ih := sizes_prod ps (Nat.lcm s p.1.natAbs) fun q hq => h q (List.mem_cons_of_mem _ hq)
    have p0 := h p List.mem_cons_self
    have g : ((Nat.gcd s p.1.natAbs : Nat) : Int) * ((Nat.lcm s p.1.natAbs : Nat) : Int) = (s : Int) * p.1 := by
      rw [← Int.natCast_mul, Nat.gcd_mul_lcm, Int.natCast_mul, Int.natAbs_of_nonneg (by omega)]
    show ((Nat.gcd s p.1.natAbs : Nat) : Int) * prodI (sizesF (Nat.lcm s p.1.natAbs) ps) * ((spanF (Nat.lcm s p.1.natAbs) ps : Nat) : Int) = (s : Int) * (p.1 * prodQ ps)
    rw [Int.mul_assoc, ih, ← Int.mul_assoc, g, Int.mul_assoc]
theorem class_number {ps : List Pt} (h : ∀ p ∈ ps, 0 < p.1) : prodI (sizesL ps) * ((spanN ps : Nat) : Int) = prodQ ps := by
  have := sizes_prod ps 1 h
  rw [show ((1 : Nat) : Int) * prodQ ps = prodQ ps by omega] at this
  exact this
theorem span_le_prod {ps : List Pt} (h : ∀ p ∈ ps, 0 < p.1) : 1 ≤ prodI (sizesL ps) ∧ ((spanN ps : Nat) : Int) ≤ prodQ ps ∧ prodI (sizesL ps) ≤ prodQ ps := by
  have e := class_number h
  have w := (span_whole ps h).pos
  have pos : ∀ (qs : List Pt) (s : Nat), (∀ p ∈ qs, 0 < p.1) → ∀ n ∈ sizesF s qs, 1 ≤ n := by
    intro qs
    induction qs with
    | nil => exact fun s _ n hn => by cases hn
    | cons q qs ih =>
      intro s hq n hn
      rcases List.mem_cons.mp hn with e | hn
      · have := hq q List.mem_cons_self
        have := Nat.gcd_pos_of_pos_right s (show 0 < q.1.natAbs by omega)
        omega
      · exact ih _ (fun p hp => hq p (List.mem_cons_of_mem _ hp)) n hn
  have s1 := prod_pos (ns := sizesL ps) (pos ps 1 h)
  refine ⟨s1, ?_, ?_⟩
  · have := Int.mul_le_mul_of_nonneg_right s1 (show 0 ≤ ((spanN ps : Nat) : Int) by omega)
    omega
  · have := Int.mul_le_mul_of_nonneg_left w (show 0 ≤ prodI (sizesL ps) by omega)
    omega

/-! digits -/
theorem upI_app (a : Int) (n m : Nat) : upI a (n + m) = upI a n ++ upI (a + (n : Int)) m := by
  induction m with
  | zero =>
    show _ = _ ++ []
    rw [List.append_nil]
    rfl
  | succ m ih =>
    rw [← Nat.add_assoc, upI_snoc, ih, upI_snoc, List.append_assoc]
    congr 3
    omega
theorem upI_shift (a b : Int) (n : Nat) : upI (a + b) n = (upI a n).map fun t => t + b := by
  unfold upI
  rw [List.map_map]
  apply List.map_congr_left
  intro i _
  show a + b + (i : Int) = a + (i : Int) + b
  omega
theorem count_blocks (f : Int → Bool) (A : Nat) : ∀ b : Nat, (upI 0 (A * b)).countP f = ((upI 0 b).map fun j => (upI 0 A).countP fun t => f (t + (A : Int) * j)).sum
  | 0 => rfl
  | b + 1 => by
    rw [Nat.mul_succ, upI_app, List.countP_append, count_blocks f A b, upI_snoc, List.map_append, List.sum_append]
    congr 1
    rw [upI_shift, List.countP_map, List.map_cons, List.map_nil, List.sum_cons, List.sum_nil, Nat.add_zero]
    apply List.countP_congr
    intro t _
    show f (t + ((A * b : Nat) : Int)) = true ↔ f (t + (A : Int) * (0 + (b : Int))) = true
    rw [Int.natCast_mul, Int.zero_add]
theorem low_count {a b : Nat} (h : a ≤ b) (k : Int) : (upI 0 b).countP (fun j => decide ((k + j) % (b : Int) < (a : Int))) = a := by
  have per : ∀ t : Int, decide ((t + (b : Int)) % (b : Int) < (a : Int)) = decide (t % (b : Int) < (a : Int)) := fun t => by
    rw [show t + (b : Int) = t + (b : Int) * 1 by omega, Int.add_mul_emod_self_left]
  have e := count_later (f := fun t => decide (t % (b : Int) < (a : Int))) (n := b) per (-k)
  have e2 : (upI 0 b).countP (fun j => decide ((k + j) % (b : Int) < (a : Int))) = (upI 0 b).countP (fun t => decide ((t - -k) % (b : Int) < (a : Int))) := by
    apply List.countP_congr
    intro j _
    rw [show j - -k = k + j by omega]
  rw [e2, e]
  have e3 : upI 0 b = upI 0 a ++ upI (a : Int) (b - a) := by
    have := upI_app 0 a (b - a)
    rw [Nat.add_sub_cancel' h, Int.zero_add] at this
    exact this
  rw [e3, List.countP_append, List.countP_eq_length.mpr fun t ht => ?_, upI_len, List.countP_eq_zero.mpr fun t ht => ?_]
  · rfl
  · obtain ⟨t0, t1⟩ := mem_upI.mp ht
    rw [decide_eq_true_iff, Int.emod_eq_of_lt (by omega) (by omega)]
    omega
  · obtain ⟨t0, t1⟩ := mem_upI.mp ht
    rw [decide_eq_true_iff, Int.emod_eq_of_lt t0 (by omega)]
    omega
/-- the digit of a tick, some ticks later in each block -/
theorem digit_mod {A b : Nat} (hA : 0 < A) (hb : 0 < b) (u j : Int) (a : Nat) : decide ((u + (A : Int) * j) % ((A * b : Nat) : Int) < ((A * a : Nat) : Int)) = decide ((u / (A : Int) + j) % (b : Int) < (a : Int)) := by
  have d := Int.emod_add_mul_ediv u (A : Int)
  have r0 := Int.emod_nonneg u (show (A : Int) ≠ 0 by omega)
  have r1 := Int.emod_lt_of_pos u (show 0 < (A : Int) by omega)
  generalize hk : u / (A : Int) = k at d
  generalize u % (A : Int) = r at d r0 r1
  have m0 := Int.emod_nonneg (k + j) (show (b : Int) ≠ 0 by omega)
  have m1 := Int.emod_lt_of_pos (k + j) (show 0 < (b : Int) by omega)
  have md := Int.emod_add_mul_ediv (k + j) (b : Int)
  have e : (u + (A : Int) * j) % ((A * b : Nat) : Int) = r + (A : Int) * ((k + j) % (b : Int)) := by
    have e1 : u + (A : Int) * j = (r + (A : Int) * ((k + j) % (b : Int))) + ((A * b : Nat) : Int) * ((k + j) / (b : Int)) := by
      rw [Int.natCast_mul, Int.mul_assoc, Int.add_assoc, ← Int.mul_add, md, Int.mul_add]
      omega
    rw [e1, Int.add_mul_emod_self_left]
    have up : (A : Int) * ((k + j) % (b : Int) + 1) ≤ (A : Int) * (b : Int) := Int.mul_le_mul_of_nonneg_left (by omega) (by omega)
    rw [Int.mul_add, Int.mul_one] at up
    have lo := Int.mul_nonneg (show 0 ≤ (A : Int) by omega) m0
    rw [Int.natCast_mul]
    exact Int.emod_eq_of_lt (by omega) (by omega)
  rw [e, Bool.eq_iff_iff, decide_eq_true_iff, decide_eq_true_iff, Int.natCast_mul]
  constructor
  · intro h
    exact Int.lt_of_mul_lt_mul_left (a := (A : Int)) (by omega) (by omega)
  · intro h
    have := Int.mul_le_mul_of_nonneg_left (show (k + j) % (b : Int) + 1 ≤ (a : Int) by omega) (show 0 ≤ (A : Int) by omega)
    rw [Int.mul_add, Int.mul_one] at this
    omega
/-- a pattern that sends by a digit: A ahead, b values, a of them -/
structure Dig (A : Nat) (p : Pt) (b a : Nat) : Prop where
  b0 : 1 ≤ b
  a1 : a ≤ b
  per : p.1 = ((A * b : Nat) : Int)
  snd : ∃ f : Int, ∀ o t, sndB p o t = decide ((t - o - f) % p.1 < ((A * a : Nat) : Int))
theorem dig_count {A b a : Nat} {p : Pt} (hA : 0 < A) (d : Dig A p b a) (o : Int) (X : Int → Bool) (hX : ∀ t, X (t + (A : Int)) = X t) : (upI 0 (A * b)).countP (fun t => X t && !sndB p o t) = (upI 0 A).countP X * (b - a) := by
  obtain ⟨f, hf⟩ := d.snd
  have b0 := d.b0
  have Xj : ∀ (j : Nat) (t : Int), X (t + (A : Int) * (j : Int)) = X t := fun j t => by
    induction j with
    | zero => rw [show t + (A : Int) * ((0 : Nat) : Int) = t by rw [Int.natCast_zero, Int.mul_zero, Int.add_zero]]
    | succ j ih =>
      rw [show t + (A : Int) * ((j + 1 : Nat) : Int) = t + (A : Int) * (j : Int) + (A : Int) by rw [Int.natCast_succ, Int.mul_add, Int.mul_one]; omega, hX, ih]
  rw [count_blocks]
  have e : ((upI 0 b).map fun j => (upI 0 A).countP fun t => X (t + (A : Int) * j) && !sndB p o (t + (A : Int) * j)) = (upI 0 b).map fun j => (upI 0 A).countP fun t => X t && !decide (((t - o - f) / (A : Int) + j) % (b : Int) < (a : Int)) := by
    apply List.map_congr_left
    intro j hj
    obtain ⟨j0, _⟩ := mem_upI.mp hj
    apply List.countP_congr
    intro t _
    have xe : X (t + (A : Int) * j) = X t := by
      have := Xj j.toNat t
      rw [show ((j.toNat : Nat) : Int) = j by omega] at this
      exact this
    rw [xe, hf, d.per, show t + (A : Int) * j - o - f = t - o - f + (A : Int) * j by omega, digit_mod hA (by omega)]
  rw [e, sum_swap (fun j t => X t && !decide (((t - o - f) / (A : Int) + j) % (b : Int) < (a : Int))), ← sum_sel]
  congr 1
  apply List.map_congr_left
  intro t _
  cases X t with
  | false =>
    rw [if_neg Bool.false_ne_true, List.countP_eq_zero]
    simp
  | true =>
    rw [if_pos rfl]
    have l := low_count d.a1 ((t - o - f) / (A : Int))
    have c := List.length_eq_countP_add_countP (p := fun j => decide (((t - o - f) / (A : Int) + j) % (b : Int) < (a : Int))) (l := upI 0 b)
    rw [upI_len, l] at c
    have e2 : (upI 0 b).countP (fun j => true && !decide (((t - o - f) / (A : Int) + j) % (b : Int) < (a : Int))) = (upI 0 b).countP (fun j => decide (¬ (decide (((t - o - f) / (A : Int) + j) % (b : Int) < (a : Int)) = true))) := by
      apply List.countP_congr
      intro j _
      rw [Bool.true_and]
      cases decide (((t - o - f) / (A : Int) + j) % (b : Int) < (a : Int)) <;> simp
    rw [e2]
    omega
/-- patterns by digits, one behind the other; L is the period of the last -/
inductive Digs : Nat → List Pt → Nat → Nat → Prop
  | nil {A : Nat} : Digs A [] A 1
  | cons {A b a L c : Nat} {p : Pt} {ps : List Pt} (h : Dig A p b a) (r : Digs (A * b) ps L c) : Digs A (p :: ps) L ((b - a) * c)
theorem digs_quiet {A L c : Nat} {ps : List Pt} (hA : 0 < A) (d : Digs A ps L c) : ∀ (os : List Int), os.length = ps.length → ∀ X : Int → Bool, (∀ t, X (t + (A : Int)) = X t) → (upI 0 L).countP (fun t => X t && quietZ (os.zip ps) t) = (upI 0 A).countP X * c := by
  induction d with
  | nil =>
    intro os _ X _
    rw [Nat.mul_one]
    apply List.countP_congr
    intro t _
    have : quietZ (os.zip []) t = true := by
      rw [List.zip_nil_right]
      rfl
    rw [this, Bool.and_true]
  | cons h r ih =>
    rename_i A b a L c p ps
    intro os hl X hX
    cases os with
    | nil => cases hl
    | cons o os =>
      have Ab : 0 < A * b := Nat.mul_pos hA h.b0
      have e := ih Ab os (Nat.succ.inj hl) (fun t => X t && !sndB p o t) fun t => by
        have xe : X (t + ((A * b : Nat) : Int)) = X t := by
          have Xj : ∀ (j : Nat) (t : Int), X (t + (A : Int) * (j : Int)) = X t := fun j t => by
            induction j with
            | zero => rw [show t + (A : Int) * ((0 : Nat) : Int) = t by rw [Int.natCast_zero, Int.mul_zero, Int.add_zero]]
            | succ j ih =>
              rw [show t + (A : Int) * ((j + 1 : Nat) : Int) = t + (A : Int) * (j : Int) + (A : Int) by rw [Int.natCast_succ, Int.mul_add, Int.mul_one]; omega, hX, ih]
          rw [Int.natCast_mul]
          exact Xj b t
        rw [xe, snd_per (by rw [h.per]; exact Int.dvd_refl _)]
      rw [dig_count hA h o X hX, Nat.mul_assoc] at e
      rw [← e]
      apply List.countP_congr
      intro t _
      show (X t && (!sndB p o t && quietZ (os.zip ps) t)) = true ↔ _
      rw [Bool.and_assoc]
theorem digs_all {L c : Nat} {ps : List Pt} (d : Digs 1 ps L c) (os : List Int) (hl : os.length = ps.length) : (upI 0 L).countP (quietZ (os.zip ps)) = c := by
  have := digs_quiet (by decide) d os hl (fun _ => true) fun _ => rfl
  have e1 : (upI 0 1).countP (fun _ => true) = 1 := rfl
  rw [e1, Nat.one_mul] at this
  rw [← this]
  apply List.countP_congr
  intro t _
  rw [Bool.true_and]
theorem digs_dvd {A L c : Nat} {ps : List Pt} (d : Digs A ps L c) : A ∣ L ∧ ∀ p ∈ ps, p.1 ∣ (L : Int) := by
  induction d with
  | nil => exact ⟨Nat.dvd_refl _, fun p hp => absurd hp List.not_mem_nil⟩
  | cons h r ih =>
    rename_i A b a L c p ps
    obtain ⟨k, hk⟩ := ih.1
    refine ⟨⟨b * k, by rw [hk, Nat.mul_assoc]⟩, fun q hq => ?_⟩
    rcases List.mem_cons.mp hq with e | hq
    · rw [e, h.per]
      exact Int.natCast_dvd_natCast.mpr ih.1
    · exact ih.2 q hq
/-- in any order -/
theorem zip_perm {ps qs : List Pt} (h : qs.Perm ps) : ∀ os : List Int, os.length = qs.length → ∃ rs : List Int, rs.length = ps.length ∧ (os.zip qs).Perm (rs.zip ps) := by
  induction h with
  | nil => exact fun os hl => ⟨os, hl, List.Perm.refl _⟩
  | cons p _ ih =>
    intro os hl
    cases os with
    | nil => cases hl
    | cons o os =>
      obtain ⟨rs, h1, h2⟩ := ih os (Nat.succ.inj hl)
      exact ⟨o :: rs, congrArg Nat.succ h1, h2.cons _⟩
  | swap p q l =>
    intro os hl
    cases os with
    | nil => cases hl
    | cons a os =>
      cases os with
      | nil => cases hl
      | cons b os => exact ⟨b :: a :: os, hl, List.Perm.swap _ _ _⟩
  | trans _ _ ih1 ih2 =>
    intro os hl
    obtain ⟨rs, h1, h2⟩ := ih1 os hl
    obtain ⟨ts, h3, h4⟩ := ih2 rs h1
    exact ⟨ts, h3, h2.trans h4⟩
theorem quiet_perm {zs ys : List (Int × Pt)} (h : zs.Perm ys) (t : Int) : quietZ zs t = quietZ ys t := by
  unfold quietZ
  rw [Bool.eq_iff_iff, List.all_eq_true, List.all_eq_true]
  exact ⟨fun a z hz => a z (h.mem_iff.mpr hz), fun a z hz => a z (h.mem_iff.mp hz)⟩
theorem digs_even {L c : Nat} {ps qs : List Pt} (d : Digs 1 ps L c) (h : qs.Perm ps) (hs : spanN qs = L) : ∀ os : List Int, os.length = qs.length → kindN qs (-1) os = c := fun os hl => by
  rw [quiet_count hl, hs]
  obtain ⟨rs, h1, h2⟩ := zip_perm h os hl
  rw [← digs_all d rs h1]
  apply List.countP_congr
  intro t _
  rw [quiet_perm h2]
end DW
namespace DW
open PySem PySem.Spec PyProof.Rows L2
variable [Tabl]
/-! ### a tuple some times over; what is popped from one own list is put to another -/
section
variable {K : PySem.W.Frag} {δ : Nm} {te tk : TE} {nx bk ct : Nm → Prop} {rt : Dt → Prop} {R : Dt → Prop}
theorem k_mulT {xs : List Dt} {m : Int} (hne : xs ≠ []) (h1 : 2 ≤ m) (h2 : m ≤ 1000) (hz : xs.length ≤ 1000) (r : R (.tuple (List.replicate m.toNat xs).flatten)) : OpD K (rMulK K) (.tuple xs) (.int m) R := op_r (op_r fun ω G H v u Q k g1 g2 q => by
  obtain ⟨a, vs, rfl, hs, ra⟩ := g1.tuple_inv
  refine ⟨a, m, vs, rfl, g2.int_inv, same_t k.1 hs, fun z => ?_, h1, h2, by rw [ra.len]; exact hz, q_tup k (ra.rep m.toNat) q r⟩
  have := ra.len
  rw [z] at this
  exact hne (List.length_eq_zero_iff.mp this.symm))
/-- for k in range(..), where what is asked may be seen of the own lists -/
theorem ws_forR {ar : TA} {g : TG} {tu : TS} (h : WA K ar (δ.map seen) fun es => ∃ n : Int, es = [.dat (.int n)] ∧ (-(2 ^ 62) ≤ n ∧ n < 2 ^ 62) ∧ ∃ P : Nat → Nm → Prop, P 0 δ ∧ (∀ (i : Nat) δ', i < n.toNat → P i δ' → WGt K g (.int (i : Int)) δ' fun δ2 => WS K tu δ2 (P (i + 1)) rt nx (P (i + 1))) ∧ ∀ δ', P n.toNat δ' → nx δ') :
    WS K (tFor (iRng1 ar) g tu) δ nx rt bk ct := fun ω σ G H D s n r b c => by
  have hw : WG K (fun _ _ (vs : List V) (z : Int) => vs = [.int z]) ar (δ.map seen) fun n => (-(2 ^ 62) ≤ n ∧ n < 2 ^ 62) ∧ ∃ P : Nat → Nm → Prop, P 0 δ ∧ (∀ (i : Nat) δ', i < n.toNat → P i δ' → WGt K g (.int (i : Int)) δ' fun δ2 => WS K tu δ2 (P (i + 1)) rt nx (P (i + 1))) ∧ ∀ δ', P n.toNat δ' → nx δ' := fun ω σ G H Q e k q =>
    h ω σ G H Q e k fun xs as G' H' g k' ra ⟨z, e1, hr⟩ => by
      subst e1
      exact q xs z G' H' g k' (rp_int1 ra) hr
  refine run_seen (Rel := fun (vs : List V) (z : Int) => vs = [.int z]) hw s fun vs z H1 s1 e1 ⟨zb, P, p0, turn, done⟩ => ?_
  refine ⟨z, e1, zb.1, zb.2, ?_⟩
  have gv : Gives K G (Itr 0 z.toNat) (upTo 0 z.toNat) := gives_rng
  refine ⟨fun i m σ' H' => m = z.toNat - i ∧ i ≤ z.toNat ∧ ∃ δ' G', Same G G' ∧ Std K ω G' H' δ' σ' ∧ P i δ', ⟨_, rfl, Nat.zero_le _, δ, G, Same.refl G, s1, p0⟩, ?_⟩
  rintro i m σ' H' ⟨rfl, hi, δ', G', g', s', p⟩
  by_cases hlt : i < z.toNat
  · have hx : (upTo 0 z.toNat)[i]? = some (.int (i : Int)) := by
      have hl : i < (upTo 0 z.toNat).length := by rw [up_len]; exact hlt
      have := List.getElem?_eq_getElem hl
      rw [this]
      obtain ⟨_, e⟩ := up_get this
      rw [e, Int.zero_add]
    obtain ⟨go, yl⟩ := gv.std g' s' hx
    refine .inr ⟨go, fun σ2 H2 => ∃ δ2 G2, Same G G2 ∧ Std K ω G2 H2 δ2 σ2 ∧ P (i + 1) δ2, fun σ2 H2 ⟨δ2, G2, g2, s2, p2⟩ => ⟨z.toNat - (i + 1), by omega, rfl, hlt, δ2, G2, g2, s2, p2⟩, fun v H3 y => ?_⟩
    obtain ⟨G3, g3, s3, rv⟩ := yl v H3 y
    refine turn i δ' hlt p ω σ' G3 H3 v _ s3 rv fun σ2 δ2 s2 h2 => h2 ω σ2 G3 H3 _ s2 ?_ ?_ ?_ ?_
    · exact fun σ4 δ4 G4 H4 g4 s4 p4 => ⟨δ4, G4, (g'.trans g3).trans g4, s4, p4⟩
    · exact fun v d G4 H4 g4 k4 r4 q4 => r v d G4 H4 ((g'.trans g3).trans g4) k4 r4 q4
    · exact fun σ4 δ4 G4 H4 g4 s4 p4 => n σ4 δ4 G4 H4 ((g'.trans g3).trans g4) s4 p4
    · exact fun σ4 δ4 G4 H4 g4 s4 p4 => ⟨δ4, G4, (g'.trans g3).trans g4, s4, p4⟩
  · have e : i = z.toNat := by omega
    subst e
    exact .inl ⟨(gv ω G' H' _ g' s'.ok).1 (up_len _ _), n σ' δ' G' H' g' s' (done δ' p)⟩
/-- y.append(x.pop(k)) -/
theorem ws_appPop {i j : Nat} {ds es : List Dt} (hi : δ[i]? = some (.own (.list ds))) (hj : δ[j]? = some (.own (.list es))) (hij : i ≠ j) (hz : es.length < sizeLine) {ar : TA}
    (h : WA K ar (δ.map seen) fun as => ∃ z : Int, as = [.dat (.int z)] ∧ 0 ≤ z ∧ z < 1000000 ∧ z.toNat < ds.length ∧ ∀ d, ds[z.toNat]? = some d → nx ((δ.set i (.own (.list (ds.eraseIdx z.toNat)))).set j (.own (.list (es ++ [d]))))) :
    WS K (tDrop (tBM K "list" rAppend (tVar j) (tCons (tBM K "list" rPopAt (tVar i) ar) tNil))) δ nx rt bk ct := fun ω σ G H D s n r b c => by
  obtain ⟨p, vs, h1, h2, _, _, _⟩ := s.lst hi
  obtain ⟨u, ws, g1, g2, _, _, _⟩ := s.lst hj
  refine ⟨.ref u, g1, .inl ⟨rfl, ws, .inl (.inl g2)⟩, ?_⟩
  refine ⟨.ref p, h1, .inl ⟨rfl, vs, .inl (.inl h2)⟩, ?_⟩
  have hw : WG K (fun _ _ (vs : List V) (z : Int) => vs = [.int z]) ar (δ.map seen) fun z => 0 ≤ z ∧ z < 1000000 ∧ z.toNat < ds.length ∧ ∀ d, ds[z.toNat]? = some d → nx ((δ.set i (.own (.list (ds.eraseIdx z.toNat)))).set j (.own (.list (es ++ [d])))) := fun ω σ G H Q e k q =>
    h ω σ G H Q e k fun xs as G' H' g k' ra ⟨z, e1, hr⟩ => by
      subst e1
      exact q xs z G' H' g k' (rp_int1 ra) hr
  refine run_seen (Rel := fun (vs : List V) (z : Int) => vs = [.int z]) hw s fun xs z H1 s1 e1 ⟨z0, z1, zl, hn⟩ => ?_
  obtain ⟨p', vs', a1, a2, a3, a4, a5⟩ := s1.lst hi
  rw [h1] at a1
  cases a1
  obtain ⟨v, hv, rv⟩ := a3.at (List.getElem?_eq_getElem zl)
  have vl := a3.len
  refine ⟨p, vs', z, z.toNat, v, rfl, e1, a2, by omega, by omega, seqIndex_of z0 (by omega), hv, ?_⟩
  have er : RpAll K G (vs'.eraseIdx z.toNat) (ds.eraseIdx z.toNat) := by
    have e3 : vs'.eraseIdx z.toNat = vs'.take z.toNat ++ vs'.drop (z.toNat + 1) := List.eraseIdx_eq_take_drop_succ _ _
    have e4 : ds.eraseIdx z.toNat = ds.take z.toNat ++ ds.drop (z.toNat + 1) := List.eraseIdx_eq_take_drop_succ _ _
    rw [e3, e4]
    exact (a3.take z.toNat).append (a3.drop (z.toNat + 1))
  have s2 := s1.chg (ws := .lst (vs'.eraseIdx z.toNat)) (ds' := .list (ds.eraseIdx z.toNat)) hi h1 a4 a5 er
  have hj2 : (δ.set i (.own (.list (ds.eraseIdx z.toNat))))[j]? = some (.own (.list es)) := by
    rw [List.getElem?_set_ne hij]
    exact hj
  obtain ⟨u', ws', b1, b2, b3, b4, b5⟩ := s2.lst hj2
  rw [g1] at b1
  cases b1
  refine ⟨u, ws', v, rfl, rfl, b2, by rw [b3.len]; exact hz, ?_⟩
  exact n σ _ G _ (Same.refl G) (s2.chg (ws := .lst (ws' ++ [v])) (ds' := .list (es ++ [ds[z.toNat]])) hj2 g1 b4 b5 (b3.append (.cons rv .nil))) (hn _ (List.getElem?_eq_getElem zl))
end
/-! counting values -/
def histF (f : Int → Int) (m : Nat) (L : List Int) : List Int := (upI 0 m).map fun d => ((L.countP fun q => decide (f q = d) : Nat) : Int)
theorem histF_len (f : Int → Int) (m : Nat) (L : List Int) : (histF f m L).length = m := by
  unfold histF
  rw [List.length_map, upI_len]
theorem histF_nil (f : Int → Int) (m : Nat) : (List.replicate m [PyData.int 0]).flatten = (histF f m []).map PyData.int := by
  rw [List.flatten_replicate_singleton]
  apply List.ext_getElem?
  intro i
  unfold histF
  rw [List.getElem?_replicate, List.getElem?_map, List.getElem?_map]
  by_cases h : i < m
  · rw [if_pos h, upI_get h]
    rfl
  · rw [if_neg h, List.getElem?_eq_none (by rw [upI_len]; omega)]
    rfl
theorem histF_get {f : Int → Int} {m : Nat} {d : Int} (L : List Int) (h0 : 0 ≤ d) (h1 : d < m) : (histF f m L)[d.toNat]? = some ((L.countP fun q => decide (f q = d) : Nat) : Int) := by
  unfold histF
  rw [List.getElem?_map, upI_get (by omega)]
  have : (0 : Int) + (d.toNat : Nat) = d := by omega
  rw [this]
  rfl
theorem histF_snoc {f : Int → Int} {m : Nat} (L : List Int) (x : Int) : (histF f m L).set (f x).toNat (((L.countP fun q => decide (f q = f x) : Nat) : Int) + 1) = histF f m (L ++ [x]) ∨ f x < 0 := by
  rcases Int.lt_or_le (f x) 0 with h | h0
  · exact .inr h
  refine .inl ?_
  apply List.ext_getElem?
  intro i
  by_cases hi : i < m
  · have r : (histF f m (L ++ [x]))[i]? = some (((L ++ [x]).countP fun q => decide (f q = (i : Int)) : Nat) : Int) := by
      have := histF_get (f := f) (m := m) (d := (i : Int)) (L ++ [x]) (by omega) (by omega)
      rw [Int.toNat_natCast] at this
      exact this
    rw [r, List.countP_append, List.countP_cons, List.countP_nil]
    by_cases e : i = (f x).toNat
    · subst e
      rw [List.getElem?_set_self (by rw [histF_len]; exact hi), Int.toNat_of_nonneg h0, decide_eq_true rfl, if_pos rfl]
      rw [Int.natCast_add]
      rfl
    · rw [List.getElem?_set_ne (fun z => e z.symm)]
      have r2 := histF_get (f := f) (m := m) (d := (i : Int)) L (by omega) (by omega)
      rw [Int.toNat_natCast] at r2
      rw [r2, decide_eq_false (by omega), if_neg Bool.false_ne_true]
      rfl
  · rw [List.getElem?_eq_none (by rw [List.length_set, histF_len]; omega), List.getElem?_eq_none (by rw [histF_len]; omega)]
theorem erase_perm {α : Type} : ∀ {xs : List α} {k : Nat} {d : α}, xs[k]? = some d → (d :: xs.eraseIdx k).Perm xs
  | [], k, d, h => by simp at h
  | x :: xs, 0, d, h => by
    rw [List.getElem?_cons_zero] at h
    cases h
    exact List.Perm.refl _
  | x :: xs, k + 1, d, h => by
    rw [List.getElem?_cons_succ] at h
    have ih := erase_perm h
    exact (List.Perm.swap x d _).trans (ih.cons x)
end DW
namespace DW
open PySem PySem.Spec PyProof.Rows L2
variable [Tabl]
/-! ### a list made by a comprehension, owned by its name -/
section
variable {K : PySem.W.Frag} {ω : Wd} {G H : Hp} {δ : Nm} {σ : L2.St} {te : TE} {tt : TT} {nx bk ct : Nm → Prop} {rt : Dt → Prop}
/-- a cell apart from all that is owned -/
def Far (ω : Wd) (δ : Nm) (σ : L2.St) (A : Addr) : Prop := (∀ q ∈ ω, q.1 ≠ A) ∧ ∀ (j : Nat) (es : Dt) (q : Addr), δ[j]? = some (.own es) → σ[j]? = some (some (.ref q)) → q ≠ A
theorem Std.far {A : Addr} (s : Std K ω G H δ σ) (h : H A = none) : Far ω δ σ A := ⟨s.ok.apart h, fun j es q hj hq e => by
  obtain ⟨p', vs, h1, h2, _⟩ := s.own j es hj
  rw [hq] at h1
  cases h1
  rw [e, h] at h2
  cases h2⟩
theorem Std.hold2 {A : Addr} {o0 : HO} (s : Std K ω G H δ σ) (g : G A = none) (h : H A = some o0) (far : Far ω δ σ A) (pl : Pl o0 := by first | trivial | assumption | exact RpO.pl (by assumption)) : Std K ((A, fun o => o = o0) :: ω) G H δ σ := by
  refine ⟨s.env.more fun q hq => List.mem_cons_of_mem _ hq, s.ok.push g h rfl far.1, fun j es hj => ?_, s.one⟩
  obtain ⟨p', vs, h1, h2, h3, h4, h5⟩ := s.own j es hj
  refine ⟨p', vs, h1, h2, h3, h4, fun q hq => ?_⟩
  rcases List.mem_cons.mp hq with e | hq
  · rw [e]
    exact Ne.symm (far.2 j es p' hj h1)
  · exact h5 q hq
theorem Std.drop2 {A : Addr} {P : HO → Prop} (env : EnvE K ω G δ σ) (s : Std K ((A, P) :: ω) G H δ σ) : Std K ω G H δ σ ∧ G A = none ∧ ∃ o, H A = some o ∧ P o := by
  obtain ⟨k, d1, ⟨o, d2, d3⟩, d4⟩ := s.ok.pop
  refine ⟨⟨env, k, fun j es hj => ?_, s.one⟩, d1, o, d2, d3⟩
  obtain ⟨p', vs, h1, h2, h3, h4, h5⟩ := s.own j es hj
  exact ⟨p', vs, h1, h2, h3, h4, fun q hq => h5 q (List.mem_cons_of_mem _ hq)⟩
theorem Std.write {A : Addr} {o1 : HO} (s : Std K ω G H δ σ) (g : G A = none) (far : Far ω δ σ A) (hpl : ∀ o', H A = some o' → Pl o' := by first | assumption | exact pl_new (by assumption) | exact pl_at (by assumption) (by trivial) | exact pl_at (by assumption) (RpO.pl (by assumption)) | exact Ok.plAt (by assumption) (by assumption)) : Std K ω G (upd H A o1) δ σ := by
  refine ⟨s.env, s.ok.put g far.1 hpl, fun j es hj => ?_, s.one⟩
  obtain ⟨p', vs, h1, h2, h3, h4, h5⟩ := s.own j es hj
  exact ⟨p', vs, h1, by rw [upd_ne (far.2 j es p' hj h1)]; exact h2, h3, h4, h5⟩
theorem ws_ownLc {wi : TI} {g : TG} {vs : List Nat} {i0 : Nat} (gin : GIn g vs) (gm : GMono g) (hl' : (δ[i0]?).isSome = true)
    (h : WI K wi δ fun xs => xs.length ≤ 1000000 ∧ ∃ P : Nat → List Dt → Prop, P 0 [] ∧
      (∀ i x acc, xs[i]? = some x → P i acc → WGt K g x (wipeE (δ.map blind) vs) fun δ2 => WT K tt δ2 fun b => if b = true then W K te δ2 (fun y => P (i + 1) (acc ++ [y])) else P (i + 1) acc) ∧ ∀ acc, P xs.length acc → nx (δ.set i0 (.own (.list acc)))) :
    WS K (tAsg (tLc wi g tt te vs) (gName i0)) δ nx rt bk ct := fun ω σ G H E s n r b c => by
  refine run_wg (Rel := fun G J xs => Gives K G J xs) h s fun J xs G1 H1 g1 s1 gv ⟨hz, P, p0, turn, done⟩ D hD => ?_
  have hg := s1.ok.1.free hD
  have far := s1.far hD
  refine ⟨fun i m H' => m = xs.length - i ∧ i ≤ xs.length ∧ ∃ G' acc av, Same G1 G' ∧ Std K ω G' H' δ σ ∧ G' D = none ∧ H' D = some (.lst av) ∧ RpAll K G' av acc ∧ acc.length ≤ i ∧ P i acc,
    ⟨_, rfl, Nat.zero_le _, G1, [], [], Same.refl _, s1.write hg far, hg, upd_same, .nil, Nat.le_refl _, p0⟩, ?_⟩
  rintro i m H' ⟨rfl, hi, G', acc, av, g', s', d1, d2, ra, hl, p⟩
  by_cases hlt : i < xs.length
  · have hx : xs[i]? = some xs[i] := List.getElem?_eq_getElem hlt
    have sD := s'.hold2 d1 d2 far
    obtain ⟨go, yl⟩ := gv.std g' sD hx
    refine .inr ⟨go, fun H2 => ∃ G2 acc av, Same G1 G2 ∧ Std K ω G2 H2 δ σ ∧ G2 D = none ∧ H2 D = some (.lst av) ∧ RpAll K G2 av acc ∧ acc.length ≤ i + 1 ∧ P (i + 1) acc, fun H2 ⟨G2, acc2, av2, z⟩ => ⟨xs.length - (i + 1), by omega, rfl, hlt, G2, acc2, av2, z⟩, fun v H3 y => ?_⟩
    obtain ⟨G3, g3, s3, rv⟩ := yl v H3 y
    obtain ⟨L, kL, hL, _⟩ := s3.guard δ.length
    have e3 : EnvE K (L ++ ((D, fun o => o = .lst av) :: ω)) G3 (wipeE (δ.map blind) vs) (wipe σ vs) := (((env_blind s3.env).wipe vs).more fun q hq => List.mem_append_right _ hq)
    have s3w : Std K (L ++ ((D, fun o => o = .lst av) :: ω)) G3 H3 (wipeE (δ.map blind) vs) (wipe σ vs) := ⟨e3, kL, fun j ds hj => (blind_own hj).elim, fun j l ds es hj _ => (blind_own hj).elim⟩
    have ww : wipe (wipe σ vs) vs = wipe σ vs := by
      apply List.ext_getElem?
      intro l
      rw [wipe_get, wipe_get]
      by_cases hm : l ∈ vs
      · rw [if_pos hm, if_pos hm]
        cases σ[l]? <;> rfl
      · rw [if_neg hm, if_neg hm]
    refine gm v _ H3 _ _ (gin v _ H3 _ (turn i _ acc hx p _ (wipe σ vs) G3 H3 v (fun σ2 H2 => H2 = H3 ∧ ∃ δ2, Std K (L ++ ((D, fun o => o = .lst av) :: ω)) G3 H3 δ2 σ2 ∧ WT K tt δ2 fun b => if b = true then W K te δ2 (fun y => P (i + 1) (acc ++ [y])) else P (i + 1) acc) s3w rv fun σ2 δ2 s2 h2 => ⟨rfl, δ2, s2, h2⟩)) fun σ2 H2 ⟨w2, e2, δ2, s2, h2⟩ => ⟨w2.trans ww, ?_⟩
    subst e2
    refine h2 _ σ2 G3 H2 _ s2.env s2.ok fun b b' G4 H4 g4 k4 eb h4 => ?_
    subst eb
    cases b with
    | true =>
      rw [if_pos rfl] at h4 ⊢
      refine h4 _ σ2 G4 H4 _ (s2.env.mono g4) k4 fun y d G5 H5 g5 k5 r5 p5 => ?_
      obtain ⟨s6, f1, o, f2, f3⟩ := Std.drop2 (s1.env.mono ((((g'.trans g3).trans g4).trans g5))) (s3.back (g4.trans g5) k5 hL)
      have f3' : o = .lst av := f3
      subst f3'
      refine ⟨av, f2, by rw [ra.len, sizeLine_eq]; omega, G5, acc ++ [d], av ++ [y], (((g'.trans g3).trans g4).trans g5), s6.write f1 far, f1, upd_same, (ra.mono ((g3.trans g4).trans g5)).append (.cons r5 .nil), by rw [List.length_append]; show acc.length + 1 ≤ _; omega, p5⟩
    | false =>
      rw [if_neg Bool.false_ne_true] at h4 ⊢
      obtain ⟨s6, f1, o, f2, f3⟩ := Std.drop2 (s1.env.mono ((g'.trans g3).trans g4)) (s3.back g4 k4 hL)
      have f3' : o = .lst av := f3
      subst f3'
      exact ⟨G4, acc, av, ((g'.trans g3).trans g4), s6, f1, f2, ra.mono (g3.trans g4), by omega, h4⟩
  · have e1 : i = xs.length := by omega
    subst e1
    refine .inl ⟨(gv ω G' H' _ g' s'.ok).1 rfl, ?_⟩
    exact n _ _ G' H' (g1.trans g') ((s'.hold2 d1 d2 far).adopt (d := .list acc) (lt_of_isSome hl') ra) (done acc p)
/-- xs = [x for x in .. if p(x)], owned -/
theorem ws_ownFilt {wi : TI} {j : Nat} {vs : List Nat} {i0 : Nat} (p : Dt → Bool) (f : Dt → Dt) (hj : j ∈ vs) (hl' : (δ[i0]?).isSome = true) (h : WI K wi δ fun xs => xs.length ≤ 1000000 ∧
    (∀ x, x ∈ xs → WT K tt ((wipeE (δ.map blind) vs).set j (.dat x)) fun b => b = p x ∧ (p x = true → W K te ((wipeE (δ.map blind) vs).set j (.dat x)) fun y => y = f x)) ∧ nx (δ.set i0 (.own (.list ((xs.filter p).map f))))) :
    WS K (tAsg (tLc wi (gName j) tt te vs) (gName i0)) δ nx rt bk ct := by
  refine ws_ownLc (gin_name hj) gm_name hl' fun ω σ G H Q e k q => h ω σ G H Q e k fun J xs G' H' g k' gv ⟨hz, ht, hr⟩ => q J xs G' H' g k' gv ⟨hz, fun i acc => acc = ((xs.take i).filter p).map f, rfl, fun i x acc hx pa => ?_, fun acc pa => ?_⟩
  · refine g_name (wt_mono (ht x (List.mem_of_getElem? hx)) fun b ⟨eb, hb⟩ => ?_)
    subst eb
    cases hp : p x with
    | true =>
      rw [if_pos rfl]
      refine w_mono (hb hp) fun y e => ?_
      subst e pa
      rw [take_snoc hx, List.filter_append, List.map_append, List.filter_cons, if_pos hp]
      rfl
    | false =>
      rw [if_neg Bool.false_ne_true]
      subst pa
      rw [take_snoc hx, List.filter_append, List.map_append, List.filter_cons, if_neg (by rw [hp]; exact Bool.false_ne_true)]
      show _ = _ ++ []
      rw [List.append_nil]
  · subst pa
    rw [List.take_length] at *
    exact hr
end
/-! ### `is` with true and false -/
def rIsB : R2 := fun x y H Q => ∃ b c : Bool, x = .bl b ∧ y = .bl c ∧ Q (.bl (b == c)) H
def rNotB : R2 := fun x y H Q => ∃ b c : Bool, x = .bl b ∧ y = .bl c ∧ Q (.bl (b != c)) H
theorem op_isB {X : Cx} : OpR X (compareOp .Is) rIsB := by
  intro pins s σ H x y v u Q I rx ry h
  obtain ⟨b, c, rfl, rfl, q⟩ := h
  cases rx
  cases ry
  exact is_bool (fin_bl I q rfl)
theorem op_notB {X : Cx} : OpR X (compareOp .IsNot) rNotB := by
  intro pins s σ H x y v u Q I rx ry h
  obtain ⟨b, c, rfl, rfl, q⟩ := h
  cases rx
  cases ry
  exact isnot_bool (fin_bl I q rfl)
section
variable {K : PySem.W.Frag} {R : Dt → Prop}
theorem o_isB {b c : Bool} (r : R (.bool (b == c))) : OpD K rIsB (.bool b) (.bool c) R := fun ω G H v u Q k h1 h2 q => ⟨b, c, h1.bool_inv, h2.bool_inv, q _ _ G H (Same.refl G) k (.bl _) r⟩
theorem o_notB {b c : Bool} (r : R (.bool (b != c))) : OpD K rNotB (.bool b) (.bool c) R := fun ω G H v u Q k h1 h2 q => ⟨b, c, h1.bool_inv, h2.bool_inv, q _ _ G H (Same.refl G) k (.bl _) r⟩
theorem o_niT {i : Int} {ns : List Int} (r : R (.bool (!decide (i ∈ ns)))) : OpD K (rIn K true) (.int i) (.tuple (ns.map .int)) R := fun ω G H v u Q k h1 h2 q => by
  obtain ⟨a, xs, rfl, hs, ra⟩ := h2.tuple_inv
  obtain rfl := ra.ints
  obtain rfl := h1.int_inv
  exact ⟨a, _, rfl, .inr (same_t k.1 hs), rfl, flat_ints ns, q _ _ G H (Same.refl G) k (by rw [if_pos rfl, inV_ints]; exact .bl _) r⟩
end
theorem cut_to (xs : List Dt) (n : Nat) (h : n ≤ xs.length) : cutD xs none (some (n : Int)) = xs.take n := by
  have e : HT.sIx xs.length xs.length (some (n : Int)) = min n xs.length := HT.sIx_nat _ _ _
  unfold cutD
  rw [e, HT.sIx_none, Nat.min_eq_left h]
  rfl
theorem cut_from (xs : List Dt) (n : Nat) (h : n ≤ xs.length) : cutD xs (some (n : Int)) none = xs.drop n := by
  have e : HT.sIx xs.length 0 (some (n : Int)) = min n xs.length := HT.sIx_nat _ _ _
  unfold cutD
  rw [e, HT.sIx_none, Nat.min_eq_left h]
  exact List.take_of_length_le (by rw [List.length_drop]; exact Nat.le_refl _)
theorem span_per : ∀ {ps qs : List Pt} (s : Nat), qs.map (·.1) = ps.map (·.1) → spanF s qs = spanF s ps ∧ sizesF s qs = sizesF s ps
  | [], [], s, _ => ⟨rfl, rfl⟩
  | p :: ps, q :: qs, s, h => by
    rw [List.map_cons, List.map_cons] at h
    obtain ⟨h1, h2⟩ := List.cons.inj h
    have h1 : q.1 = p.1 := h1
    obtain ⟨a, b⟩ := span_per (Nat.lcm s p.1.natAbs) h2
    constructor
    · show spanF (Nat.lcm s q.1.natAbs) qs = spanF (Nat.lcm s p.1.natAbs) ps
      rw [h1, a]
    · show _ :: sizesF (Nat.lcm s q.1.natAbs) qs = _ :: sizesF (Nat.lcm s p.1.natAbs) ps
      rw [h1, b]
  | [], _ :: _, _, h => by cases h
  | _ :: _, [], _, h => by cases h
theorem prod_per : ∀ {ps qs : List Pt}, qs.map (·.1) = ps.map (·.1) → prodQ qs = prodQ ps
  | [], [], _ => rfl
  | p :: ps, q :: qs, h => by
    rw [List.map_cons, List.map_cons] at h
    obtain ⟨h1, h2⟩ := List.cons.inj h
    have h1 : q.1 = p.1 := h1
    show q.1 * prodQ qs = p.1 * prodQ ps
    rw [h1, prod_per h2]
  | [], _ :: _, h => by cases h
  | _ :: _, [], h => by cases h
theorem per_set {ps : List Pt} {z : Nat} {p : Pt} {ms : List Int} (h : ps[z]? = some p) : (ps.set z (p.1, ms)).map (·.1) = ps.map (·.1) := by
  apply List.ext_getElem?
  intro i
  rw [List.getElem?_map, List.getElem?_map]
  by_cases e : z = i
  · subst e
    have hz := (List.getElem?_eq_some_iff.mp h).1
    rw [List.getElem?_set_self hz, h]
    rfl
  · rw [List.getElem?_set_ne e]
theorem sorted_asc {ms ns : List Int} (hp : ms.Perm ns) (hs : ms.Pairwise (· ≤ ·)) (hn : ns.Nodup) : ms.Pairwise (· < ·) := by
  have nd : ms.Nodup := hp.nodup_iff.mpr hn
  have h := hs.and nd
  exact h.imp fun ⟨a, b⟩ => by omega
theorem nodup_len {ns : List Int} {n : Int} (h : ns.Nodup) (hb : ∀ s ∈ ns, 0 ≤ s ∧ s < n) (h0 : 0 ≤ n) : (ns.length : Int) ≤ n := by
  have p : (ns.mergeSort fun a b => decide (a ≤ b)).Perm ns := List.mergeSort_perm _ _
  have so : (ns.mergeSort fun a b => decide (a ≤ b)).Pairwise (fun a b => decide (a ≤ b) = true) := List.pairwise_mergeSort (fun a b c h1 h2 => by
    have := of_decide_eq_true h1
    have := of_decide_eq_true h2
    exact decide_eq_true (by omega)) (fun a b => by
    by_cases c : a ≤ b
    · rw [decide_eq_true c]
      rfl
    · rw [decide_eq_true (show b ≤ a by omega), Bool.or_true]) _
  have asc := sorted_asc p (so.imp fun h => of_decide_eq_true h) h
  have := asc_len (lo := 0) (hi := n) asc (fun s hs => hb s (p.mem_iff.mp hs)) h0
  rw [p.length_eq] at this
  omega
end DW
namespace DW
open PySem PySem.Spec PyProof.Rows L2
variable [Tabl]
/-! ### sorted(set(t)) of a tuple of ints -/
section
variable {X : Cx}
def rSetI (K : PySem.W.Frag) (w : World) : List V → Hp → VK → Prop := fun vs H Q => ∃ (a : Addr) (ns : List Int), vs = [V.ref a] ∧ SqT K H a (ns.map V.int) ∧ ns.length + 1 < scanBound ∧ ∀ (p : Addr) (c : Nat), H p = none → c ≤ ns.length → Q (.ref p) (upd H p (SetO w p (fun j => decide (j ∈ ns)) c))
theorem cr_setI (hc : X.calm = true) : CallR X (.type "set") (rSetI X.K X.w) := by
  intro pins s σ H vs us Q I r h
  obtain ⟨a, ns, rfl, hs, hb, q⟩ := h
  obtain ⟨its, rv, hT, _⟩ := I.tuple hs
  rw [Vals.ref1 r]
  refine call_set_tupI ns (I.ok.hd hc) hT (by simpa using rv.ints) hb fun h' tk c hS hcn hk => ?_
  exact ⟨.ref _, upd H s.heap.objs.size (SetO X.w s.heap.objs.size (fun j => decide (j ∈ ns)) c), I.laid (t' := tk) (fun b u e => hk b u e) (Nat.le_refl _) (setO_new hS), rfl, q _ _ (I.hok.fresh (Nat.le_refl _)) hcn⟩
end
section
variable {K : PySem.W.Frag} {δ : Nm} {te : TE} {R : Dt → Prop} {w : World}
theorem w_sortedSet (h : W K te δ fun d => ∃ ns : List Int, d = .tuple (ns.map .int) ∧ ns.length < 64 ∧ ∀ ms : List Int, ms.Pairwise (· < ·) → (∀ k, k ∈ ms ↔ k ∈ ns) → R (.list (ms.map .int))) :
    W K (tCB (rSortedSet w) (tCons (tCB (rSetI K w) (tCons te tNil)) tNil)) δ R := fun ω σ G H Q e k q => h ω σ G H _ e k fun v d G1 H1 g1 k1 r1 ⟨ns, e1, hl, hr⟩ => by
  subst e1
  obtain ⟨a, xs, rfl, hs, ra⟩ := r1.tuple_inv
  obtain rfl := ra.ints
  refine ⟨a, ns, rfl, same_t k1.1 hs, by show ns.length + 1 < _; unfold scanBound; omega, fun p c hp hc => ?_⟩
  have hg := k1.1.free hp
  have ap := k1.apart hp
  have k2 := k1.put (o := SetO w p (fun j => decide (j ∈ ns)) c) hg ap
  refine ⟨p, _, c, rfl, upd_same, by omega, fun ms p2 pw mem _ hp2 => ?_⟩
  exact q_lst k2 (RpAll.of_ints ms) (fun v d G' H' g k' r rr => q v d G' H' (g1.trans g) k' r rr) (hr ms pw fun j => by
    rw [mem j]
    exact decide_eq_true_iff) p2 hp2
end
/-! ### tuple(range(n)) -/
section
variable {X : Cx} {a e : Expr} {ta : TA}
def tRs1 (ta : TA) : L2.St → Hp → (Int → Int → Int → Hp → Prop) → Prop := fun σ H Q => ta σ H fun vs H1 => ∃ j : Int, vs = [.int j] ∧ Q 0 j 1 H1
theorem prs_1 {p pos : Pos} (hg : Gl X "range") (hm : X.mg "range" = none) (ha : PA X [a] ta)
    (hs : starEach [a] X.env = (false, eval a X.env) :: starEach [] X.env := by rfl) (hpl : (backTo pos (starEach [] X.env)).any (·.1) = false := by rfl) : PRs X (.Call (.Name "range" p) [a] [] pos) (tRs1 ta) := by
  intro pins s σ H Q I h
  refine Call_ (ld_blt I hg hm boot_range (PyProof.Rows.callWith_type1 (thn (ha.run pos pins s σ H _ I h) fun us s1 ⟨vs, H1, I1, r1, j, e1, q1⟩ => ?_) hs hpl))
  subst e1
  cases r1 with
  | cons z1 r1 =>
    cases r1
    obtain ⟨t1, rfl⟩ := z1
    exact call_range_1 ⟨_, 0, j, 1, _, _, _, H1, rfl, IsRange.new _ _ _ _ _ _ _, I1.kept fun b u e => Heap.get?_push_of_some _ e, q1⟩
end
section
variable {K : PySem.W.Frag} {δ : Nm} {ar : TA} {R : Dt → Prop}
theorem step_up (n : Nat) : stepI 0 1 n = upI 0 n := by
  unfold stepI upI
  apply List.map_congr_left
  intro i _
  omega
theorem size_one {j : Int} (h0 : 0 ≤ j) : Builtin.Range.rangeSize 0 j 1 = j := by
  unfold Builtin.Range.rangeSize
  rw [if_pos (by decide)]
  split
  · rw [Int.ediv_one]
    omega
  · omega
theorem fits_one {j : Int} (h0 : 0 ≤ j) (h1 : j ≤ 1000000) : Builtin.Range.rangeFitsLong j = true := by
  unfold Builtin.Range.rangeFitsLong
  simp
  omega
theorem rs_up {j : Int} (h0 : 0 ≤ j) (h1 : j ≤ 1000000) : RsOk 0 j 1 j.toNat := by
  refine ⟨?_, by rw [size_one h0]; omega, by omega⟩
  unfold Builtin.Range.small
  rw [size_one h0]
  have a := fits_one h0 h1
  have b := fits_one (j := 0) (by omega) (by omega)
  have c := fits_one (j := 1) (by omega) (by omega)
  simp [a, b, c]
theorem w_tupRs1 (h : WA K ar δ fun es => ∃ j : Int, es = [.dat (.int j)] ∧ 0 ≤ j ∧ j ≤ 1000000 ∧ R (.tuple ((upI 0 j.toNat).map .int))) : W K (tTupRs (tRs1 ar)) δ R := fun ω σ G H Q e k q =>
  h ω σ G H _ e k fun vs es G1 H1 g1 k1 r ⟨j, e1, h1, h2, h3⟩ => by
    subst e1
    have e2 := rp_int1 r
    subst e2
    refine ⟨j, rfl, j.toNat, rs_up h1 h2, ?_⟩
    rw [step_up]
    exact q_tup k1 (RpAll.of_ints _) (fun w d G2 H2 g2 k2 r2 p2 => q w d G2 H2 (g1.trans g2) k2 r2 p2) h3
end
end DW
namespace DW
open PySem PySem.Spec PyProof.Rows L2
variable [Tabl]
/-! ### even groups made for shares -/
abbrev Sh := Nat × Nat
def fracD (p : Sh) : Dt := .tuple [.int ((p.1 : Nat) : Int), .int ((p.2 : Nat) : Int)]
def sharesD (ps : List Sh) : Dt := .tuple (ps.map fracD)
structure Frac (p : Sh) : Prop where
  a0 : 0 < p.1
  a1 : p.1 < p.2
  low : Nat.gcd p.1 p.2 = 1
def prodB : List Sh → Nat
  | [] => 1
  | p :: ps => p.2 * prodB ps
def prodT : List Sh → Nat
  | [] => 1
  | p :: ps => (p.2 - p.1) * prodT ps
structure Shares (ps : List Sh) : Prop where
  l0 : 2 ≤ ps.length
  l1 : ps.length ≤ 4
  all : ∀ p ∈ ps, Frac p
  few : prodB ps ≤ 60
theorem prodB_snoc (ps : List Sh) (p : Sh) : prodB (ps ++ [p]) = prodB ps * p.2 := by
  induction ps with
  | nil =>
    show p.2 * 1 = 1 * p.2
    omega
  | cons q ps ih =>
    show q.2 * prodB (ps ++ [p]) = q.2 * prodB ps * p.2
    rw [ih, Nat.mul_assoc]
theorem prodT_snoc (ps : List Sh) (p : Sh) : prodT (ps ++ [p]) = prodT ps * (p.2 - p.1) := by
  induction ps with
  | nil =>
    show (p.2 - p.1) * 1 = 1 * (p.2 - p.1)
    omega
  | cons q ps ih =>
    show (q.2 - q.1) * prodT (ps ++ [p]) = (q.2 - q.1) * prodT ps * (p.2 - p.1)
    rw [ih, Nat.mul_assoc]
theorem prodB_pos : ∀ {ps : List Sh}, (∀ p ∈ ps, Frac p) → 0 < prodB ps
  | [], _ => Nat.zero_lt_one
  | p :: ps, h => Nat.mul_pos (by have := (h p List.mem_cons_self).a1; omega) (prodB_pos fun q hq => h q (List.mem_cons_of_mem _ hq))
theorem prodT_le : ∀ {ps : List Sh}, prodT ps ≤ prodB ps
  | [] => Nat.le_refl _
  | p :: ps => Nat.mul_le_mul (Nat.sub_le _ _) prodT_le
theorem prodB_take {ps : List Sh} (h : ∀ p ∈ ps, Frac p) (i : Nat) : prodB (ps.take i) ≤ prodB ps := by
  have e : prodB ps = prodB (ps.take i) * prodB (ps.drop i) := by
    have key : ∀ xs ys : List Sh, prodB (xs ++ ys) = prodB xs * prodB ys := fun xs ys => by
      induction xs with
      | nil =>
        show prodB ys = 1 * prodB ys
        omega
      | cons x xs ih =>
        show x.2 * prodB (xs ++ ys) = x.2 * prodB xs * prodB ys
        rw [ih, Nat.mul_assoc]
    rw [← key, List.take_append_drop]
  rw [e]
  exact Nat.le_mul_of_pos_right _ (prodB_pos fun p hp => h p (List.mem_of_mem_drop hp))
theorem share_60 {ps : List Sh} (h : Shares ps) : ∀ p ∈ ps, p.2 ≤ 60 := by
  have key : ∀ {ps : List Sh}, (∀ p ∈ ps, Frac p) → ∀ p ∈ ps, p.2 ≤ prodB ps := by
    intro ps
    induction ps with
    | nil => exact fun _ p hp => absurd hp List.not_mem_nil
    | cons q ps ih =>
      intro h p hp
      have pos := prodB_pos fun r hr => h r (List.mem_cons_of_mem q hr)
      have q0 := (h q List.mem_cons_self).a1
      rcases List.mem_cons.mp hp with e | hp
      · rw [e]
        exact Nat.le_mul_of_pos_right _ pos
      · exact Nat.le_trans (ih (fun r hr => h r (List.mem_cons_of_mem _ hr)) p hp) (Nat.le_mul_of_pos_left _ (by omega))
  exact fun p hp => Nat.le_trans (key h.all p hp) h.few
def evenL (A : Nat) : List Sh → List Pt
  | [] => []
  | p :: ps => (((A * p.2 : Nat) : Int), upI 0 (A * p.1)) :: evenL (A * p.2) ps
theorem evenL_len : ∀ (A : Nat) (ps : List Sh), (evenL A ps).length = ps.length
  | _, [] => rfl
  | A, p :: ps => congrArg Nat.succ (evenL_len (A * p.2) ps)
theorem evenL_snoc : ∀ (A : Nat) (ps : List Sh) (p : Sh), evenL A (ps ++ [p]) = evenL A ps ++ [(((A * prodB ps * p.2 : Nat) : Int), upI 0 (A * prodB ps * p.1))]
  | A, [], p => by
    show [(((A * p.2 : Nat) : Int), upI 0 (A * p.1))] = [(((A * 1 * p.2 : Nat) : Int), upI 0 (A * 1 * p.1))]
    rw [Nat.mul_one]
  | A, q :: ps, p => by
    show _ :: evenL (A * q.2) (ps ++ [p]) = _ :: (evenL (A * q.2) ps ++ [(((A * (q.2 * prodB ps) * p.2 : Nat) : Int), upI 0 (A * (q.2 * prodB ps) * p.1))])
    rw [evenL_snoc (A * q.2) ps p, Nat.mul_assoc A q.2]
theorem even_digs : ∀ {A : Nat} {ps : List Sh}, 0 < A → (∀ p ∈ ps, Frac p) → Digs A (evenL A ps) (A * prodB ps) (prodT ps)
  | A, [], _, _ => by
    show Digs A [] (A * 1) 1
    rw [Nat.mul_one]
    exact .nil
  | A, p :: ps, hA, h => by
    have f := h p List.mem_cons_self
    have f0 := f.a0
    have f1 := f.a1
    have ih := even_digs (A := A * p.2) (ps := ps) (Nat.mul_pos hA (by omega)) fun q hq => h q (List.mem_cons_of_mem _ hq)
    have e : A * prodB (p :: ps) = A * p.2 * prodB ps := by
      show A * (p.2 * prodB ps) = _
      rw [Nat.mul_assoc]
    rw [e]
    refine .cons (a := p.1) ⟨by omega, by omega, rfl, 0, fun o t => ?_⟩ ih
    unfold sndB
    dsimp only
    have n0 : 0 < ((A * p.2 : Nat) : Int) := by
      have := Nat.mul_pos hA (show 0 < p.2 by omega)
      omega
    have r0 := Int.emod_nonneg (t - o) (show ((A * p.2 : Nat) : Int) ≠ 0 by omega)
    rw [Bool.eq_iff_iff, decide_eq_true_iff, decide_eq_true_iff, mem_upI, show t - o - 0 = t - o by omega]
    omega
theorem even_beats : ∀ {A : Nat} {ps : List Sh}, 0 < A → (∀ p ∈ ps, Frac p) → A * prodB ps ≤ 60 → ∀ q ∈ evenL A ps, Beat q.1 q.2
  | A, [], _, _, _, q, hq => absurd hq List.not_mem_nil
  | A, p :: ps, hA, h, hl, q, hq => by
    have f := h p List.mem_cons_self
    have f0 := f.a0
    have f1 := f.a1
    have e : A * prodB (p :: ps) = A * p.2 * prodB ps := by
      show A * (p.2 * prodB ps) = _
      rw [Nat.mul_assoc]
    rw [e] at hl
    have hs : ∀ r ∈ ps, Frac r := fun r hr => h r (List.mem_cons_of_mem _ hr)
    have pos := prodB_pos hs
    have le : A * p.2 ≤ 60 := Nat.le_trans (Nat.le_mul_of_pos_right _ pos) hl
    rcases List.mem_cons.mp hq with z | hq
    · rw [z]
      have lt : A * p.1 < A * p.2 := Nat.mul_lt_mul_of_pos_left f1 hA
      have g0 : 0 < A * p.1 := Nat.mul_pos hA f0
      refine ⟨by show 2 ≤ ((A * p.2 : Nat) : Int); omega, by show ((A * p.2 : Nat) : Int) ≤ 60; omega, fun s hs => ?_, upI_asc _ _, fun z => ?_, ?_⟩
      · have := mem_upI.mp hs
        show 0 ≤ s ∧ s < ((A * p.2 : Nat) : Int)
        omega
      · have := congrArg List.length z
        rw [upI_len] at this
        have : A * p.1 = 0 := this
        omega
      · show ((upI 0 (A * p.1)).length : Int) < ((A * p.2 : Nat) : Int)
        rw [upI_len]
        omega
    · exact even_beats (Nat.mul_pos hA (by omega)) hs hl q hq
theorem even_crowd {ps : List Sh} (h : Shares ps) : Crowd (evenL 1 ps) := ⟨by rw [evenL_len]; exact h.l0, by rw [evenL_len]; exact h.l1, even_beats (by decide) h.all (by have := h.few; omega)⟩
theorem even_at : ∀ {A : Nat} {ps : List Sh} {i : Nat} {q : Pt} {p : Sh}, (evenL A ps)[i]? = some q → ps[i]? = some p → (q.2.length : Int) * ((p.2 : Nat) : Int) = ((p.1 : Nat) : Int) * q.1
  | A, [], i, q, p, h, _ => by simp [evenL] at h
  | A, r :: ps, 0, q, p, h, h2 => by
    have e1 : (((A * r.2 : Nat) : Int), upI 0 (A * r.1)) = q := Option.some.inj h
    have e2 : r = p := Option.some.inj h2
    subst e1 e2
    show ((upI 0 (A * r.1)).length : Int) * ((r.2 : Nat) : Int) = ((r.1 : Nat) : Int) * ((A * r.2 : Nat) : Int)
    rw [upI_len, ← Int.natCast_mul, ← Int.natCast_mul]
    congr 1
    rw [Nat.mul_comm A r.1, Nat.mul_assoc]
  | A, r :: ps, i + 1, q, p, h, h2 => even_at (A := A * r.2) (ps := ps) (i := i) h h2
theorem even_last : ∀ {A : Nat} {ps : List Sh}, ps ≠ [] → ∃ q ∈ evenL A ps, q.1 = ((A * prodB ps : Nat) : Int)
  | A, [], h => absurd rfl h
  | A, [p], _ => ⟨_, List.mem_cons_self, by show ((A * p.2 : Nat) : Int) = ((A * (p.2 * 1) : Nat) : Int); rw [Nat.mul_one]⟩
  | A, p :: r :: ps, _ => by
    obtain ⟨q, hq, e⟩ := even_last (A := A * p.2) (ps := r :: ps) (by simp)
    refine ⟨q, List.mem_cons_of_mem _ hq, ?_⟩
    rw [e]
    show ((A * p.2 * prodB (r :: ps) : Nat) : Int) = ((A * (p.2 * prodB (r :: ps)) : Nat) : Int)
    rw [Nat.mul_assoc]
theorem even_span {ps : List Sh} (h : Shares ps) : spanN (evenL 1 ps) = prodB ps := by
  have d := even_digs (A := 1) (by decide) h.all
  rw [Nat.one_mul] at d
  have dv := (digs_dvd d).2
  have l0 := h.l0
  obtain ⟨r, hr, er⟩ := even_last (A := 1) (ps := ps) (fun z => by rw [z] at l0; exact absurd l0 (by decide))
  rw [Nat.one_mul] at er
  have pos := prodB_pos h.all
  have W : Whole (evenL 1 ps) ((prodB ps : Nat) : Int) := ⟨by omega, dv, fun x x1 hx => by
    have := hx r hr
    rw [er] at this
    exact Int.le_of_dvd (by omega) this⟩
  have := (span_whole (evenL 1 ps) (crowd_pos (even_crowd h))).unique W
  omega
theorem even_quiet {ps : List Sh} (h : Shares ps) (os : List Int) (hl : os.length = ps.length) : kindN (evenL 1 ps) (-1) os = prodT ps := by
  have d := even_digs (A := 1) (by decide) h.all
  rw [Nat.one_mul] at d
  exact digs_even d (List.Perm.refl _) (even_span h) os (by rw [evenL_len]; exact hl)
theorem shares_tidy {ps : List Sh} (h : Shares ps) : Tidy (sharesD ps) 2 1000 := by
  have l1 := h.l1
  have z := tidyAll_of (ds := ps.map fracD) (p := 1) (w := 100) fun d hd => by
    obtain ⟨p, hp, rfl⟩ := List.mem_map.mp hd
    have a := share_60 h p hp
    have b := (h.all p hp).a1
    exact (tidy_tup (tidyAll_cons (tidy_int (i := ((p.1 : Nat) : Int)) (by omega)) (tidyAll_cons (tidy_int (i := ((p.2 : Nat) : Int)) (by omega)) tidyAll_nil))).mono (by omega) (by omega)
  refine (tidy_tup z).mono (by omega) ?_
  rw [List.length_map]
  have : ps.length * 101 ≤ 4 * 101 := Nat.mul_le_mul_right _ l1
  omega
theorem shares_inj {ps qs : List Sh} (h : sharesD ps = sharesD qs) : ps = qs := by
  unfold sharesD at h
  injection h with h
  refine (List.map_inj_right fun a b e => ?_).mp h
  unfold fracD at e
  injection e with e
  injection e with e1 e2
  injection e2 with e2 _
  injection e1 with e1
  injection e2 with e2
  exact Prod.ext (by omega) (by omega)
theorem prodI_B : ∀ ps : List Sh, prodI (ps.map fun p => ((p.2 : Nat) : Int)) = ((prodB ps : Nat) : Int)
  | [] => rfl
  | p :: ps => by
    show ((p.2 : Nat) : Int) * prodI (ps.map fun p => ((p.2 : Nat) : Int)) = ((p.2 * prodB ps : Nat) : Int)
    rw [prodI_B ps, Int.natCast_mul]
theorem put_box (t : Int) : ∀ {ps : List Pt} {os : List Int}, (∀ q ∈ ps, 0 < q.1) → os.length = ps.length → Box (putL ps os t) (ps.map (·.1))
  | [], [], _, _ => trivial
  | [], _ :: _, _, h => nomatch h
  | _ :: _, [], _, h => nomatch h
  | q :: ps, r :: os, hb, h => by
    have q0 := hb q List.mem_cons_self
    exact ⟨⟨Int.emod_nonneg _ (show q.1 ≠ 0 by omega), Int.emod_lt_of_pos _ q0⟩, put_box t (fun x hx => hb x (List.mem_cons_of_mem _ hx)) (Nat.succ.inj h)⟩
theorem zero_first {p : Pt} {ps : List Pt} {os : List Int} (hp : 0 < p.1) (ho : Offs (p :: ps) os) (hb : ∀ q ∈ ps, 0 < q.1) : ∃ qs, qs ∈ belowL (ps.map (·.1)) ∧ kindN (p :: ps) (-1) (0 :: qs) = kindN (p :: ps) (-1) os := by
  cases os with
  | nil => cases ho.len
  | cons o os =>
    have hl : os.length = ps.length := Nat.succ.inj ho.len
    refine ⟨putL ps os (-o), mem_below.mpr (put_box _ hb hl), ?_⟩
    · have := kind_put (ps := p :: ps) (fun q hq => by
        rcases List.mem_cons.mp hq with e | hq
        · rw [e]
          exact hp
        · exact hb q hq) (o :: os) (-o) (-1)
      rw [← this]
      congr 1
      show 0 :: putL ps os (-o) = (o + -o) % p.1 :: putL ps os (-o)
      rw [Int.add_right_neg, Int.zero_emod]
theorem below_offs {p : Pt} {ps : List Pt} {qs : List Int} (hp : 0 < p.1) (h : qs ∈ belowL (ps.map (·.1))) : Offs (p :: ps) (0 :: qs) := by
  have hb := mem_below.mp h
  have key : ∀ (ps : List Pt) (qs : List Int), Box qs (ps.map (·.1)) → qs.length = ps.length ∧ ∀ q ∈ qs.zip ps, 0 ≤ q.1 ∧ q.1 < q.2.1 := by
    intro ps
    induction ps with
    | nil =>
      intro qs h
      cases qs with
      | nil => exact ⟨rfl, fun q hq => absurd hq List.not_mem_nil⟩
      | cons _ _ => exact h.elim
    | cons r ps ih =>
      intro qs h
      cases qs with
      | nil => exact h.elim
      | cons x qs =>
        obtain ⟨a, b⟩ := ih qs h.2
        refine ⟨congrArg Nat.succ a, fun q hq => ?_⟩
        rcases List.mem_cons.mp hq with e | hq
        · rw [e]
          exact h.1
        · exact b q hq
  obtain ⟨a, b⟩ := key ps qs hb
  refine ⟨congrArg Nat.succ a, fun q hq => ?_⟩
  rcases List.mem_cons.mp hq with e | hq
  · rw [e]
    exact ⟨Int.le_refl _, hp⟩
  · exact b q hq
theorem b_sum {K : PySem.W.Frag} {R : Dt → Prop} {ns : List Int} (r : R (.int ns.sum)) : CbD K (L2.rSum K) [.dat (.list (ns.map .int))] R := fun ω G H vs Q k h q => by
  obtain ⟨v, rfl, rv⟩ := rel1 h
  obtain ⟨a, xs, rfl, hs, ra⟩ := rv.list_inv
  obtain rfl := ra.ints
  exact ⟨a, ns, rfl, .inl (.inl (k.1 _ _ hs)), q _ _ G H (Same.refl G) k (.int _) r⟩
end DW
namespace DW
open PySem PySem.Spec PyProof.Rows L2
variable [Tabl]
/-! ### a class is the least of its offsets put off; the first offsets that are shut out are a class -/
theorem box_least : ∀ {ps : List Pt} {os : List Int} {s : Nat} {t : Int}, (∀ p ∈ ps, 0 < p.1) → ((s : Nat) : Int) ∣ t → Box os (sizesF s ps) → lexle os (putL ps os t)
  | [], [], _, _, _, _, _ => lexle_refl []
  | [], _ :: _, _, _, _, _, hb => hb.elim
  | _ :: _, [], _, _, _, _, hb => hb.elim
  | p :: ps, o :: os, s, t, h, ht, hb => by
    obtain ⟨⟨o0, o1⟩, hb2⟩ := hb
    have p0 := h p List.mem_cons_self
    show o < (o + t) % p.1 ∨ (o = (o + t) % p.1 ∧ lexle os (putL ps os t))
    have gp : 0 < Nat.gcd s p.1.natAbs := Nat.gcd_pos_of_pos_right _ (by omega)
    have gle : Nat.gcd s p.1.natAbs ≤ p.1.natAbs := Nat.le_of_dvd (by omega) (Nat.gcd_dvd_right _ _)
    have g1 : ((Nat.gcd s p.1.natAbs : Nat) : Int) ∣ t := Int.dvd_trans (Int.natCast_dvd_natCast.mpr (Nat.gcd_dvd_left _ _)) ht
    have g2 : ((Nat.gcd s p.1.natAbs : Nat) : Int) ∣ p.1 := Int.ofNat_dvd_left.mpr (Nat.gcd_dvd_right _ _)
    have r0 := Int.emod_nonneg (o + t) (show p.1 ≠ 0 by omega)
    have d : ((Nat.gcd s p.1.natAbs : Nat) : Int) ∣ (o + t) % p.1 - o := by
      rw [Int.emod_def, show o + t - p.1 * ((o + t) / p.1) - o = t - p.1 * ((o + t) / p.1) by omega]
      exact Int.dvd_sub g1 (Int.dvd_mul_of_dvd_left g2)
    generalize hg : Nat.gcd s p.1.natAbs = g at *
    by_cases c : o < (o + t) % p.1
    · exact .inl c
    · refine .inr ?_
      obtain ⟨k, hk⟩ := d
      have e : (o + t) % p.1 = o := by
        have b1 : -(g : Int) < g * k := by omega
        have b2 : (g : Int) * k ≤ 0 := by omega
        have k1 : -1 < k := Int.lt_of_mul_lt_mul_left (a := (g : Int)) (by rw [Int.mul_neg, Int.mul_one]; exact b1) (by omega)
        have k2 : k < 1 := Int.lt_of_mul_lt_mul_left (a := (g : Int)) (by omega) (by omega)
        have : k = 0 := by omega
        rw [this, Int.mul_zero] at hk
        omega
      refine ⟨e.symm, box_least (s := Nat.lcm s p.1.natAbs) (fun q hq => h q (List.mem_cons_of_mem _ hq)) ?_ hb2⟩
      have d2 := mod_dvd (n := p.1) (x := o + t) (y := o) (by rw [e]; exact (Int.emod_eq_of_lt o0 (by omega)).symm)
      rw [show o + t - o = t by omega] at d2
      exact Int.ofNat_dvd_left.mpr (Nat.lcm_dvd (Int.ofNat_dvd_left.mp ht) (Int.natAbs_dvd_natAbs.mpr d2))
theorem put_back : ∀ {ps : List Pt} {os : List Int} {t : Int}, Box os (ps.map (·.1)) → putL ps (putL ps os t) (-t) = os
  | [], [], _, _ => rfl
  | [], _ :: _, _, hb => hb.elim
  | _ :: _, [], _, hb => hb.elim
  | p :: ps, o :: os, t, hb => by
    obtain ⟨⟨o0, o1⟩, hb2⟩ := hb
    show ((o + t) % p.1 + -t) % p.1 :: putL ps (putL ps os t) (-t) = o :: os
    rw [put_back hb2, em_add, show o + t + -t = o by omega, Int.emod_eq_of_lt o0 o1]
theorem box_wide : ∀ {ps : List Pt} {os : List Int} {s : Nat}, (∀ p ∈ ps, 0 < p.1) → Box os (sizesF s ps) → Box os (ps.map (·.1))
  | [], [], _, _, _ => trivial
  | [], _ :: _, _, _, hb => hb.elim
  | _ :: _, [], _, _, hb => hb.elim
  | p :: ps, o :: os, s, h, hb => by
    obtain ⟨⟨o0, o1⟩, hb2⟩ := hb
    have p0 := h p List.mem_cons_self
    have gle : Nat.gcd s p.1.natAbs ≤ p.1.natAbs := Nat.le_of_dvd (by omega) (Nat.gcd_dvd_right _ _)
    exact ⟨⟨o0, by show o < p.1; omega⟩, box_wide (fun q hq => h q (List.mem_cons_of_mem _ hq)) hb2⟩
theorem class_zero {p : Pt} {ps : List Pt} {os : List Int} (h : ∀ q ∈ p :: ps, 0 < q.1) (ho : os ∈ classL (p :: ps)) : ∃ qs ∈ belowL (ps.map (·.1)), os = 0 :: qs := by
  have hb : Box os (sizesF 1 (p :: ps)) := mem_below.mp ho
  cases os with
  | nil => exact hb.elim
  | cons o os =>
    obtain ⟨⟨o0, o1⟩, hb2⟩ := hb
    rw [Nat.gcd_one_left] at o1
    exact ⟨os, mem_below.mpr (box_wide (fun q hq => h q (List.mem_cons_of_mem _ hq)) hb2), by rw [show o = 0 by omega]⟩
theorem zero_lt {a b : List Int} : (0 : Int) :: a < 0 :: b ↔ a < b := by
  rw [List.cons_lt_cons_iff]
  constructor
  · rintro (h | ⟨_, h⟩)
    · omega
    · exact h
  · exact fun h => .inr ⟨rfl, h⟩
/-- the first one of all offsets with 0 ahead that has no tick of the kind is a class, and the least one -/
theorem first_class {p : Pt} {ps : List Pt} {k : Int} {j : Nat} {qs : List Int} (h : ∀ q ∈ p :: ps, 0 < q.1) (hj : (belowL (ps.map (·.1)))[j]? = some qs) (hz : kindN (p :: ps) k (0 :: qs) = 0)
    (hin : ∀ m, m < j → ∀ r, (belowL (ps.map (·.1)))[m]? = some r → kindN (p :: ps) k (0 :: r) ≠ 0) :
    (0 :: qs) ∈ classL (p :: ps) ∧ ∀ os ∈ classL (p :: ps), kindN (p :: ps) k os = 0 → ¬ os < 0 :: qs := by
  have asc := below_asc (ps.map (·.1))
  have later : ∀ r ∈ belowL (ps.map (·.1)), kindN (p :: ps) k (0 :: r) = 0 → r = qs ∨ qs < r := fun r hr hk => by
    obtain ⟨m, hm⟩ := List.mem_iff_getElem?.mp hr
    rcases Nat.lt_trichotomy m j with c | c | c
    · exact absurd hk (hin m c r hm)
    · subst c
      rw [hj] at hm
      exact .inl (Option.some.inj hm).symm
    · obtain ⟨j0, e0⟩ := List.getElem?_eq_some_iff.mp hj
      obtain ⟨m0, e1⟩ := List.getElem?_eq_some_iff.mp hm
      have := List.pairwise_iff_getElem.mp asc j m j0 m0 c
      rw [e0, e1] at this
      exact .inr this
  have qb := mem_below.mp (List.mem_of_getElem? hj)
  have p0 := h p List.mem_cons_self
  have box : Box (0 :: qs) ((p :: ps).map (·.1)) := ⟨⟨Int.le_refl _, p0⟩, qb⟩
  have len : (0 :: qs).length = (p :: ps).length := by
    have := box.len
    rw [List.length_map] at this
    exact this
  have least : ∀ os ∈ classL (p :: ps), kindN (p :: ps) k os = 0 → ¬ os < 0 :: qs := fun os ho hk hlt => by
    obtain ⟨r, hr, rfl⟩ := class_zero h ho
    have hlt := zero_lt.mp hlt
    rcases later r hr hk with e | e
    · rw [e] at hlt
      exact llt_irrefl _ hlt
    · exact llt_irrefl _ (llt_trans hlt e)
  refine ⟨?_, least⟩
  obtain ⟨t, ht⟩ := class_ex h len
  have hk : kindN (p :: ps) k (putL (p :: ps) (0 :: qs) t) = 0 := by
    rw [kind_put h]
    exact hz
  obtain ⟨cs, hcs, e⟩ := class_zero h ht
  have le := box_least (s := 1) (t := -t) h (by exact Int.one_dvd _) (mem_below.mp ht)
  rw [put_back box] at le
  have nlt := lexle_lt le
  rw [e] at nlt hk
  rcases later cs hcs hk with z | z
  · rw [e, z] at ht
    exact ht
  · exact absurd (zero_lt.mpr z) nlt
/-- the smallest classes in which who gets no tick, or none -/
def ShutQ (ps : List Pt) (w : Int) (r : Dt) : Prop := (∃ os ∈ classL ps, r = offsD os ∧ kindN ps w os = 0 ∧ ∀ qs ∈ classL ps, kindN ps w qs = 0 → ¬ qs < os) ∨ (r = .none ∧ ∀ qs ∈ classL ps, kindN ps w qs ≠ 0)
/-- a group whose classes may be walked -/
def FitQ (ps : List Pt) : Prop := Crowd ps ∧ spanN ps ≤ 420 ∧ prodI (sizesL ps) ≤ 240 ∧ prodQ ps ≤ 100000
/-- patterns of one period -/
theorem same_fit {ps : List Pt} {c : Int} (hc : Crowd ps) (h : ∀ p ∈ ps, p.1 = c) (c0 : 2 ≤ c) (c1 : c ≤ 60) (hl : c ^ (ps.length - 1) ≤ 240) : FitQ ps := by
  have l0 := hc.l0
  have l1 := hc.l1
  obtain ⟨p, hp⟩ : ∃ p, p ∈ ps := by
    cases ps with
    | nil => exact absurd l0 (by decide)
    | cons p ps => exact ⟨p, List.mem_cons_self⟩
  have W : Whole ps c := ⟨by omega, fun q hq => by rw [h q hq]; exact Int.dvd_refl _, fun x x1 hx => by
    have := hx p hp
    rw [h p hp] at this
    exact Int.le_of_dvd (by omega) this⟩
  have sp : ((spanN ps : Nat) : Int) = c := (span_whole ps (crowd_pos hc)).unique W
  have pq : ∀ qs : List Pt, (∀ q ∈ qs, q.1 = c) → prodQ qs = c ^ qs.length := fun qs => by
    induction qs with
    | nil => exact fun _ => (Int.pow_zero c).symm
    | cons q qs ih =>
      intro hq
      show q.1 * prodQ qs = c ^ (qs.length + 1)
      rw [ih fun r hr => hq r (List.mem_cons_of_mem _ hr), hq q List.mem_cons_self, Int.pow_succ, Int.mul_comm]
  have e := class_number (crowd_pos hc)
  rw [sp, pq ps h, show ps.length = ps.length - 1 + 1 by omega, Int.pow_succ] at e
  have e2 := Int.eq_of_mul_eq_mul_right (by omega) e
  have q2 := pq ps h
  rw [show ps.length = ps.length - 1 + 1 by omega, Int.pow_succ] at q2
  have pos : 0 < c ^ (ps.length - 1) := Int.pow_pos (by omega)
  have le : c ^ (ps.length - 1) * c ≤ 240 * 60 := Int.le_trans (Int.mul_le_mul_of_nonneg_right hl (by omega)) (Int.mul_le_mul_of_nonneg_left c1 (by omega))
  exact ⟨hc, by omega, by rw [e2]; exact hl, by rw [q2]; omega⟩
end DW
namespace DW
open PySem PySem.Spec PyProof.Rows L2
variable [Tabl]
/-! ### a lambda with parameters: made, run -/
/-- a lambda's function object at f -/
def LamO (f : Addr) (q : Str) (params : Arguments) (body : Expr) (scope : Scope) (c : Addr) : HO :=
  .ext fun h => ∃ pm ctv : Value, h.get? f = some (PySem.W.kla_obj "<lambda>" q params body scope [] pm c ctv)
theorem lamO_ok {P : Program} {w : World} {H : Hp} {h : Heap} {f c : Addr} {q : Str} {params : Arguments} {body : Expr} {scope : Scope} {pm ctv : Value} (e : h.get? f = some (PySem.W.kla_obj "<lambda>" q params body scope [] pm c ctv)) :
    ObjOk P w H h f (LamO f q params body scope c) := ⟨⟨pm, ctv, e⟩, ⟨_, e⟩, fun h1 h2 ⟨pm', ctv', z⟩ st => ⟨pm', ctv', st _ z⟩⟩
/-- the scope of a lambda: its parameters alone, nothing that is caught -/
def tLamV (P : Addr) (q : Str) (params : Arguments) (body : Expr) (scope : Scope) : TE := fun σ H Q => (P, q) ∈ Tabl.l ∧ (∀ t ∈ Tabl.l, t.1 = P → t.2 = q) ∧ LamX.Tabs Tabl.l H ∧
  ∀ (f c : Addr) (H1 : Hp), LamX.ExtN H H1 → LamX.Tabs Tabl.l H1 → H f = none → H1 f = some (LamO f q params body scope c) → H1 c = some (LamX.CodeO c q) → Q (.ref f) H1
theorem tabs_new {T : List (Addr × Str)} {H : Hp} {f : Addr} {o : HO} (t : LamX.Tabs T H) (hf : H f = none) : LamX.Tabs T (upd H f o) :=
  t.ext fun b u e => by
    rw [upd_ne (ne_of_none e hf)]
    exact e
theorem pe_lam {X : Cx} {c P : Addr} {q : Str} {params : Arguments} {body : Expr} {scope : Scope} {pos : Pos} (TB : LamX.TabB X.base X.mg c P) (hcode : X.env.code = .ref c) (hq : X.env.qual ++ "<lambda>" = q) (hdef : defaultsOf params X.env = ([], []))
    (hfree : ∀ y ∈ scope.names, y.2 ≠ .free) (hcl : ∀ cells, cloFrom cells scope.names [] = []) : PE X (.Lambda params body scope pos) (tLamV P q params body scope) := by
  subst hq
  refine ⟨fun pins s σ H Q I h => ?_⟩
  obtain ⟨hm, hu, hT, h⟩ := h
  obtain ⟨ps, tabP, trip, among⟩ := hT _ hm
  have heapP : s.heap.get? P = some { cls := .none, data := .fields ps } := I.hok P _ tabP
  have bat : s.heap.BuiltinsAt X.mg P := TB.bm.keeps I.bk
  have noClo : ∀ y ∈ scope.names, y.2 = .free → ∃ d, X.env.cells.lookup y.1 = some d := fun y hy e => absurd e (hfree y hy)
  -- the function's object goes to a new place, and is held from then on
  have fin : ∀ (f d : Addr) (pm ctv : Value) (H1 : Hp) (g : Heap) (tk : Nat), Inv X pins σ H1 { s with heap := g.push (PySem.W.kla_obj "<lambda>" (X.env.qual ++ "<lambda>") params body scope [] pm d ctv), toks := tk } →
      f = g.objs.size → s.heap.objs.size ≤ f → LamX.ExtN H H1 → LamX.Tabs Tabl.l H1 → H1 f = none → H1 d = some (LamX.CodeO d (X.env.qual ++ "<lambda>")) →
      EP X pins σ Q (.ref f) { s with heap := g.push (PySem.W.kla_obj "<lambda>" (X.env.qual ++ "<lambda>") params body scope [] pm d ctv), toks := tk } := fun f d pm ctv H1 g tk J ef hge eN t1 nf hd => by
    have at_f : (g.push (PySem.W.kla_obj "<lambda>" (X.env.qual ++ "<lambda>") params body scope [] pm d ctv)).get? f = some (PySem.W.kla_obj "<lambda>" (X.env.qual ++ "<lambda>") params body scope [] pm d ctv) := by
      rw [ef]
      exact Heap.get?_push_size _ rfl
    have J2 := J.take (t' := tk) (o := LamO f (X.env.qual ++ "<lambda>") params body scope d) (fun b ob _ e => e) (I.fpOk (H' := H1) hge nf) (lamO_ok at_f)
    have ne : d ≠ f := ne_of_none hd nf
    refine ⟨.ref f, _, J2, rfl, h f d _ (fun b u e n => ?_) (tabs_new t1 nf) (I.hok.fresh hge) upd_same (by rw [upd_ne ne]; exact hd)⟩
    rw [upd_ne (ne_of_none (eN b u e n) nf)]
    exact eN b u e n
  refine PySem.W.kla_eval hdef ?_
  rcases hca : codeAmong pos ps.toList with _ | cv
  · refine PySem.W.kla_makeFunction (mg := X.mg) (c := c) (P := P) (ps := ps) (closure_ok noClo) I.ok.glob (I.mod.glob.keeps I.bk) hcode (TB.code.keeps I.bk) heapP trip hca TB.gP bat fun d ctv g tk hx hge hlt hrec htb => ?_
    obtain ⟨d', oc, ws, tt, ed, hoc, hdat, hnm⟩ := hrec
    cases ed
    rw [hcl]
    have nd : H d = none := I.hok.fresh hge
    have sz : s.heap.objs.size ≤ g.objs.size := Nat.le_trans hge (Nat.le_of_lt hlt)
    have J := LamX.inv_table (t' := tk) (q := X.env.qual ++ "<lambda>") (more := #[rawInt pos.line, rawInt pos.col, .ref d])
      (h' := g.push (PySem.W.kla_obj "<lambda>" (X.env.qual ++ "<lambda>") params body scope [] ((X.mg "__name__").getD .none) d ctv)) I tabP
      (fun b o hb e => Heap.get?_push_of_some _ (hx b o hb e)) (Heap.get?_push_of_some _ htb) hge ⟨oc, ws, tt, Heap.get?_push_of_some _ hoc, hdat, hnm⟩
    have eN : LamX.ExtN H (upd (upd H P (.tbl (ps ++ #[rawInt pos.line, rawInt pos.col, .ref d]))) d (LamX.CodeO d (X.env.qual ++ "<lambda>"))) := fun b o e n => by
      have nb : b ≠ P := fun z => by
        rw [z, tabP] at e
        exact n ps (Option.some.inj e).symm
      rw [upd_ne (ne_of_none e nd), upd_ne nb]
      exact e
    refine fin g.objs.size d _ ctv _ g tk J rfl sz eN (fun t ht => ?_) ?_ upd_same
    · by_cases hb : t.1 = P
      · have lst : (ps ++ #[rawInt pos.line, rawInt pos.col, Value.ref d]).toList = ps.toList ++ [rawInt pos.line, rawInt pos.col, .ref d] := by simp
        rw [hu t ht hb, hb]
        refine ⟨_, by rw [upd_ne (ne_of_none tabP nd), upd_same], by rw [lst]; exact PySem.TriplesOk_snoc _ _ _ _ trip, fun p' cv hcv => ?_⟩
        rw [lst] at hcv
        rcases LamX.among_app _ trip hcv with z | z
        · obtain ⟨c0, e1, e2⟩ := among p' cv z
          exact ⟨c0, e1, eN _ _ e2 LamX.codeO_ne⟩
        · exact ⟨d, z, upd_same⟩
      · obtain ⟨qs, a1, a2, a3⟩ := hT t ht
        refine ⟨qs, by rw [upd_ne (ne_of_none a1 nd), upd_ne hb]; exact a1, a2, fun p' cv hcv => ?_⟩
        obtain ⟨c0, e1, e2⟩ := a3 p' cv hcv
        exact ⟨c0, e1, eN _ _ e2 LamX.codeO_ne⟩
    · have n1 : g.objs.size ≠ d := Nat.ne_of_gt hlt
      have n2 : g.objs.size ≠ P := Nat.ne_of_gt (Nat.lt_of_lt_of_le (Heap.lt_size heapP) sz)
      rw [upd_ne n1, upd_ne n2]
      exact I.hok.fresh sz
  · obtain ⟨d, e, hco⟩ := among pos cv hca
    subst e
    refine PySem.W.kla_makeFunctionHit (mg := X.mg) (c := c) (P := P) (ps := ps) (closure_ok noClo) I.ok.glob (I.mod.glob.keeps I.bk) hcode (TB.code.keeps I.bk) heapP trip hca bat fun ctv g tk hx hsz => ?_
    rw [hcl]
    have J : Inv X pins σ H { s with heap := g.push (PySem.W.kla_obj "<lambda>" (X.env.qual ++ "<lambda>") params body scope [] ((X.mg "__name__").getD .none) d ctv), toks := tk } := I.kept fun b o e => Heap.get?_push_of_some _ (hx b o e)
    exact fin g.objs.size d _ ctv _ g tk J rfl hsz (LamX.ExtN.refl H) hT (I.hok.fresh hsz) hco
section
variable {P : Program} {w : World} {K : PySem.W.Frag} {mg : Str → Option Value} {base : Heap} {A : Around} {outer : List Env} {s : Shared} {H : Hp}
theorem lam_run {N ps : List Str} {k : Nat} {f c : Addr} {q : Str} {params : Arguments} {body : Expr} {scope : Scope} {us : List Value} {vs : List V} {t : TE} {Q : VK} {E : XK} (S : FnScope N ps scope)
    (hc : H c = some (LamX.CodeO c q)) (hf : H f = some (LamO f q params body scope c)) (hr : Room (k + 1) A) (e0 : Env0 P w K mg base A outer s H)
    (hb : ∀ pm ctv, bindArgs (PySem.W.kla_fn "<lambda>" q params body scope [] pm (.ref c) ctv) ⟨us, []⟩ = pure (ps.zip us)) (r : Vals vs us) (hl : vs.length = ps.length)
    (hbody : Room k (A.deeper (envOfC q scope s.heap.objs.size f (.ref c))) → PE (cxOf CX0 P w K mg base N q scope f (.ref c) A outer s H E) body t) (ht : t (L2.start N vs) H Q) :
    codeAny (model P w) A (.call (.ref f) ⟨us, []⟩) (CR CX0 outer P w H s Q E) s := by
  obtain ⟨⟨oc, ws, tk, hoc, hdc, hvc⟩, _, _⟩ := e0.hok c _ hc
  obtain ⟨⟨pm, ctv, hfo⟩, _, _⟩ := e0.hok f _ hf
  have lim : s.heap.NoLimit := e0.mod.nolimit.keeps fun b o e => (e0.bs b o e).1
  have kinds : ∀ y ∈ ps.zip us, scope.names.lookup y.1 = some .local ∨ (scope.names.lookup y.1 = some .cell ∧ ((cellsFrom (s.heap.objs.size + 1) scope.names []).lookup y.1).isSome = true) := fun y hy => by
    rcases S.par y.1 (List.of_mem_zip (a := y.1) (b := y.2) hy).1 with z | z
    · exact .inl z
    · exact .inr ⟨z, PySem.W.cellsFrom_some _ _ _ (.inl z)⟩
  refine PySem.W.kla_callFunE hr.depth hfo rfl S.co S.gen rfl ⟨c, oc, ws, tk, rfl, hoc, hdc, hvc⟩ ?_
  rw [hb]
  refine wpAny_pure (wpAny_newFunctionEnv_cells S.kind kinds fun env he s1 x => ?_)
  subst he
  refine ⟨lim.keeps x.toInCall.keep, PySem.W.kla_codeExpr ?_⟩
  have I : Inv (cxOf CX0 P w K mg base N q scope f (.ref c) A outer s H E) [] (L2.start N vs) H s1 := inv_start S hr.hd e0 hl r x
  refine wpAny_mono ((hbody (hr.deeper _)).run [] s1 _ H Q I ht) (fun v s' z => ?_) fun e s' z => z
  obtain ⟨v', H', J, rv, qv⟩ := z
  exact ⟨v', H', J.os, J.bare, J.base, J.hok, rv, qv⟩
end
/-- the lambda behind key= in a def's last row -/
def lamE (st : Stmt) : Option Expr := match (defBody st).getLast? with
  | some (.Return (some (.Call _ _ (k :: _) _)) _) => some k.value
  | _ => none
def lamP : Option Expr → Arguments
  | some (.Lambda a _ _ _) => a
  | _ => { posonlyargs := [], args := [], vararg := none, kwonlyargs := [], kw_defaults := [], kwarg := none, defaults := [] }
def lamB : Option Expr → Expr
  | some (.Lambda _ b _ _) => b
  | some e => e
  | none => .Constant .none 0 ⟨0, 0, 0, 0⟩
def lamS : Option Expr → Scope
  | some (.Lambda _ _ s _) => s
  | _ => defScope (.Pass ⟨0, 0, 0, 0⟩)
/-! ### max(xs, key=lambda row: ..) where the keys are ints -/
/-- what is asked of the key at an item x: it runs, in H, to the int z -/
def KeyAt (X : Cx) (N : List Str) (k : Nat) (q : Str) (scope : Scope) (body : Expr) (t : TE) : Prop :=
  ∀ (A : Around) (outer : List Env) (s : Shared) (H : Hp) (f c : Addr), Room k (A.deeper (envOfC q scope s.heap.objs.size f (.ref c))) → PE (cxOf CX0 X.prog X.w X.K X.mg X.base N q scope f (.ref c) A outer s H (fun _ _ _ => False)) body t
def rMaxKey (K : PySem.W.Frag) (N : List Str) (q : Str) (params : Arguments) (body : Expr) (scope : Scope) (t : TE) : List V → List V → Hp → VK → Prop := fun vs zs H Q =>
  ∃ (a f c : Addr) (xs : List V) (key : Nat → Int), vs = [.ref a] ∧ zs = [.ref f] ∧ SqL K H a xs ∧ 0 < xs.length ∧ H f = some (LamO f q params body scope c) ∧ H c = some (LamX.CodeO c q) ∧
    (∀ i x, xs[i]? = some x → ∀ Q' : VK, Q' (.int (key i)) H → t (L2.start N [x]) H Q') ∧ ∀ i x, i = argBest (fun i j => decide (key i > key j)) (xs.length - 1) → xs[i]? = some x → Q x H
/-- a walk over a list whose cells may be written anew, with the same values -/
theorem walks_live {prog : Program} {w : World} {A : Around} (hh : A.handled = none) {I a : Addr} (ne : a ≠ I) (xs : List V) :
    WalksS prog w A I [I, a] [I] (fun g g' => g' = g) xs.length (fun i v => ∃ x, xs[i]? = some x ∧ RelV x v) (fun i s' => s'.heap.IsListIter I a i ∧ ∃ its : List Value, Vals xs its ∧ s'.heap.IsList a its.toArray) where
  sub := fun b hb => by simp at hb; simp [hb]
  grefl := fun _ => rfl
  gtrans := fun _ _ _ h1 h2 => h2.trans h1
  frame := fun i s h' tk ⟨st, its, rv, hl⟩ _ hk => ⟨st.at fun o e => hk I (by simp) o e, its, rv, hl.at fun o e => hk a (by simp) o e⟩
  item := fun i s Q E hi ⟨st, its, rv, hl⟩ cont => by
    have hlen : its.toArray.size = xs.length := by rw [List.size_toArray]; exact rv.length.symm
    refine (Walks.list (prog := prog) (w := w) hh I a ne its.toArray).toS.item i s Q E (by rw [hlen]; exact hi) ⟨st, hl⟩ fun v s' hv st' m => ?_
    have hv' : its[i]? = some v := by simpa using hv
    exact cont v s' (vals_at rv hv') ⟨st'.1, its, rv, st'.2⟩ m
  done := fun s Q E ⟨st, its, rv, hl⟩ cont => by
    have hlen : its.toArray.size = xs.length := by rw [List.size_toArray]; exact rv.length.symm
    exact (Walks.list (prog := prog) (w := w) hh I a ne its.toArray).toS.done s Q E (by rw [hlen]; exact ⟨st, hl⟩) cont
  self := fun i s Q E ⟨st, its, rv, hl⟩ q => (Walks.list (prog := prog) (w := w) hh I a ne its.toArray).toS.self i s Q E ⟨st, hl⟩ q
theorem cr_maxKey {X : Cx} {N : List Str} {p : Str} {k : Nat} {q : Str} {params : Arguments} {body : Expr} {scope : Scope} {t : TE} (hr : Room (k + 2) X.A) (hcalm : X.calm = true) (S : FnScope N [p] scope)
    (hb : ∀ (u : Value) (c : Addr) pm ctv, bindArgs (PySem.W.kla_fn "<lambda>" q params body scope [] pm (.ref c) ctv) ⟨[u], []⟩ = pure [(p, u)]) (hk : KeyAt X N k q scope body t) :
    CallRK X (.builtin "max") [Str.ofString "key"] (rMaxKey X.K N q params body scope t) := by
  intro pins s σ H vs zs us ws Q I r1 r2 h
  obtain ⟨a, f, c, xs, key, rfl, rfl, hs, hn, hf, hc, hkey, hq⟩ := h
  rw [Vals.ref1 r1, Vals.ref1 r2]
  obtain ⟨its, rv, hl, _⟩ := I.list hs
  show wpAny (model X.prog X.w) X.A (call (.builtin "max") [.ref a] [(Str.ofString "key", .ref f)]) (EP X pins σ Q) X.xe s
  refine PySem.call_max_walkK (PySem.W.iter_listW (A := X.A.in1) (I.ok.hd hcalm) hl.isList fun s2 e W st hfp hw hk2 => ?_)
  subst e
  have sz : (s.heap.push { cls := .type "list_iterator", data := .fields #[.ref a, .int 0 0] }).objs.size = s.heap.objs.size + 1 := Heap.size_push _ _
  have f1 : FpOk X pins H s.heap.objs.size := I.fpOk (Nat.le_refl _) (I.hok.fresh (Nat.le_refl _))
  have f2 : FpOk X pins H (s.heap.push { cls := .type "list_iterator", data := .fields #[.ref a, .int 0 0] }).objs.size := by
    rw [sz]
    exact I.fpOk (Nat.le_succ _) (I.hok.fresh (Nat.le_succ _))
  have ne : a ≠ s.heap.objs.size := Nat.ne_of_lt (by obtain ⟨_, e, _⟩ := hl.isList; exact Heap.lt_size e)
  have I2 : Inv X pins σ H { s with heap := s.heap.push { cls := .type "list_iterator", data := .fields #[.ref a, .int 0 0] } } := I.kept (t' := s.toks) fun b o e => Heap.get?_push_of_some _ e
  have apart : ∀ b, FpOk X pins H b → b ∉ frs X.stack := fun b hb z => by
    rcases List.mem_cons.mp (I.stkSub b z) with y | y
    · exact hb.2.1 y
    · exact hb.2.2.1 y
  refine ⟨_, _, _, _, _, _, _, fun s' => Inv X pins σ H s', fun i v _ => ∃ tk, v = .int (key i) tk, fun i j => decide (key i > key j), rfl, walks_live (prog := X.prog) (w := X.w) (A := X.A.in1) (I.ok.hd hcalm) ne xs, ⟨st.1, its, rv, st.2⟩, hfp, hn, ?_, I2, fun v s' ⟨x, hx, rx⟩ J => ⟨x, H, J, rx, hq _ x rfl hx⟩⟩
  refine { keep := fun s1 s3 J m => ?_, keepV := fun i v s1 s3 hv _ => hv, turn := fun i v s1 o Q' E' hi hv J st1 hS cont => ?_, cmp := fun i j ki kj s1 Q' E' J v1 v2 hq' => ?_ }
  · have J' := J.turnedL (h' := s3.heap) (t' := s3.toks) m.heap fun b hb => by
      rcases List.mem_cons.mp hb with z | z
      · rw [z]
        exact f2
      · rw [List.mem_singleton.mp z]
        exact f1
    have e3 : s3 = { s1 with heap := s3.heap, toks := s3.toks } := by
      obtain ⟨h3, g3, d3, t3, o3⟩ := s3
      have y1 : g3 = s1.gens := m.gens
      have y2 : d3 = s1.drawn := m.drawn
      have y3 : o3 = s1.os := m.os
      rw [y1, y2, y3]
    rw [e3]
    exact J'
  · obtain ⟨x, hx, rx⟩ := hv
    have run : codeAny (model X.prog X.w) X.A.in1 (.call (.ref f) ⟨[v], []⟩) (CR CX0 X.stack X.prog X.w H s1 (fun y H' => y = .int (key i) ∧ H' = H) (fun _ _ _ => False)) s1 :=
      lam_run (ps := [p]) (vs := [x]) (k := k) S hc hf hr.in1 J.env0.in1 (fun pm ctv => hb v c pm ctv) (.cons rx .nil) rfl (fun hr' => hk _ _ _ _ _ _ hr') (hkey i x hx _ ⟨rfl, rfl⟩)
    refine wpAny_call (codeAny_mono run fun res s3 hres => ?_)
    match res, hres with
    | .error _, z => exact z.elim
    | .ok .next, z => exact z.elim
    | .ok .brk, z => exact z.elim
    | .ok .cont, z => exact z.elim
    | .ok (.ret u), ⟨y, H', os, bare, un, hok', ry, ey, eH⟩ =>
      subst ey eH
      have J3 : Inv X pins σ H' s3 := J.call' os un hok' bare fun _ z => nomatch z
      have keepF : ∀ b ob, FpOk X pins H' b → s1.heap.get? b = some ob → s3.heap.get? b = some ob := fun b ob fb e => un.keep b ob e fb.1 (apart b fb) (fun z => nomatch z)
      obtain ⟨its', rv', hl', _⟩ := J3.list hs
      obtain ⟨⟨oi, hoi, hci, hdi⟩, _⟩ := st1
      obtain ⟨tk, rfl⟩ : ∃ tk, u = Value.int (key i) tk := ry
      exact cont _ s3 J3 ⟨⟨oi, keepF _ _ f1 hoi, hci, hdi⟩, its', rv', hl'.isList⟩ (keepF _ _ f2 hS) ⟨tk, rfl⟩ fun _ _ z => z
  · obtain ⟨t1, rfl⟩ := v1
    obtain ⟨t2, rfl⟩ := v2
    exact richCompare_gives (op := .Gt) (typeIs_int s1 _ t1) (typeIs_int s1 _ t2) F.slot_int_gt F.entry_int_gt (F.args_int_gt_2 _ _) (gives_int_gt _ _ t1 t2) (fun x => nomatch x) hq'
/-- the first of the greatest -/
theorem argBest_first {key : Nat → Int} : ∀ n : Nat, argBest (fun i j => decide (key i > key j)) n ≤ n ∧ ∀ j, j ≤ n → key j ≤ key (argBest (fun i j => decide (key i > key j)) n) ∧ (j < argBest (fun i j => decide (key i > key j)) n → key j < key (argBest (fun i j => decide (key i > key j)) n))
  | 0 => ⟨Nat.le_refl _, fun j hj => by
    have e : j = 0 := by omega
    subst e
    exact ⟨Int.le_refl _, fun z => absurd z (Nat.not_lt_zero _)⟩⟩
  | n + 1 => by
    obtain ⟨h1, h2⟩ := argBest_first (key := key) n
    show (if decide (key (n + 1) > key (argBest _ n)) = true then n + 1 else argBest _ n) ≤ n + 1 ∧ ∀ j, j ≤ n + 1 → key j ≤ key (if decide (key (n + 1) > key (argBest _ n)) = true then n + 1 else argBest _ n) ∧
      (j < (if decide (key (n + 1) > key (argBest _ n)) = true then n + 1 else argBest _ n) → key j < key (if decide (key (n + 1) > key (argBest _ n)) = true then n + 1 else argBest _ n))
    by_cases c : key (n + 1) > key (argBest (fun i j => decide (key i > key j)) n)
    · rw [if_pos (decide_eq_true c)]
      refine ⟨Nat.le_refl _, fun j hj => ?_⟩
      by_cases e : j = n + 1
      · subst e
        exact ⟨Int.le_refl _, fun z => absurd z (Nat.lt_irrefl _)⟩
      · have := (h2 j (by omega)).1
        exact ⟨by omega, fun _ => by omega⟩
    · rw [if_neg (by simpa using c)]
      refine ⟨by omega, fun j hj => ?_⟩
      by_cases e : j = n + 1
      · subst e
        exact ⟨by omega, fun z => by omega⟩
      · exact h2 j (by omega)
/-- the facts of a def that makes lambdas: its code object c, its table T, in which all code objects bear the name q -/
structure LamOk (K : PySem.W.Frag) (mg : Str → Option Value) (base : Heap) (x : Str) (q : Str) (c T : Addr) : Prop where
  tb : LamX.TabB base mg c T
  ht : PySem.W.tabIn K x = some (c, T)
  hm : (T, q) ∈ Tabl.l
  hu : ∀ t ∈ Tabl.l, t.1 = T → t.2 = q
section
variable {K : PySem.W.Frag} {δ : Nm} {te : TE} {R : Dt → Prop} {T : Addr} {q : Str} {params : Arguments} {body : Expr} {scope : Scope} {N : List Str}
abbrev tFst (K : PySem.W.Frag) : TE := tOp (rIxK K) (tVar 0) (tC (.int 0))
theorem fst_runs {H : Hp} {x : V} {n : Nat} {a : Addr} {i : Int} {vs : List V} (hN : N.length = n + 1) (hx : x = .ref a) (hs : SqT K H a (.int i :: vs)) (Q : VK) (hq : Q (.int i) H) : tFst K (L2.start N [x]) H Q := by
  subst hx
  have at0 : atI (V.int i :: vs) 0 = some (.int i) := by
    simp [atI, ixN]
  refine ⟨.ref a, ?_, .inr ⟨a, .int i :: vs, 0, .int i, rfl, rfl, hs, at0, hq⟩⟩
  unfold L2.start
  rfl
/-- max(rows, key=lambda row: row[0]) -/
theorem w_maxFst {n : Nat} (hN : N.length = n + 1) (hm : (T, q) ∈ Tabl.l) (hu : ∀ t ∈ Tabl.l, t.1 = T → t.2 = q)
    (h : W K te δ fun d => ∃ rows : List (Int × List Dt), rows ≠ [] ∧ d = .list (rows.map fun r => .tuple (.int r.1 :: r.2)) ∧
      ∀ (i : Nat) (r : Int × List Dt), rows[i]? = some r → (∀ (j : Nat) (s : Int × List Dt), rows[j]? = some s → s.1 ≤ r.1 ∧ (j < i → s.1 < r.1)) → R (.tuple (.int r.1 :: r.2))) :
    W K (tCKw (rMaxKey K N q params body scope (tFst K)) (tCons te tNil) (tCons (tLamV T q params body scope) tNil)) δ R := fun ω σ G H Q e k qq =>
  h ω σ G H _ e k fun v d G1 H1 g1 k1 r1 ⟨rows, hne, hd, hr⟩ => by
    subst hd
    obtain ⟨a, xs, rfl, ha, ra⟩ := r1.list_inv
    refine ⟨hm, hu, k1.2.1.2.on, fun f c H2 eN t2 hf0 hf hc => ?_⟩
    have sG : Same G1 H2 := fun b o hb => eN b o (k1.1 b o hb) fun ps z => k1.2.1.2.nt b ps (by rw [hb, z])
    have k2 : Ok ω G1 H2 := ⟨sG, ⟨k1.2.1.1, k1.2.1.2.nt, k1.2.1.2.off, t2, fun q hq o ho => by
      obtain ⟨_, o', h1, _⟩ := k1.2.2 q hq
      have p1 := k1.2.1.2.pl q hq o' h1
      have h2 := eN _ _ h1 fun ps z => pl_nt p1 ps z
      rw [h2] at ho
      cases ho
      exact p1⟩, fun q hq => by
      obtain ⟨g0, o', h1, p⟩ := k1.2.2 q hq
      exact ⟨g0, o', eN _ _ h1 fun ps z => pl_nt (k1.2.1.2.pl q hq o' h1) ps z, p⟩⟩
    have hlen : xs.length = rows.length := by rw [ra.len, List.length_map]
    have pos : 0 < rows.length := List.length_pos_iff.mpr hne
    refine ⟨a, f, c, xs, fun i => ((rows[i]?).map (·.1)).getD 0, rfl, rfl, .inl (.inl (sG _ _ ha)), by rw [hlen]; exact pos, hf, hc, fun i x hx Q' hq' => ?_, fun i x hi hx => ?_⟩
    · obtain ⟨d, hd, rx⟩ := ra.get hx
      rw [List.getElem?_map] at hd
      cases hri : rows[i]? with
      | none =>
        rw [hri] at hd
        cases hd
      | some r =>
        rw [hri] at hd
        cases hd
        obtain ⟨ai, ys, rfl, hs, ry⟩ := rx.tuple_inv
        cases ry with
        | cons y1 y2 =>
          cases y1
          refine fst_runs hN rfl (same_t sG hs) Q' ?_
          have hq2 : Q' (.int (((rows[i]?).map (·.1)).getD 0)) H2 := hq'
          rw [hri] at hq2
          exact hq2
    · obtain ⟨b1, b2⟩ := argBest_first (key := fun i => ((rows[i]?).map (·.1)).getD 0) (xs.length - 1)
      rw [← hi] at b1 b2
      obtain ⟨d, hd, rx⟩ := ra.get hx
      rw [List.getElem?_map] at hd
      cases hri : rows[i]? with
      | none =>
        rw [hri] at hd
        cases hd
      | some r =>
        rw [hri] at hd
        cases hd
        refine qq x _ G1 H2 g1 k2 rx (hr i r hri fun j s hj => ?_)
        have hjl : j < rows.length := (List.getElem?_eq_some_iff.mp hj).1
        have := b2 j (by omega)
        simp only [hj, hri, Option.map_some, Option.getD_some] at this
        exact this
end
theorem law_fdT {P : Program} {w : World} {K : PySem.W.Frag} {mg : Str → Option Value} {x y : Str} {st : Stmt} {k : Nat} {fa : Addr} {sp : Sp} {cs : List (Addr × Addr)} (hm : mg x = some (.ref fa)) (F : Dfn K mg x st [y])
    (U : ∀ (base : Heap), (∀ p ∈ cs, LamX.TabB base mg p.1 p.2) → ∀ (f : Addr) (fd : FuncData), Fun K x x st f fd → FnG P w K mg base k f fd [y] sp) :
    ∃ fd : FuncData, (∀ (s : Shared) (u : Value), BindsTo s fd ⟨[u], []⟩ [(y, u)]) ∧ ∀ base : Heap, K.In base → base.Ns mainGlobals mg → (∀ p ∈ cs, LamX.TabB base mg p.1 p.2) → FnG P w K mg base k fa fd [y] sp := by
  obtain ⟨f, fd, F1, m, b, _⟩ := F.ex
  obtain rfl : f = fa := by
    rw [hm] at m
    cases m
    rfl
  exact ⟨fd, fun s u => .of_eq (b [u] rfl), fun base _ _ TB => U base TB f fd F1⟩
end DW
namespace DW
open PySem PySem.Spec PyProof.Rows L2
variable [Tabl]
/-! ### given data, by decision -/
def beatB (n : Int) (ms : List Int) : Bool := decide (2 ≤ n) && decide (n ≤ 60) && ms.all (fun s => decide (0 ≤ s) && decide (s < n)) && decide (ms.Pairwise (· < ·)) && !ms.isEmpty && decide ((ms.length : Int) < n)
theorem beat_by {n : Int} {ms : List Int} (h : beatB n ms = true) : Beat n ms := by
  unfold beatB at h
  simp only [Bool.and_eq_true, decide_eq_true_eq, List.all_eq_true, Bool.not_eq_true', List.isEmpty_eq_false_iff] at h
  obtain ⟨⟨⟨⟨⟨h1, h2⟩, h3⟩, h4⟩, h5⟩, h6⟩ := h
  exact ⟨h1, h2, fun s hs => h3 s hs, h4, h5, h6⟩
def crowdB (ps : List Pt) : Bool := decide (2 ≤ ps.length) && decide (ps.length ≤ 4) && ps.all fun p => beatB p.1 p.2
theorem crowd_by {ps : List Pt} (h : crowdB ps = true) : Crowd ps := by
  unfold crowdB at h
  simp only [Bool.and_eq_true, decide_eq_true_eq, List.all_eq_true] at h
  exact ⟨h.1.1, h.1.2, fun p hp => beat_by (h.2 p hp)⟩
theorem offs2 {p q : Pt} {a b : Int} (h1 : 0 ≤ a ∧ a < p.1) (h2 : 0 ≤ b ∧ b < q.1) : Offs [p, q] [a, b] := ⟨rfl, fun z hz => by
  simp at hz
  rcases hz with rfl | rfl
  · exact h1
  · exact h2⟩
theorem offs3 {p q r : Pt} {a b c : Int} (h1 : 0 ≤ a ∧ a < p.1) (h2 : 0 ≤ b ∧ b < q.1) (h3 : 0 ≤ c ∧ c < r.1) : Offs [p, q, r] [a, b, c] := ⟨rfl, fun z hz => by
  simp at hz
  rcases hz with rfl | rfl | rfl
  · exact h1
  · exact h2
  · exact h3⟩
/-- what fewest tells, where the classes can be gone through -/
theorem few_val {ps : List Pt} {k : Int} {v : Int × List Int} {os : List Int} (hos : os ∈ classL ps) (hl : ∀ qs ∈ classL ps, ¬ rowlt (((kindN ps k qs : Nat) : Int), qs) (((kindN ps k os : Nat) : Int), os))
    (h : ∀ os ∈ classL ps, (∀ qs ∈ classL ps, ¬ rowlt (((kindN ps k qs : Nat) : Int), qs) (((kindN ps k os : Nat) : Int), os)) → (((kindN ps k os : Nat) : Int), os) = v) : rowD (((kindN ps k os : Nat) : Int), os) = rowD v := by
  rw [h os hos hl]
theorem great_val {ps : List Pt} {k : Int} {v : Int × List Int} {os : List Int} (hos : os ∈ classL ps) (hl : ∀ qs ∈ classL ps, kindN ps k qs ≤ kindN ps k os ∧ (kindN ps k qs = kindN ps k os → ¬ qs < os))
    (h : ∀ os ∈ classL ps, (∀ qs ∈ classL ps, kindN ps k qs ≤ kindN ps k os ∧ (kindN ps k qs = kindN ps k os → ¬ qs < os)) → (((kindN ps k os : Nat) : Int), os) = v) : rowD (((kindN ps k os : Nat) : Int), os) = rowD v := by
  rw [h os hos hl]
section
variable {K : PySem.W.Frag} {δ : Nm} {te tf : TE} {tu : TT} {R : Dt → Prop} {Rb : Bool → Prop}
/-- x != c or .., where x is just c -/
theorem wt_neOr (c : Dt) (sc : SeqAt.shaped c = true) (hc : PyData.eqv c c = true) (h : W K te δ fun d => d = c ∧ W K tf δ fun e => e = c ∧ WT K tu δ Rb) : WT K (tOr (tTest (tOp (rNeK K) te tf)) tu) δ Rb :=
  wt_or <| wt_test <| w_op <| w_mono h fun d ⟨e1, h2⟩ => by
    subst e1
    exact w_mono h2 fun e ⟨e2, h3⟩ => by
      subst e2
      exact k_ne sc sc ⟨_, rfl, by rw [hc]; exact h3⟩
theorem wt_neLast (c : Dt) (sc : SeqAt.shaped c = true) (hc : PyData.eqv c c = true) (h : W K te δ fun d => d = c ∧ W K tf δ fun e => e = c ∧ Rb false) : WT K (tTest (tOp (rNeK K) te tf)) δ Rb :=
  wt_test <| w_op <| w_mono h fun d ⟨e1, h2⟩ => by
    subst e1
    exact w_mono h2 fun e ⟨e2, h3⟩ => by
      subst e2
      exact k_ne sc sc ⟨_, rfl, by rw [hc]; exact h3⟩
theorem w_eqLast (c : Dt) (sc : SeqAt.shaped c = true) (hc : PyData.eqv c c = true) (h : W K te δ fun d => d = c ∧ W K tf δ fun e => e = c ∧ R (.bool true)) : W K (tOp (rEqK K) te tf) δ R :=
  w_op <| w_mono h fun d ⟨e1, h2⟩ => by
    subst e1
    exact w_mono h2 fun e ⟨e2, h3⟩ => by
      subst e2
      exact k_eq sc sc (by rw [hc]; exact h3)
/-- f(pen(x), ..): the pen is made for this call alone -/
theorem w_callPen {c : Ct} {ar arp : TA} {E X : XK} (h : WA K arp δ fun es => ∃ n : Int, es = [.dat (.int n)] ∧ WA K ar δ fun es2 => c.pre (.pen :: es2) ∧ ∀ d, c.post (.pen :: es2) d → R d) :
    W K (tCall (spD K c) [] E (tCons (tCall sp_pen [] X arp) ar)) δ R := fun ω σ G H Q e k q =>
  h ω σ G H _ e k fun vs es G1 H1 g1 k1 r1 ⟨n, en, h2⟩ => by
    subst en
    obtain ⟨v, rfl, rv⟩ := rel1 r1
    obtain rfl := rv.int_inv
    refine ⟨n, rfl, fun p x y z hp y0 y1 => ?_⟩
    have hg := k1.1.free hp
    have ap := k1.apart hp
    have k2 : Ok ((p, PenS) :: ω) G1 (upd H1 p (.lst [.int x, .int y, .int z])) := (k1.put hg ap).push hg upd_same ⟨x, y, z, rfl, y0, y1⟩ ap
    refine h2 ((p, PenS) :: ω) σ G1 _ _ ((e.mono g1).more fun q hq => List.mem_cons_of_mem _ hq) k2 fun xs es2 G3 H3 g3 k3 r3 ⟨h3, h4⟩ => ?_
    show spD K c ((V.ref p :: xs) ++ []) H3 Q E
    rw [List.append_nil]
    exact ⟨(p, PenS) :: ω, G3, .pen :: es2, k3, .cons ⟨p, rfl, List.mem_cons_self⟩ r3, h3, fun v d G4 H4 g4 k4 r4 p4 => q v d G4 H4 ((g1.trans g3).trans g4) k4.pop.1 r4 (h4 d p4)⟩
end
section
variable {K : PySem.W.Frag} {δ : Nm} {ta tb : TE} {nx bk ct : Nm → Prop} {rt : Dt → Prop}
/-- x = a + b of lists, owned by x -/
theorem ws_ownAdd {i : Nat} (hn : (0 : Nat) = 0) (hl' : (δ[i]?).isSome = true) (h : W K ta δ fun d => ∃ xs, d = .list xs ∧ W K tb δ fun e => ∃ ys, e = .list ys ∧ xs.length + ys.length ≤ sizeLine ∧ nx (δ.set i (.own (.list (xs ++ ys))))) :
    WS K (tAsg (tOp (rAddK K) ta tb) (gName i)) δ nx rt bk ct := fun ω σ G H D s n r b c => by
  have hl := lt_of_isSome hl'
  refine run_wg (Rel := fun G v d => Rp K G v d) h s fun v d G1 H1 g1 s1 r1 ⟨xs, e1, hb⟩ => run_wg (Rel := fun G v d => Rp K G v d) hb s1 fun u e G2 H2 g2 s2 r2 ⟨ys, e2, hz, q⟩ => ?_
  subst e1 e2
  obtain ⟨a, vs, rfl, hs, ra⟩ := r1.list_inv
  obtain ⟨a2, us, rfl, hs2, rb⟩ := r2.list_inv
  exact .inr (.inl ⟨a, a2, vs, us, rfl, rfl, s2.ok.1 _ _ (g2 _ _ hs), s2.ok.1 _ _ hs2, by rw [ra.len, rb.len]; exact hz, fun p hp => n _ _ G2 _ (g1.trans g2) (s2.take (o := .lst _) (d := .list _) hn hl hp ((ra.mono g2).append rb)) q⟩)
end
end DW
namespace DW
open PySem PySem.Spec PyProof.Rows L2
variable [Tabl]
/-! ### pairs: how often both send, whichever way it is looked at -/
theorem count_per {f : Int → Bool} {A : Nat} (hf : ∀ t, f (t + (A : Int)) = f t) (b : Nat) : (upI 0 (A * b)).countP f = b * (upI 0 A).countP f := by
  have h : ∀ (j : Nat) (t : Int), f (t + (A : Int) * j) = f t := fun j => by
    induction j with
    | zero => intro t; rw [Int.natCast_zero, Int.mul_zero, Int.add_zero]
    | succ j ih => intro t; rw [Int.natCast_succ, Int.mul_add, Int.mul_one, ← Int.add_assoc, hf, ih]
  rw [count_blocks]
  have e : (upI 0 b).map (fun j => (upI 0 A).countP fun t => f (t + (A : Int) * j)) = (upI 0 b).map fun _ => (upI 0 A).countP f := by
    apply List.map_congr_left
    intro j hj
    obtain ⟨i, _, rfl⟩ := List.mem_map.mp (show j ∈ (List.range b).map fun i => (0 : Int) + (i : Nat) from hj)
    congr 1
    funext t
    rw [Int.zero_add]
    exact h i t
  rw [e]
  have s : ∀ (L : List Int) (c : Nat), (L.map fun _ => c).sum = L.length * c := fun L c => by
    induction L with
    | nil => simp
    | cons a L ih => rw [List.map_cons, List.sum_cons, ih, List.length_cons, Nat.succ_mul]; omega
  rw [s, upI_len]
theorem count_own {n : Int} {ms : List Int} (h : Beat n ms) : (upI 0 n.toNat).countP (fun t => decide (t % n ∈ ms)) = ms.length := by
  have e := (turn_fix h (b := 0)).mpr fun t _ _ => by rw [Int.add_zero]
  rw [List.countP_eq_length_filter]
  have z : (upI 0 n.toNat).filter (fun t => decide (t % n ∈ ms)) = turnS n ms 0 := by
    unfold turnS
    congr 1
    funext t
    rw [Int.sub_zero]
  rw [z, e]
theorem snd_per_dvd {p : Pt} {W : Int} (d : p.1 ∣ W) (o t : Int) : sndB p o (t + W) = sndB p o t := by
  obtain ⟨c, rfl⟩ := d
  unfold sndB
  rw [show t + p.1 * c - o = t - o + p.1 * c by omega, Int.add_mul_emod_self_left]
/-- how often a sender sends in so many ticks -/
theorem count_send {p : Pt} (hp : Beat p.1 p.2) (o : Int) {S : Int} (s0 : 0 ≤ S) (d : p.1 ∣ S) : (((upI 0 S.toNat).countP (sndB p o) : Nat) : Int) = (p.2.length : Int) * (S / p.1) := by
  have n0 := hp.n0
  obtain ⟨c, rfl⟩ := d
  have c0 : 0 ≤ c := by
    refine Int.not_lt.mp fun z => ?_
    have := Int.mul_neg_of_pos_of_neg (show 0 < p.1 by omega) z
    omega
  have e : (p.1 * c).toNat = p.1.toNat * c.toNat := Int.toNat_mul (by omega) c0
  have f0 : ∀ t, sndB p o (t + ((p.1.toNat : Nat) : Int)) = sndB p o t := fun t => by
    rw [Int.toNat_of_nonneg (by omega)]
    exact snd_per_dvd (Int.dvd_refl _) o t
  have f1 : ∀ t, decide ((t + ((p.1.toNat : Nat) : Int)) % p.1 ∈ p.2) = decide (t % p.1 ∈ p.2) := fun t => by
    rw [Int.toNat_of_nonneg (by omega), Int.add_emod_right]
  rw [e, count_per f0]
  have own : (upI 0 p.1.toNat).countP (sndB p o) = p.2.length := by
    rw [← count_own hp]
    exact count_later (f := fun t => decide (t % p.1 ∈ p.2)) f1 o
  rw [own, Int.mul_ediv_cancel_left c (by omega), Int.natCast_mul, Int.toNat_of_nonneg c0, Int.mul_comm]
/-- both of two, at the offsets a and b -/
def pairAt (p q : Pt) (d : Int) : Int := (((allP p.2 q.2).countP fun z => decide ((z.1 - z.2) % gcdP p.1 q.1 = d % gcdP p.1 q.1) : Nat) : Int)
theorem gcdP_pos {n k : Int} (h : 0 < n) : 0 < gcdP n k := by
  unfold gcdP
  have := Nat.gcd_pos_of_pos_left k.natAbs (show 0 < n.natAbs by omega)
  omega
theorem pairAt_mod (p q : Pt) (d : Int) : pairAt p q (d % gcdP p.1 q.1) = pairAt p q d := by
  unfold pairAt
  rw [Int.emod_emod]
theorem pair_map {p q : Pt} (hp : 0 < p.1) : pairL p.1 p.2 q.1 q.2 = (upI 0 (gcdP p.1 q.1).toNat).map (pairAt p q) := by
  unfold pairL histL
  apply List.map_congr_left
  intro d hd
  have g := gcdP_pos (k := q.1) hp
  obtain ⟨i, hi, rfl⟩ := List.mem_map.mp (show d ∈ (List.range (gcdP p.1 q.1).toNat).map fun i => (0 : Int) + (i : Nat) from hd)
  have hi := List.mem_range.mp hi
  unfold pairAt
  rw [Int.emod_eq_of_lt (a := 0 + (i : Int)) (by omega) (by omega)]
theorem both_at {p q : Pt} {W : Int} (hp : Beat p.1 p.2) (hq : Beat q.1 q.2) (hW : Whole [p, q] W) (d : Int) : (((upI 0 W.toNat).countP (bothP p.1 p.2 q.1 q.2 d) : Nat) : Int) = pairAt p q d := by
  rw [both_pairs hp hq hW d]
  rfl
theorem whole_swap {p q : Pt} {W : Int} (h : Whole [p, q] W) : Whole [q, p] W := ⟨h.pos, fun r hr => h.dvd r (by simp at hr ⊢; exact hr.symm), fun x h1 h2 => h.least x h1 fun r hr => h2 r (by simp at hr ⊢; exact hr.symm)⟩
theorem both_per {p q : Pt} {W : Int} (hW : Whole [p, q] W) (d t : Int) : bothP p.1 p.2 q.1 q.2 d (t + W) = bothP p.1 p.2 q.1 q.2 d t := by
  obtain ⟨a, ha⟩ := hW.dvd p List.mem_cons_self
  obtain ⟨b, hb⟩ := hW.dvd q (List.mem_cons_of_mem _ List.mem_cons_self)
  unfold bothP
  have e1 : (t + W) % p.1 = t % p.1 := by rw [ha, Int.add_mul_emod_self_left]
  have e2 : (t + W - d) % q.1 = (t - d) % q.1 := by rw [show t + W - d = t - d + W by omega, hb, Int.add_mul_emod_self_left]
  rw [e1, e2]
/-- the other way about they come backwards -/
theorem pair_back {p q : Pt} (hp : Beat p.1 p.2) (hq : Beat q.1 q.2) (d : Int) : pairAt q p (-d) = pairAt p q d := by
  have hW := whole_two (p := p) (q := q) (by have := hp.n0; omega) (by have := hq.n0; omega)
  rw [← both_at hp hq hW d, ← both_at hq hp (whole_swap hW) (-d)]
  congr 1
  have e : bothP q.1 q.2 p.1 p.2 (-d) = fun t => bothP p.1 p.2 q.1 q.2 d (t - (-d)) := by
    funext t
    unfold bothP
    rw [show t - -d - d = t by omega, Bool.and_comm]
  rw [e]
  exact count_later (fun t => by rw [Int.toNat_of_nonneg (by have := hW.pos; omega)]; exact both_per hW d t) (-d)
/-- turned they come later -/
theorem pair_turn {p q : Pt} (hp : Beat p.1 p.2) (hq : Beat q.1 q.2) (far d : Int) : pairAt p (q.1, turnS q.1 q.2 far) d = pairAt p q (d + far) := by
  have n0 := hp.n0
  have k0 := hq.n0
  have hW := whole_two (p := p) (q := q) (by omega) (by omega)
  have hW2 := whole_two (p := p) (q := (q.1, turnS q.1 q.2 far)) (by omega) (show 0 < q.1 by omega)
  rw [← both_at hp hq hW (d + far), ← both_at hp (turn_beat hq far) hW2 d]
  congr 1
  apply List.countP_congr
  intro t _
  unfold bothP
  have m : (t - d) % q.1 ∈ turnS q.1 q.2 far ↔ (t - (d + far)) % q.1 ∈ q.2 := by
    rw [mem_turnS (by omega)]
    have e : ((t - d) % q.1 - far) % q.1 = (t - (d + far)) % q.1 := by
      rw [Int.emod_sub_emod, show t - d - far = t - (d + far) by omega]
    rw [e]
    exact ⟨fun h => h.2, fun h => ⟨⟨Int.emod_nonneg _ (by omega), Int.emod_lt_of_pos _ (by omega)⟩, h⟩⟩
  simp only [Bool.and_eq_true, decide_eq_true_eq]
  exact and_congr Iff.rfl m
theorem pair_self {p : Pt} (hp : Beat p.1 p.2) : pairAt p p 0 = (p.2.length : Int) := by
  have n0 := hp.n0
  have hW : Whole [p, p] p.1 := ⟨by omega, fun r hr => by
    have : r = p := by simpa using hr
    rw [this]
    exact Int.dvd_refl _, fun x h1 h2 => Int.le_of_dvd (by omega) (h2 p List.mem_cons_self)⟩
  rw [← both_at hp hp hW 0, ← count_own hp]
  congr 1
  apply List.countP_congr
  intro t _
  unfold bothP
  rw [Int.sub_zero]
  simp
/-- all together: each pair of slots once -/
theorem sum_cast : ∀ L : List Nat, (L.map fun (n : Nat) => (n : Int)).sum = ((L.sum : Nat) : Int)
  | [] => rfl
  | n :: L => by
    rw [List.map_cons, List.sum_cons, List.sum_cons, sum_cast L, Int.natCast_add]
theorem pair_sum {p q : Pt} (hp : 0 < p.1) : (pairL p.1 p.2 q.1 q.2).sum = (p.2.length : Int) * (q.2.length : Int) := by
  have g := gcdP_pos (k := q.1) hp
  unfold pairL histL
  have e : (upI 0 (gcdP p.1 q.1).toNat).map (fun d => (((allP p.2 q.2).countP fun z => decide ((z.1 - z.2) % gcdP p.1 q.1 = d) : Nat) : Int)) =
      ((upI 0 (gcdP p.1 q.1).toNat).map fun d => (allP p.2 q.2).countP fun z => decide ((z.1 - z.2) % gcdP p.1 q.1 = d)).map fun (n : Nat) => (n : Int) := by
    rw [List.map_map]
    rfl
  rw [e, sum_cast, ← count_keys (allP p.2 q.2) (fun z => (z.1 - z.2) % gcdP p.1 q.1) (asc_nodup (upI_asc _ _)), ← Int.natCast_mul, ← allP_len p.2 q.2]
  congr 1
  rw [List.countP_eq_length]
  intro z _
  rw [List.any_eq_true]
  have a := Int.emod_nonneg (z.1 - z.2) (show gcdP p.1 q.1 ≠ 0 by omega)
  have b := Int.emod_lt_of_pos (z.1 - z.2) g
  refine ⟨(z.1 - z.2) % gcdP p.1 q.1, ?_, by simp⟩
  exact List.mem_map.mpr ⟨((z.1 - z.2) % gcdP p.1 q.1).toNat, List.mem_range.mpr (by omega), by omega⟩
end DW
namespace DW
open PySem PySem.Spec PyProof.Rows L2
variable [Tabl]
/-! ### the least of a tuple of ints -/
def rMinT (K : PySem.W.Frag) : List V → Hp → VK → Prop := fun vs H Q => ∃ a xs d ds, vs = [V.ref a] ∧ SqT K H a xs ∧ DpAll K H xs (d :: ds) ∧ (PyData.canLayAll0 (d :: ds) = true ∧ PySem.W.AlikeAll (d :: ds) ∧ PyData.depthAll (d :: ds) ≤ 60) ∧ ∀ (i : Nat) x, xs[i]? = some x → (d :: ds)[i]? = some (PySem.W.minD d ds) → Q x H
theorem cr_minT {X : Cx} (hc : X.calm = true) (hu : X.A.units + 70 < cLine) : CallR X (.builtin "min") (rMinT X.K) := fun pins s σ H vs us Q I r ⟨a, xs, d, ds, e, hs, hd, ⟨hlay, hal, hdep⟩, q⟩ => by
  subst e
  obtain ⟨its, rv, hl, _⟩ := I.tuple hs
  rw [Vals.ref1 r]
  obtain ⟨as, rs⟩ := Dp.readsAll I _ _ _ hd rv
  refine PySem.W.min_tuple_data (I.ok.hd hc) hl rs hal (by omega) fun i v h' tk bs hv hr hk => ?_
  have hv' : its[i]? = some v := by simpa using hv
  obtain ⟨x, hx, rx⟩ := vals_at rv hv'
  obtain ⟨cs, rc, il, _⟩ := PySem.W.readsAll_at rs i v hv'
  have e := (Reads.unique (Reads.keeps hk rc) _ _ hr).1
  refine ⟨x, H, I.kept (t' := tk) hk, rx, q i x hx ?_⟩
  rw [List.getElem?_eq_getElem il, ← e, List.getD_eq_getElem?_getD, List.getElem?_eq_getElem il]
  rfl
theorem fold_min : ∀ (ns : List Int) (n : Int), ns.foldl min n ∈ n :: ns ∧ ∀ y ∈ n :: ns, ns.foldl min n ≤ y
  | [], n => ⟨List.mem_cons_self, fun y hy => by rw [List.mem_singleton.mp hy]; exact Int.le_refl _⟩
  | k :: ns, n => by
    rw [List.foldl_cons]
    obtain ⟨h1, h2⟩ := fold_min ns (min n k)
    have hm := h2 _ List.mem_cons_self
    refine ⟨?_, fun y hy => ?_⟩
    · rcases List.mem_cons.mp h1 with e | e
      · rw [e]
        by_cases c : n ≤ k
        · rw [Int.min_eq_left c]
          exact List.mem_cons_self
        · rw [Int.min_eq_right (by omega)]
          exact List.mem_cons_of_mem _ List.mem_cons_self
      · exact List.mem_cons_of_mem _ (List.mem_cons_of_mem _ e)
    · rcases List.mem_cons.mp hy with e | hy
      · subst e
        omega
      · rcases List.mem_cons.mp hy with e | hy
        · subst e
          omega
        · exact h2 y (List.mem_cons_of_mem _ hy)
theorem b_leastT {K : PySem.W.Frag} {R : Dt → Prop} {ns : List Int} (hne : ns ≠ []) (r : ∀ m, m ∈ ns → (∀ y ∈ ns, m ≤ y) → R (.int m)) : CbD K (rMinT K) [.dat (.tuple (ns.map .int))] R := fun ω G H vs Q k h q => by
  obtain ⟨v, rfl, rv⟩ := rel1 h
  obtain ⟨a, xs, rfl, hs, ra⟩ := rv.tuple_inv
  cases ns with
  | nil => exact absurd rfl hne
  | cons n ns =>
    rw [List.map_cons] at ra
    have lay : PyData.canLayAll0 (PyData.int n :: ns.map .int) = true := lay_ints (n :: ns)
    have dep : PyData.depthAll (PyData.int n :: ns.map .int) ≤ 60 := by
      have : PyData.depthAll (PyData.int n :: ns.map .int) = 0 := depth_ints (n :: ns)
      omega
    have ali : PySem.W.AlikeAll (PyData.int n :: ns.map .int) := by
      have all : ∀ d ∈ PyData.int n :: ns.map .int, ∃ i : Int, d = .int i := fun d hd => by
        rcases List.mem_cons.mp hd with e | hd
        · exact ⟨n, e⟩
        · obtain ⟨i, _, e⟩ := List.mem_map.mp hd
          exact ⟨i, e.symm⟩
      refine ⟨fun a ha b hb => ?_, fun a ha => ?_⟩
      · obtain ⟨i, rfl⟩ := all a ha
        obtain ⟨j, rfl⟩ := all b hb
        simp [PySem.W.alike]
      · obtain ⟨i, rfl⟩ := all a ha
        exact fun e => by cases e
    refine ⟨a, xs, _, _, rfl, same_t k.1 hs, (ra.mono k.1).dp lay, ⟨lay, ali, dep⟩, fun i x hx hi => ?_⟩
    obtain ⟨c, hc, rx⟩ := ra.get hx
    rw [hi] at hc
    cases hc
    rw [PySem.W.minD_ints] at rx
    obtain ⟨h1, h2⟩ := fold_min ns n
    exact q _ _ G H (Same.refl G) k rx (r _ h1 h2)
/-! ### the sure bound lies below -/
theorem count_split {α : Type} (T : List α) (p q : α → Bool) : T.countP p = T.countP (fun t => p t && q t) + T.countP (fun t => p t && !q t) := by
  induction T with
  | nil => rfl
  | cons t T ih =>
    rw [List.countP_cons, List.countP_cons, List.countP_cons, ih]
    cases p t <;> cases q t <;> simp <;> omega
theorem count_mono {α : Type} (T : List α) (p q : α → Bool) (h : ∀ t, p t = true → q t = true) : T.countP p ≤ T.countP q := List.countP_mono_left fun t _ => h t
theorem lcmP_dvd {p q : Pt} {S : Int} (d1 : p.1 ∣ S) (d2 : q.1 ∣ S) : lcmP p q ∣ S := by
  unfold lcmP
  exact Int.ofNat_dvd_left.mpr (Nat.lcm_dvd (Int.natAbs_dvd_natAbs.mpr d1) (Int.natAbs_dvd_natAbs.mpr d2))
theorem count_both {p q : Pt} (hp : Beat p.1 p.2) (hq : Beat q.1 q.2) {S : Int} (s0 : 0 ≤ S) (d1 : p.1 ∣ S) (d2 : q.1 ∣ S) (a b : Int) : (((upI 0 S.toNat).countP (fun t => sndB p a t && sndB q b t) : Nat) : Int) = pairAt p q (b - a) * (S / lcmP p q) := by
  have n0 := hp.n0
  have k0 := hq.n0
  have hW := whole_two (p := p) (q := q) (by omega) (by omega)
  have l0 := (lcmP_bounds hp hq).1
  obtain ⟨c, rfl⟩ := lcmP_dvd d1 d2
  have c0 : 0 ≤ c := by
    refine Int.not_lt.mp fun z => ?_
    have := Int.mul_neg_of_pos_of_neg l0 z
    omega
  have per : ∀ t, (fun t => sndB p a t && sndB q b t) (t + (((lcmP p q).toNat : Nat) : Int)) = (fun t => sndB p a t && sndB q b t) t := fun t => by
    rw [Int.toNat_of_nonneg (by omega)]
    show (sndB p a (t + lcmP p q) && sndB q b (t + lcmP p q)) = _
    rw [snd_per_dvd (W := lcmP p q) (hW.dvd p List.mem_cons_self), snd_per_dvd (W := lcmP p q) (hW.dvd q (List.mem_cons_of_mem _ List.mem_cons_self))]
  rw [Int.toNat_mul (by omega) c0, count_per per, Int.mul_ediv_cancel_left c (by omega), Int.natCast_mul, Int.toNat_of_nonneg c0, ← both_at hp hq hW (b - a), Int.mul_comm]
  congr 2
  have e : (fun t => sndB p a t && sndB q b t) = fun t => bothP p.1 p.2 q.1 q.2 (b - a) (t - a) := by
    funext t
    unfold bothP sndB
    rw [show t - a - (b - a) = t - b by omega]
  rw [e]
  exact count_later (fun t => by rw [Int.toNat_of_nonneg (by omega)]; exact both_per hW _ t) a
theorem pairAt_mem {p q : Pt} (hp : 0 < p.1) (d : Int) : pairAt p q d ∈ pairL p.1 p.2 q.1 q.2 := by
  have g := gcdP_pos (k := q.1) hp
  rw [pair_map hp, ← pairAt_mod]
  have a := Int.emod_nonneg d (show gcdP p.1 q.1 ≠ 0 by omega)
  have b := Int.emod_lt_of_pos d g
  exact List.mem_map_of_mem (List.mem_map.mpr ⟨(d % gcdP p.1 q.1).toNat, List.mem_range.mpr (by omega), by omega⟩)
theorem pairAt_most {p q : Pt} (hp : 0 < p.1) (d : Int) : pairAt p q d ≤ mostP p q := (foldl_max_ge _ 0).2 _ (pairAt_mem hp d)
def sndJ (ps : List Pt) (os : List Int) (j : Nat) (t : Int) : Bool := match ps[j]?, os[j]? with
  | some p, some o => sndB p o t
  | _, _ => false
def restZ (ps : List Pt) (os : List Int) (w : Nat) (i : Nat) (t : Int) : Bool := (List.range i).all fun j => decide (j = w) || !sndJ ps os j t
theorem restZ_succ (ps : List Pt) (os : List Int) (w i : Nat) (t : Int) : restZ ps os w (i + 1) t = (restZ ps os w i t && (decide (i = w) || !sndJ ps os i t)) := by
  unfold restZ
  rw [List.range_succ, List.all_append]
  simp
theorem sure_ind {ps : List Pt} {os : List Int} {w : Nat} {p : Pt} {o : Int} (hb : ∀ q ∈ ps, Beat q.1 q.2) (hl : os.length = ps.length) (hp : ps[w]? = some p) (ho : os[w]? = some o) {S : Int} (s0 : 0 ≤ S) (dv : ∀ q ∈ ps, q.1 ∣ S) :
    ∀ i : Nat, i ≤ ps.length → sureF ps p w S i ≤ (((upI 0 S.toNat).countP (fun t => sndJ ps os w t && restZ ps os w i t) : Nat) : Int)
  | 0, _ => by
    have bp := hb p (List.mem_of_getElem? hp)
    have e : (fun t => sndJ ps os w t && restZ ps os w 0 t) = sndB p o := by
      funext t
      unfold sndJ restZ
      rw [hp, ho]
      simp
    rw [e, count_send bp o s0 (dv p (List.mem_of_getElem? hp))]
    exact Int.le_refl _
  | i + 1, hi => by
    have ih := sure_ind hb hl hp ho s0 dv i (by omega)
    have bp := hb p (List.mem_of_getElem? hp)
    have hq : ps[i]? = some ps[i] := List.getElem?_eq_getElem (by omega)
    have hr : os[i]? = some (os[i]'(by omega)) := List.getElem?_eq_getElem (by omega)
    generalize ps[i] = q at hq
    generalize os[i]'(by omega) = r at hr
    have bq := hb q (List.mem_of_getElem? hq)
    unfold sureF
    rw [hq]
    by_cases hw : i = w
    · show (if i = w then _ else _) ≤ _
      rw [if_pos hw]
      have e : (fun t => sndJ ps os w t && restZ ps os w (i + 1) t) = fun t => sndJ ps os w t && restZ ps os w i t := by
        funext t
        rw [restZ_succ, decide_eq_true hw, Bool.true_or, Bool.and_true]
      rw [e]
      exact ih
    · show (if i = w then _ else sureF ps p w S i - mostP p q * (S / lcmP p q)) ≤ _
      rw [if_neg hw]
      have sp := count_split (upI 0 S.toNat) (fun t => sndJ ps os w t && restZ ps os w i t) (fun t => sndB q r t)
      have e : (fun t => sndJ ps os w t && restZ ps os w (i + 1) t) = fun t => (sndJ ps os w t && restZ ps os w i t) && !sndB q r t := by
        funext t
        have : sndJ ps os i t = sndB q r t := by
          unfold sndJ
          rw [hq, hr]
        rw [restZ_succ, decide_eq_false hw, Bool.false_or, this, Bool.and_assoc]
      rw [e]
      have m : (upI 0 S.toNat).countP (fun t => (sndJ ps os w t && restZ ps os w i t) && sndB q r t) ≤ (upI 0 S.toNat).countP fun t => sndB p o t && sndB q r t := by
        refine count_mono _ _ _ fun t h => ?_
        simp only [Bool.and_eq_true] at h ⊢
        refine ⟨?_, h.2⟩
        have := h.1.1
        unfold sndJ at this
        rw [hp, ho] at this
        exact this
      have b := count_both bp bq s0 (dv p (List.mem_of_getElem? hp)) (dv q (List.mem_of_getElem? hq)) o r
      have most := pairAt_most (q := q) (show 0 < p.1 by have := bp.n0; omega) (r - o)
      have d0 : 0 ≤ S / lcmP p q := Int.ediv_nonneg s0 (by have := (lcmP_bounds bp bq).1; omega)
      have mm := Int.mul_le_mul_of_nonneg_right most d0
      omega
theorem quiet_iff {ps : List Pt} {os : List Int} {t : Int} (w : Nat) : quietZ ((os.zip ps).eraseIdx w) t = true ↔ ∀ j, j ≠ w → sndJ ps os j t = false := by
  unfold quietZ
  rw [List.all_eq_true]
  constructor
  · intro h j hj
    unfold sndJ
    cases hp : ps[j]? with
    | none => rfl
    | some p =>
      cases ho : os[j]? with
      | none => rfl
      | some o =>
        have := h (o, p) (List.mem_eraseIdx_iff_getElem?.mpr ⟨j, hj, List.getElem?_zip_eq_some.mpr ⟨ho, hp⟩⟩)
        simpa using this
  · intro h z hz
    obtain ⟨j, hj, e⟩ := List.mem_eraseIdx_iff_getElem?.mp hz
    obtain ⟨e1, e2⟩ := List.getElem?_zip_eq_some.mp e
    have := h j hj
    unfold sndJ at this
    rw [e2, e1] at this
    have this : sndB z.2 z.1 t = false := this
    rw [this]
    rfl
theorem heard_iff {ps : List Pt} {os : List Int} {t : Int} {w : Nat} (hl : os.length = ps.length) (hw : w < ps.length) : heardI ps os t = (w : Int) ↔ (sndJ ps os w t && restZ ps os w ps.length t) = true := by
  unfold heardI
  rw [kind_one (fun x hx => by have := voicesF_bounds hx; omega) (by omega)]
  have v := voices_one (ps := ps) (os := os) 0 t w hl hw
  rw [Int.zero_add] at v
  unfold voicesL
  rw [v, quiet_iff w, Bool.and_eq_true]
  have nq : (¬ quietZ (os.zip ps) t = true) ↔ ∃ j, sndJ ps os j t = true := by
    have a := quiet_iff (ps := ps) (os := os) (t := t) (os.zip ps).length
    rw [List.eraseIdx_of_length_le (Nat.le_refl _)] at a
    rw [a]
    constructor
    · intro h
      refine Classical.byContradiction fun n => h fun j _ => ?_
      cases hj : sndJ ps os j t with
      | false => rfl
      | true => exact (n ⟨j, hj⟩).elim
    · rintro ⟨j, hj⟩ h
      have jl : j ≠ (os.zip ps).length := fun e => by
        have : ps[j]? = none := List.getElem?_eq_none (by rw [e, List.length_zip]; omega)
        unfold sndJ at hj
        rw [this] at hj
        cases hj
      rw [h j jl] at hj
      cases hj
  rw [nq]
  unfold restZ
  rw [List.all_eq_true]
  constructor
  · rintro ⟨h1, j, h2⟩
    have : j = w := Classical.byContradiction fun n => by
      rw [h1 j n] at h2
      cases h2
    subst this
    refine ⟨h2, fun i _ => ?_⟩
    by_cases e : i = j
    · rw [decide_eq_true e]
      rfl
    · rw [h1 i e]
      simp
  · rintro ⟨h1, h2⟩
    refine ⟨fun j hj => ?_, w, h1⟩
    by_cases c : j < ps.length
    · have := h2 j (List.mem_range.mpr c)
      rw [decide_eq_false hj, Bool.false_or] at this
      simpa using this
    · unfold sndJ
      rw [List.getElem?_eq_none (by omega)]
theorem kind_count {ps : List Pt} {os : List Int} {w : Nat} (hl : os.length = ps.length) (hw : w < ps.length) : kindN ps (w : Int) os = (upI 0 (spanN ps)).countP fun t => sndJ ps os w t && restZ ps os w ps.length t := by
  rw [kindN_eq]
  apply List.countP_congr
  intro t _
  rw [decide_eq_true_iff]
  exact heard_iff hl hw
/-- never greater than how often a sender gets through -/
theorem sure_le {ps : List Pt} {os : List Int} {w : Nat} (hc : Crowd ps) (hl : os.length = ps.length) (hw : w < ps.length) : sureI ps w ≤ ((kindN ps (w : Int) os : Nat) : Int) := by
  have hp : ps[w]? = some ps[w] := List.getElem?_eq_getElem hw
  have ho : os[w]? = some (os[w]'(by omega)) := List.getElem?_eq_getElem (by omega)
  have hW := span_whole ps (crowd_pos hc)
  have h := sure_ind hc.all hl hp ho (S := ((spanN ps : Nat) : Int)) (by omega) hW.dvd ps.length (Nat.le_refl _)
  rw [kind_count hl hw]
  unfold sureI
  rw [hp]
  rw [Int.toNat_natCast] at h
  exact h
/-! ### two senders -/
theorem kind_two {p q : Pt} (hp : Beat p.1 p.2) (hq : Beat q.1 q.2) (a b : Int) :
    ((kindN [p, q] 0 [a, b] : Nat) : Int) = (p.2.length : Int) * (lcmP p q / p.1) - pairAt p q (b - a) ∧ ((kindN [p, q] 1 [a, b] : Nat) : Int) = (q.2.length : Int) * (lcmP p q / q.1) - pairAt p q (b - a) := by
  have n0 := hp.n0
  have k0 := hq.n0
  have hW := whole_two (p := p) (q := q) (by omega) (by omega)
  have l0 := (lcmP_bounds hp hq).1
  have hs : ((spanN [p, q] : Nat) : Int) = lcmP p q := (span_whole [p, q] fun r hr => by
    have : r = p ∨ r = q := by simpa using hr
    rcases this with e | e <;> rw [e] <;> omega).unique hW
  have dp := hW.dvd p List.mem_cons_self
  have dq := hW.dvd q (List.mem_cons_of_mem _ List.mem_cons_self)
  have dp : p.1 ∣ lcmP p q := dp
  have dq : q.1 ∣ lcmP p q := dq
  have hsn : spanN [p, q] = (lcmP p q).toNat := by omega
  have both := count_both hp hq (S := lcmP p q) (by omega) dp dq a b
  rw [Int.ediv_self (by omega), Int.mul_one] at both
  have sp := count_send hp a (S := lcmP p q) (by omega) dp
  have sq := count_send hq b (S := lcmP p q) (by omega) dq
  have k1 := kind_count (ps := [p, q]) (os := [a, b]) (w := 0) rfl (by show 0 < 2; omega)
  have k2 := kind_count (ps := [p, q]) (os := [a, b]) (w := 1) rfl (by show 1 < 2; omega)
  have e1 : (fun t => sndJ [p, q] [a, b] 0 t && restZ [p, q] [a, b] 0 [p, q].length t) = fun t => sndB p a t && !sndB q b t := by
    funext t
    simp [sndJ, restZ, List.range_succ]
  have e2 : (fun t => sndJ [p, q] [a, b] 1 t && restZ [p, q] [a, b] 1 [p, q].length t) = fun t => sndB q b t && !sndB p a t := by
    funext t
    simp [sndJ, restZ, List.range_succ]
  rw [e1, hsn] at k1
  rw [e2, hsn] at k2
  have s1 := count_split (upI 0 (lcmP p q).toNat) (sndB p a) (sndB q b)
  have s2 := count_split (upI 0 (lcmP p q).toNat) (sndB q b) (sndB p a)
  have sw : (fun t => sndB q b t && sndB p a t) = fun t => sndB p a t && sndB q b t := by
    funext t
    exact Bool.and_comm _ _
  rw [sw] at s2
  have k1 : kindN [p, q] 0 [a, b] = _ := k1
  have k2 : kindN [p, q] 1 [a, b] = _ := k2
  omega
theorem class_two {p q : Pt} (hp : 0 < p.1) (os : List Int) : os ∈ classL [p, q] ↔ ∃ y, os = [0, y] ∧ 0 ≤ y ∧ y < gcdP p.1 q.1 := by
  have e : sizesL [p, q] = [1, gcdP p.1 q.1] := by
    show [((Nat.gcd 1 p.1.natAbs : Nat) : Int), ((Nat.gcd (Nat.lcm 1 p.1.natAbs) q.1.natAbs : Nat) : Int)] = _
    rw [Nat.gcd_one_left, Nat.lcm_one_left]
    rfl
  unfold classL
  rw [e, mem_below]
  match os with
  | [] => exact ⟨fun h => h.elim, fun ⟨y, h, _⟩ => nomatch h⟩
  | [x] => exact ⟨fun h => h.2.elim, fun ⟨y, h, _⟩ => nomatch h⟩
  | [x, y] =>
    constructor
    · rintro ⟨h1, h2, _⟩
      have : x = 0 := by omega
      subst this
      exact ⟨y, rfl, h2⟩
    · rintro ⟨z, h, h1, h2⟩
      injection h with h3 h4
      injection h4 with h4 _
      subst h3 h4
      exact ⟨⟨by omega, by omega⟩, ⟨h1, h2⟩, trivial⟩
  | x :: y :: z :: r => exact ⟨fun h => h.2.2.elim, fun ⟨y, h, _⟩ => by injection h with _ h; injection h with _ h; cases h⟩
end DW
namespace DW
open PySem PySem.Spec PyProof.Rows L2
variable [Tabl]
/-! ### sum of a tuple of ints -/
def rSumT (K : PySem.W.Frag) : List V → Hp → VK → Prop := fun vs H Q => ∃ (a : Addr) (ns : List Int), vs = [V.ref a] ∧ SqT K H a (ns.map V.int) ∧ Q (.int ns.sum) H
theorem pre_sum {ns : List Int} {f : Nat → Int} (hf : ∀ i, f i = ns.getD i 0) : ∀ k, k ≤ ns.length → preSum f k = (ns.take k).sum
  | 0, _ => rfl
  | k + 1, hk => by
    have e : ns[k]? = some ns[k] := List.getElem?_eq_getElem (by omega)
    rw [List.take_add_one, e, List.sum_append, ← pre_sum hf k (by omega)]
    show preSum f k + f k = _
    rw [hf k, List.getD_eq_getElem?_getD, e]
    simp
theorem cr_sumT {X : Cx} (hc : X.calm = true) : CallR X (.builtin "sum") (rSumT X.K) := by
  intro pins s σ H vs us Q I r h
  obtain ⟨a, ns, rfl, hs, q⟩ := h
  obtain ⟨its, rv, hl, _⟩ := I.tuple hs
  rw [Vals.ref1 r]
  have hlen : its.length = ns.length := by rw [← rv.length, List.length_map]
  refine PySem.call_sum_walkAnyS (PySem.W.iter_tupleW (A := X.A.in1) (I.ok.hd hc) hl fun s2 e W st hfp _ _ => ?_)
  refine ⟨_, _, _, _, _, _, _, fun i => ns.getD i 0, rfl, W, st, hfp, fun i v hv => ?_, fun s' t' m => ?_⟩
  · have hv' : its[i]? = some v := by simpa using hv
    obtain ⟨x, hx, rx⟩ := vals_at rv hv'
    rw [List.getElem?_map] at hx
    cases hn : ns[i]? with
    | none =>
      rw [hn] at hx
      cases hx
    | some n =>
      rw [hn] at hx
      cases hx
      have z : ns.getD i 0 = n := by rw [List.getD_eq_getElem?_getD, hn]; rfl
      show ∃ t, v = Value.int (ns.getD i 0) t
      rw [z]
      exact rx
  · subst e
    obtain ⟨h', tk, rfl, hk'⟩ := PySem.W.moved_old (s := s) rfl rfl m
    refine ⟨.int ns.sum, H, I.kept (t' := tk) hk', ⟨t', ?_⟩, q⟩
    have e2 : its.toArray.size = ns.length := by rw [List.size_toArray, hlen]
    rw [e2, pre_sum (fun _ => rfl) ns.length (Nat.le_refl _), List.take_length]
theorem b_sumT {K : PySem.W.Frag} {R : Dt → Prop} {ns : List Int} (r : R (.int ns.sum)) : CbD K (rSumT K) [.dat (.tuple (ns.map .int))] R := fun ω G H vs Q k h q => by
  obtain ⟨v, rfl, rv⟩ := rel1 h
  obtain ⟨a, xs, rfl, hs, ra⟩ := rv.tuple_inv
  obtain rfl := ra.ints
  exact ⟨a, ns, rfl, same_t k.1 hs, q _ _ G H (Same.refl G) k (.int _) r⟩
/-! ### pairs as data -/
theorem pair_ix {p q : Pt} (hp : 0 < p.1) {d : Int} (h0 : 0 ≤ d) (h1 : d < gcdP p.1 q.1) : atI ((pairL p.1 p.2 q.1 q.2).map PyData.int) d = some (.int (pairAt p q d)) := by
  obtain ⟨i, rfl⟩ := Int.eq_ofNat_of_zero_le h0
  rw [pair_map hp]
  refine atI_nat ?_
  rw [List.map_map, List.getElem?_map]
  have : (upI 0 (gcdP p.1 q.1).toNat)[i]? = some (i : Int) := by
    unfold upI
    rw [List.getElem?_map, List.getElem?_range (by omega)]
    simp
  rw [this]
  rfl
theorem pair_len (p q : Pt) : (pairL p.1 p.2 q.1 q.2).length = (gcdP p.1 q.1).toNat := hist_len _ _
theorem eqv_lints (ns ms : List Int) : PyData.eqv (.list (ns.map .int)) (.list (ms.map .int)) = decide (ns = ms) := by
  rw [PyData.eqv]
  exact eqvAll_ints ns ms
end DW
namespace DW
open PySem PySem.Spec PyProof.Rows L2
variable [Tabl]
/-! ### data without lists: it leans on nothing that a name owns -/
mutual
def flatD : Dt → Bool
  | .none => true
  | .bool _ => true
  | .int _ => true
  | .str _ => true
  | .tuple ds => flatAll ds
  | _ => false
def flatAll : List Dt → Bool
  | [] => true
  | d :: ds => flatD d && flatAll ds
end
mutual
theorem Rp.sub {K : PySem.W.Frag} {G G1 : Hp} (e : ∀ a xs, SqT K G a xs → SqT K G1 a xs) : ∀ {d : Dt} {v : V}, flatD d = true → Rp K G v d → Rp K G1 v d
  | .none, _, _, h => by cases h; exact .non
  | .bool b, _, _, h => by cases h; exact .bl b
  | .int i, _, _, h => by cases h; exact .int i
  | .str x, _, _, h => by cases h; exact .str x
  | .tuple ds, _, f, h => by
    cases h with
    | tup q r => exact .tup (e _ _ q) (RpAll.sub e (by unfold flatD at f; exact f) r)
  | .list ds, _, f, _ => by unfold flatD at f; cases f
  | .dict ds, _, f, _ => by unfold flatD at f; cases f
theorem RpAll.sub {K : PySem.W.Frag} {G G1 : Hp} (e : ∀ a xs, SqT K G a xs → SqT K G1 a xs) : ∀ {ds : List Dt} {vs : List V}, flatAll ds = true → RpAll K G vs ds → RpAll K G1 vs ds
  | [], _, _, h => by cases h; exact .nil
  | d :: ds, _, f, h => by
    unfold flatAll at f
    rw [Bool.and_eq_true] at f
    cases h with
    | cons q r => exact .cons (Rp.sub e f.1 q) (RpAll.sub e f.2 r)
end
section
variable {K : PySem.W.Frag} {ω : Wd} {G H : Hp} {δ : Nm} {σ : L2.St}
theorem run_flat {t : TE} {R : Dt → Prop} {Q : VK} (hw : W K t (δ.map seen) R) (s : Std K ω G H δ σ) (fl : ∀ d, R d → flatD d = true) (q : ∀ v d G' H', Same G G' → Std K ω G' H' δ σ → Rp K G' v d → R d → Q v H') : t σ H Q := by
  obtain ⟨G0, g0, k0, h1, _⟩ := s.open δ.length
  refine hw ω σ G0 H Q (fun j e hj => ?_) k0 fun x y G' H' g k r ry => ?_
  · rw [List.getElem?_map] at hj
    cases hd : δ[j]? with
    | none => rw [hd] at hj; cases hj
    | some c =>
      rw [hd] at hj
      obtain rfl : seen c = e := Option.some.inj hj
      obtain ⟨s0, z1, z2⟩ := s.env j c hd
      refine ⟨s0, z1, ?_⟩
      cases c with
      | own es =>
        obtain ⟨p, vs, b1, b2, b3⟩ := h1 j es (List.getElem?_eq_some_iff.mp hd).1 hd
        rw [b1] at z1
        cases z1
        exact seen_slot b2 b3
      | dat d =>
        obtain ⟨v, e1, e2⟩ := z2
        exact ⟨v, e1, e2.mono g0⟩
      | pl ds => exact SlotE.mono g0 (e := .pl ds) z2
      | dic ds => exact SlotE.mono g0 (e := .dic ds) z2
      | unk => exact z2
      | scr ns => exact SlotE.mono g0 (e := .scr ns) z2
      | pen => exact z2
  · have y1 : R y := ry
    -- what the names own is put aside again
    let P : Addr → Prop := fun b => ∃ (i : Nat) (ds : Dt), δ[i]? = some (.own ds) ∧ σ[i]? = some (some (.ref b))
    have pOwn : ∀ b, P b → ∃ vs ds, G' b = some vs ∧ RpO K G0 vs ds ∧ G b = none := fun b ⟨i, ds, hi, hs⟩ => by
      obtain ⟨p, vs, b1, b2, b3⟩ := h1 i ds (List.getElem?_eq_some_iff.mp hi).1 hi
      rw [hs] at b1
      cases b1
      obtain ⟨p', vs', a1, _, _, a4, _⟩ := s.own i ds hi
      rw [hs] at a1
      cases a1
      exact ⟨vs, ds, g _ _ b2, b3, a4⟩
    let G1 : Hp := fun b => @ite _ (P b) (Classical.propDecidable _) none (G' b)
    have in1 : ∀ b, P b → G1 b = none := fun b hb => if_pos hb
    have out1 : ∀ b, ¬ P b → G1 b = G' b := fun b hb => if_neg hb
    have s1 : Same G1 G' := fun b o e => by
      by_cases hb : P b
      · rw [in1 b hb] at e
        cases e
      · rw [out1 b hb] at e
        exact e
    have sG : Same G G1 := fun b o e => by
      have nb : ¬ P b := fun hb => by
        obtain ⟨_, _, _, _, z⟩ := pOwn b hb
        rw [e] at z
        cases z
      rw [out1 b nb]
      exact g _ _ (g0 _ _ e)
    have k1 : Ok ω G1 H' := k.anti s1
    have sT : ∀ a xs, SqT K G' a xs → SqT K G1 a xs := fun a xs h => by
      rcases h with (h | ⟨o, h⟩) | h
      · refine .inl (.inl ?_)
        rw [out1 a fun hb => ?_]
        · exact h
        · obtain ⟨vs, ds, z, ro, _⟩ := pOwn a hb
          rw [h] at z
          cases z
          exact ro.elim
      · refine .inl (.inr ⟨o, ?_⟩)
        rw [out1 a fun hb => ?_]
        · exact h
        · obtain ⟨vs, ds, z, ro, _⟩ := pOwn a hb
          rw [h] at z
          cases z
          exact ro.elim
      · exact .inr h
    refine q x y G1 H' sG ⟨s.env.mono sG, k1, fun i ds hi => ?_, s.one⟩ (Rp.sub sT (fl y y1) r) y1
    obtain ⟨p, vs, a1, a2, a3, a4, a5⟩ := s.own i ds hi
    obtain ⟨p', vs', b1, b2, b3⟩ := h1 i ds (List.getElem?_eq_some_iff.mp hi).1 hi
    rw [a1] at b1
    cases b1
    have ev : vs' = vs := by
      have z := k0.1 _ _ b2
      rw [a2] at z
      cases z
      rfl
    subst ev
    exact ⟨p, vs', a1, k.1 _ _ (g _ _ b2), a3.mono sG, in1 p ⟨i, ds, hi, a1⟩, a5⟩
/-- x, y = f(..) where f sees the names' own lists, and what it hands back holds no list -/
theorem ws_asgF {te : TE} {g : TG} {nx bk ct : Nm → Prop} {rt : Dt → Prop} (h : W K te (δ.map seen) fun d => flatD d = true ∧ WGt K g d δ nx) : WS K (tAsg te g) δ nx rt bk ct := fun ω σ G H D s n r b c =>
  run_flat h s (fun d hd => hd.1) fun v d G' H' gs s' rv ⟨_, q⟩ => q ω σ G' H' v _ s' rv fun σ' δ' s2 p => n σ' δ' G' H' gs s2 p
/-- return e, seen of the own lists -/
theorem ws_retF {te : TE} {nx bk ct : Nm → Prop} {rt : Dt → Prop} (h : W K te (δ.map seen) fun d => flatD d = true ∧ rt d) : WS K (tRet te) δ nx rt bk ct := fun ω σ G H D s n r b c =>
  run_flat h s (fun d hd => hd.1) fun v d G' H' gs s' rv ⟨_, q⟩ => r v d G' H' gs s'.ok rv q
/-- x.remove(k), x a list of the name's own -/
theorem ws_rem {te : TE} {nx bk ct : Nm → Prop} {rt : Dt → Prop} {i : Nat} {ns : List Int} (hi : δ[i]? = some (.own (.list (ns.map .int)))) (h : W K te δ fun d => ∃ k, d = .int k ∧ k ∈ ns ∧ nx (δ.set i (.own (.list ((ns.erase k).map .int))))) :
    WS K (tDrop (tRemX K (fun _ _ _ _ => False) (tVar i) te)) δ nx rt bk ct := fun ω σ G H D s n r b c => by
  obtain ⟨p, vs, h1, h2, h3, h4, h5⟩ := s.lst hi
  refine ⟨.ref p, h1, .inl ⟨rfl, vs, .inl (.inl h2)⟩, run_wg (Rel := fun G v d => Rp K G v d) h s fun v d G' H' g s' rp ⟨k, e, hk, q⟩ => ?_⟩
  subst e
  obtain ⟨p', vs', k1, k2, k3, k4, k5⟩ := s'.lst hi
  rw [h1] at k1
  cases k1
  obtain rfl := k3.ints
  exact ⟨p, ns, k, rfl, rp.int_inv, k2, fun _ => n σ _ G' _ g (s'.chg (ws := .lst _) (ds' := .list _) hi h1 k4 k5 (RpAll.of_ints _)) q, fun z => absurd hk z⟩
/-- x = list(range(n)), owned by x -/
theorem ws_ownRg {te : TE} {nx bk ct : Nm → Prop} {rt : Dt → Prop} {i : Nat} (hn : (0 : Nat) = 0) (hl' : (δ[i]?).isSome = true) (h : W K te δ fun d => ∃ n : Int, d = .int n ∧ 0 ≤ n ∧ n ≤ 1000000 ∧ nx (δ.set i (.own (.list ((upI 0 n.toNat).map .int))))) :
    WS K (tAsg (tLstRg (tRg1 te)) (gName i)) δ nx rt bk ct := fun ω σ G H D s n r b c => by
  have hl := lt_of_isSome hl'
  refine run_wg (Rel := fun G v d => Rp K G v d) h s fun v d G1 H1 g1 s1 r1 ⟨m, e1, m0, m1, q⟩ => ?_
  subst e1
  obtain rfl := r1.int_inv
  refine ⟨m, rfl, RgOk.of_le (Int.le_refl 0) (by omega) (by omega) m0, fun p hp => ?_⟩
  have e : rgV 0 m = (upI 0 m.toNat).map V.int := by
    unfold rgV upI
    rw [Int.sub_zero, List.map_map]
    rfl
  rw [e]
  exact n _ _ G1 _ g1 (s1.take (i := i) (o := .lst ((upI 0 m.toNat).map V.int)) (d := .list ((upI 0 m.toNat).map .int)) hn hl hp (RpAll.of_ints _)) q
end
end DW
namespace DW
open PySem PySem.Spec PyProof.Rows L2
variable [Tabl]
/-! ### an int or None -/
def optD : Option Int → Dt
  | none => .none
  | some i => .int i
def optV : Option Int → V
  | none => .non
  | some i => .int i
theorem rp_opts {K : PySem.W.Frag} {G : Hp} : ∀ {fs : List (Option Int)} {xs : List V}, RpAll K G xs (fs.map optD) → xs = fs.map optV
  | [], _, h => by cases h; rfl
  | f :: fs, _, h => by
    cases h with
    | cons q r =>
      rw [rp_opts r]
      cases f with
      | none => cases q; rfl
      | some i => cases q; rfl
theorem flat_opts (fs : List (Option Int)) : (fs.map optV).all flatV = true := by
  rw [List.all_eq_true]
  intro x hx
  obtain ⟨f, _, rfl⟩ := List.mem_map.mp hx
  cases f <;> rfl
theorem inV_opts (fs : List (Option Int)) : inV .non (fs.map optV) = fs.any Option.isNone := by
  unfold inV
  rw [List.any_map]
  congr 1
  funext f
  cases f <;> rfl
theorem o_noneInT {K : PySem.W.Frag} {R : Dt → Prop} {fs : List (Option Int)} (r : R (.bool (fs.any Option.isNone))) : OpD K (rIn K false) .none (.tuple (fs.map optD)) R := fun ω G H v u Q k h1 h2 q => by
  obtain ⟨a, xs, rfl, hs, ra⟩ := h2.tuple_inv
  obtain rfl := rp_opts ra
  obtain rfl := h1.none_inv
  exact ⟨a, _, rfl, .inr (same_t k.1 hs), rfl, flat_opts fs, q _ _ G H (Same.refl G) k (by rw [if_neg Bool.false_ne_true, inV_opts]; exact .bl _) r⟩
theorem flat_optD (f : Option Int) : flatD (optD f) = true := by cases f <;> rfl
theorem flat_intsD : ∀ ns : List Int, flatAll (ns.map .int) = true
  | [] => rfl
  | n :: ns => by
    rw [List.map_cons]
    unfold flatAll
    rw [flat_intsD ns]
    rfl
/-! ### whoever gets through stops -/
def loudL (ps : List Pt) (os left : List Int) (t : Int) : List Int := left.filter fun w => sndJ ps os w.toNat t
def aloneF (ps : List Pt) (os left : List Int) : Nat → Int → Option (Int × Int)
  | 0, _ => none
  | n + 1, t => match loudL ps os left t with
    | [w] => some (w, t)
    | _ => aloneF ps os left n (t + 1)
def aloneD : Option (Int × Int) → Dt
  | none => .tuple [.none, .none]
  | some (w, t) => .tuple [.int w, .int t]
def stopsF (ps : List Pt) (os : List Int) (n : Nat) : Nat → List Int → Int → List (Option Int) → List (Option Int)
  | 0, _, _, f => f
  | k + 1, left, s, f => match aloneF ps os left n s with
    | none => f
    | some (w, t) => stopsF ps os n k (left.erase w) (t + 1) (f.set w.toNat (some t))
def stopsL (ps : List Pt) (os : List Int) (n : Nat) : List (Option Int) := stopsF ps os n ps.length (upI 0 ps.length) 0 (List.replicate ps.length none)
theorem alone_mem {ps : List Pt} {os left : List Int} : ∀ {n : Nat} {s w t : Int}, aloneF ps os left n s = some (w, t) → w ∈ left ∧ s ≤ t ∧ t < s + (n : Int)
  | 0, _, _, _, h => nomatch h
  | n + 1, s, w, t, h => by
    unfold aloneF at h
    split at h
    · rename_i v hv
      obtain ⟨rfl, rfl⟩ : v = w ∧ s = t := by
        injection h with h
        injection h with a b
        exact ⟨a, b⟩
      have : v ∈ loudL ps os left s := by rw [hv]; exact List.mem_singleton.mpr rfl
      exact ⟨(List.mem_filter.mp this).1, by omega, by omega⟩
    · obtain ⟨a, b, c⟩ := alone_mem h
      exact ⟨a, by omega, by omega⟩
theorem stopsF_len {ps : List Pt} {os : List Int} {n : Nat} : ∀ (k : Nat) (left : List Int) (s : Int) (f : List (Option Int)), (stopsF ps os n k left s f).length = f.length
  | 0, _, _, _ => rfl
  | k + 1, left, s, f => by
    unfold stopsF
    split
    · rfl
    · rw [stopsF_len k, List.length_set]
theorem stops_nil (ps : List Pt) (os : List Int) (n : Nat) : ∀ k s f, stopsF ps os n k [] s f = f
  | 0, _, _ => rfl
  | k + 1, s, f => by
    have : ∀ m t, aloneF ps os [] m t = none := fun m => by
      induction m with
      | zero => intro t; rfl
      | succ m ih => intro t; exact ih (t + 1)
    unfold stopsF
    rw [this]
theorem stops_at {ps : List Pt} {os : List Int} {n : Nat} : ∀ (k : Nat) (left : List Int) (s : Int) (f : List (Option Int)) (t : Int), some t ∈ stopsF ps os n k left s f → some t ∈ f ∨ (s ≤ t ∧ t < s + (k * n : Nat))
  | 0, _, _, _, _, h => .inl h
  | k + 1, left, s, f, t, h => by
    unfold stopsF at h
    split at h
    · exact .inl h
    · rename_i w u hu
      have a := alone_mem hu
      have e : (((k + 1) * n : Nat) : Int) = ((k * n : Nat) : Int) + (n : Int) := by rw [Nat.succ_mul]; omega
      rcases stops_at k _ _ _ t h with z | z
      · rcases List.mem_or_eq_of_mem_set z with z | z
        · exact .inl z
        · cases z
          exact .inr (by omega)
      · exact .inr (by omega)
/-! ### how long one waits -/
def posF (w : Int) : Int → List Int → List Int
  | _, [] => []
  | k, x :: xs => if x = w then k :: posF w (k + 1) xs else posF w (k + 1) xs
def gapsL (n : Int) (T : List Int) : List Int := (T.zip (T.drop 1 ++ [T.headD 0 + n])).map fun z => z.2 - z.1 - 1
def maxL : List Int → Int
  | [] => 0
  | g :: gs => gs.foldl max g
def waitI (L : List Int) (w : Int) : Int := maxL (gapsL L.length (posF w 0 L))
theorem posF_append (w : Int) : ∀ (xs : List Int) (k : Int) (y : Int), posF w k (xs ++ [y]) = posF w k xs ++ (if y = w then [k + (xs.length : Int)] else [])
  | [], k, y => by
    show (if y = w then k :: posF w (k + 1) [] else posF w (k + 1) []) = [] ++ _
    simp [posF]
  | x :: xs, k, y => by
    have ih := posF_append w xs (k + 1) y
    have e : k + 1 + (xs.length : Int) = k + ((x :: xs).length : Int) := by rw [List.length_cons]; omega
    rw [e] at ih
    show (if x = w then k :: posF w (k + 1) (xs ++ [y]) else posF w (k + 1) (xs ++ [y])) = (if x = w then k :: posF w (k + 1) xs else posF w (k + 1) xs) ++ _
    rw [ih]
    split <;> simp
theorem posF_len (w : Int) : ∀ (xs : List Int) (k : Int), (posF w k xs).length = xs.count w
  | [], _ => rfl
  | x :: xs, k => by
    rw [List.count_cons]
    unfold posF
    by_cases h : x = w
    · rw [if_pos h, List.length_cons, posF_len w xs, if_pos (by simpa using h)]
    · rw [if_neg h, posF_len w xs, if_neg (by simpa using h), Nat.add_zero]
theorem posF_mem {w : Int} : ∀ {xs : List Int} {k t : Int}, t ∈ posF w k xs → k ≤ t ∧ t < k + (xs.length : Int)
  | [], _, _, h => nomatch h
  | x :: xs, k, t, h => by
    rw [List.length_cons]
    unfold posF at h
    split at h
    · rcases List.mem_cons.mp h with e | h
      · omega
      · have := posF_mem h
        omega
    · have := posF_mem h
      omega
theorem maxL_is {ns : List Int} {m : Int} (hm : m ∈ ns) (h : ∀ y ∈ ns, y ≤ m) : maxL ns = m := by
  match ns, hm, h with
  | g :: gs, hm, h =>
    obtain ⟨a, b⟩ := fold_max gs g
    have := h _ a
    have := b m hm
    show gs.foldl max g = m
    omega
def enP : Int → List Int → List (Int × Int)
  | _, [] => []
  | k, x :: xs => (k, x) :: enP (k + 1) xs
theorem enP_len : ∀ (k : Int) (L : List Int), (enP k L).length = L.length
  | _, [] => rfl
  | k, _ :: L => by
    show (enP (k + 1) L).length + 1 = L.length + 1
    rw [enP_len (k + 1) L]
theorem enums_ints : ∀ (L : List Int) (n : Nat), enums n (L.map PyData.int) = (enP (n : Int) L).map fun p => .tuple [.int p.1, .int p.2]
  | [], _ => rfl
  | x :: L, n => by
    show PyData.tuple [.int (n : Int), .int x] :: enums (n + 1) (L.map PyData.int) = PyData.tuple [.int (n : Int), .int x] :: (enP ((n : Int) + 1) L).map _
    rw [enums_ints L (n + 1)]
    rfl
theorem enP_pos (w : Int) : ∀ (L : List Int) (k : Int), (((enP k L).filter fun p => decide (p.2 = w)).map fun p => PyData.int p.1) = (posF w k L).map PyData.int
  | [], _ => rfl
  | x :: L, k => by
    show ((((k, x) :: enP (k + 1) L).filter fun p => decide (p.2 = w)).map fun p => PyData.int p.1) = (if x = w then k :: posF w (k + 1) L else posF w (k + 1) L).map PyData.int
    by_cases h : x = w
    · rw [if_pos h, List.filter_cons_of_pos (by simpa using h), List.map_cons, List.map_cons, enP_pos w L (k + 1)]
    · rw [if_neg h, List.filter_cons_of_neg (by simpa using h), enP_pos w L (k + 1)]
theorem cut_tail (t : Int) (T : List Int) : cutD ((t :: T).map PyData.int) (some 1) none = T.map PyData.int := by
  unfold cutD
  simp [HT.sIx]
  exact List.take_of_length_le (by simp)
theorem dats_app {A : List Dt} {B : List DW.E} {C : List Dt} (h : dats B = some C) : dats (A.map DW.E.dat ++ B) = some (A ++ C) := by
  induction A with
  | nil => exact h
  | cons a A ih =>
    show (dats (A.map DW.E.dat ++ B)).map _ = _
    rw [ih]
    rfl
theorem up_lenI (lo : Int) (k : Nat) : (upI lo k).length = k := by
  unfold upI
  rw [List.length_map, List.length_range]
theorem up_bnd {k : Nat} {w : Int} (h : w ∈ upI 0 k) : 0 ≤ w ∧ w < (k : Int) := by
  unfold upI at h
  obtain ⟨i, hi, rfl⟩ := List.mem_map.mp h
  have := List.mem_range.mp hi
  omega
theorem flat_optsD : ∀ f : List (Option Int), flatD (.tuple (f.map optD)) = true
  | f => by
    show flatAll (f.map optD) = true
    induction f with
    | nil => rfl
    | cons x f ih =>
      rw [List.map_cons]
      unfold flatAll
      rw [ih, flat_optD]
      rfl
theorem ints_inj {A B : List Int} (h : A.map PyData.int = B.map PyData.int) : A = B :=
  offs_inj (congrArg PyData.tuple h)
/-! ### the longest wait, the last stop -/
def waitC (ps : List Pt) (w : Nat) (os : List Int) : Int := waitI (lineL ps os (spanN ps)) w
def LongQ (ps : List Pt) (w : Nat) (r : Dt) : Prop :=
  (∃ os ∈ classL ps, kindN ps w os = 0 ∧ (∀ qs ∈ classL ps, kindN ps w qs = 0 → ¬ qs < os) ∧ r = .tuple [.none, offsD os]) ∨
  ((∀ qs ∈ classL ps, kindN ps w qs ≠ 0) ∧ ∃ (i : Nat) (os : List Int), (classL ps)[i]? = some os ∧ (∀ (j : Nat) (qs : List Int), (classL ps)[j]? = some qs → waitC ps w qs ≤ waitC ps w os ∧ (j < i → waitC ps w qs < waitC ps w os)) ∧ r = .tuple [.int (waitC ps w os), offsD os])
theorem long_none {ps : List Pt} {w : Nat} {os0 : List Int} {r : Dt} (h : LongQ ps w r)
    (hb : decide (os0 ∈ classL ps) = true ∧ kindN ps w os0 = 0 ∧ ((classL ps).all fun (qs : List Int) => decide (kindN ps w qs ≠ 0) || decide (qs = os0) || decide (os0 < qs)) = true) : r = .tuple [.none, offsD os0] := by
  obtain ⟨h0, hk, hb⟩ := hb
  have h0 := of_decide_eq_true h0
  rcases h with ⟨os, ho, ok, hm, rfl⟩ | ⟨hn, _⟩
  · have := List.all_eq_true.mp hb os ho
    rw [Bool.or_eq_true, Bool.or_eq_true] at this
    rcases this with (z | z) | z
    · exact absurd ok (of_decide_eq_true z)
    · rw [of_decide_eq_true z]
    · exact absurd (of_decide_eq_true z) (hm os0 h0 hk)
  · exact absurd hk (hn os0 h0)
theorem long_some {ps : List Pt} {w : Nat} {i0 : Nat} {os0 : List Int} {m : Int} {r : Dt} (h : LongQ ps w r)
    (hb : (classL ps)[i0]? = some os0 ∧ waitC ps w os0 = m ∧ ((classL ps).all fun qs => decide (kindN ps w qs ≠ 0) && decide (waitC ps w qs ≤ m)) = true ∧ (((classL ps).take i0).all fun qs => decide (waitC ps w qs < m)) = true) : r = .tuple [.int m, offsD os0] := by
  obtain ⟨h0, rfl, hb, hc⟩ := hb
  have hb := fun qs hq => List.all_eq_true.mp hb qs hq
  rcases h with ⟨os, ho, ok, hm, rfl⟩ | ⟨hn, i, os, ho, hm, rfl⟩
  · have := hb os ho
    rw [Bool.and_eq_true] at this
    exact absurd ok (of_decide_eq_true this.1)
  · have a1 := hm i0 os0 h0
    have a2 : waitC ps w os ≤ waitC ps w os0 := by
      have := hb os (List.mem_of_getElem? ho)
      rw [Bool.and_eq_true] at this
      exact of_decide_eq_true this.2
    have e : waitC ps w os = waitC ps w os0 := by omega
    have n1 : ¬ i0 < i := fun z => by
      have := a1.2 z
      omega
    have n2 : ¬ i < i0 := fun z => by
      have m1 : os ∈ (classL ps).take i0 := List.mem_of_getElem? (i := i) (by rw [List.getElem?_take_of_lt z]; exact ho)
      have := of_decide_eq_true (List.all_eq_true.mp hc os m1)
      omega
    have : i = i0 := by omega
    subst this
    rw [ho] at h0
    cases h0
    rfl
def topO (s : List (Option Int)) : Int := maxL (s.map fun x => x.getD 0)
def lastF (ps : List Pt) (n : Nat) : List (List Int) → Int → Dt → Dt
  | [], l, f => .tuple [.int l, f]
  | os :: rest, l, f => if (stopsL ps os n).any Option.isNone = true then .tuple [.none, offsD os] else if l < topO (stopsL ps os n) then lastF ps n rest (topO (stopsL ps os n)) (offsD os) else lastF ps n rest l f
def lastD (ps : List Pt) : Dt := lastF ps (spanN ps) (belowL (ps.map fun p => p.1)) (-1) .none
theorem opt_ints : ∀ {s : List (Option Int)}, s.any Option.isNone = false → s.map optD = (s.map fun x => x.getD 0).map .int
  | [], _ => rfl
  | none :: s, h => by cases h
  | some x :: s, h => by
    rw [List.map_cons, List.map_cons, List.map_cons, opt_ints (s := s) (by simpa using h)]
    rfl
theorem box_offs : ∀ {ps : List Pt} {os : List Int}, Box os (ps.map fun p => p.1) → os.length = ps.length ∧ ∀ q ∈ os.zip ps, 0 ≤ q.1 ∧ q.1 < q.2.1
  | [], [], _ => ⟨rfl, fun q hq => nomatch hq⟩
  | [], _ :: _, h => h.elim
  | _ :: _, [], h => h.elim
  | p :: ps, o :: os, ⟨h1, h2⟩ => by
    obtain ⟨a, b⟩ := box_offs h2
    refine ⟨by rw [List.length_cons, List.length_cons, a], fun q hq => ?_⟩
    rw [List.zip_cons_cons] at hq
    rcases List.mem_cons.mp hq with rfl | hq
    · exact h1
    · exact b q hq
end DW
namespace DW
open PySem PySem.Spec PyProof.Rows L2
variable [Tabl]
/-! ### the least and the greatest number over all offsets and over the classes -/
/-- which kind the place in the counts is of -/
def kOf (n at' : Nat) : Int := if at' = 0 then -1 else if at' = n + 1 then -2 else (at' : Int) - 1
theorem counts_at {ps : List Pt} {os : List Int} {a : Nat} (h : a ≤ ps.length + 1) : (countsL ps os)[a]? = some ((kindN ps (kOf ps.length a) os : Nat) : Int) := by
  unfold countsL kOf
  match a, h with
  | 0, _ => rfl
  | b + 1, h =>
    have e : ∀ (x z : Int) (ys : List Int), (x :: ys ++ [z])[b + 1]? = (ys ++ [z])[b]? := fun x z ys => rfl
    rw [e, if_neg (Nat.succ_ne_zero b)]
    by_cases c : b < ps.length
    · rw [if_neg (by omega), List.getElem?_append_left (by rw [List.length_map, upI_len]; exact c), List.getElem?_map]
      have : (upI 0 ps.length)[b]? = some (b : Int) := by
        unfold upI
        rw [List.getElem?_map, List.getElem?_range c]
        simp
      rw [this]
      show some _ = some _
      congr 3
      omega
    · have eb : b = ps.length := by omega
      subst eb
      rw [if_pos rfl, List.getElem?_append_right (by rw [List.length_map, upI_len]; omega), List.length_map, upI_len, Nat.sub_self]
      rfl
theorem class_of {ps : List Pt} (h : ∀ p ∈ ps, 0 < p.1) {os : List Int} (hb : Box os (ps.map (·.1))) : ∃ cs ∈ classL ps, ¬ os < cs ∧ ∀ k, kindN ps k cs = kindN ps k os := by
  have len : os.length = ps.length := by
    have := hb.len
    rw [List.length_map] at this
    exact this
  obtain ⟨t, ht⟩ := class_ex h len
  have le := box_least (s := 1) (t := -t) h (by exact Int.one_dvd _) (mem_below.mp ht)
  rw [put_back hb] at le
  exact ⟨_, ht, lexle_lt le, fun k => kind_put h os t k⟩
theorem class_wide {ps : List Pt} (h : ∀ p ∈ ps, 0 < p.1) {os : List Int} (ho : os ∈ classL ps) : Box os (ps.map (·.1)) := box_wide h (mem_below.mp ho)
/-- the least row of all offsets of a set that holds the classes is the least row of the classes -/
theorem few_same {ps : List Pt} {k : Int} {D : List Int → Prop} (h : ∀ p ∈ ps, 0 < p.1) (h1 : ∀ c ∈ classL ps, D c) (h2 : ∀ s, D s → Box s (ps.map (·.1)))
    {s c : List Int} (hs : D s) (ms : ∀ y, D y → ¬ rowlt (((kindN ps k y : Nat) : Int), y) (((kindN ps k s : Nat) : Int), s))
    (hc : c ∈ classL ps) (mc : ∀ y ∈ classL ps, ¬ rowlt (((kindN ps k y : Nat) : Int), y) (((kindN ps k c : Nat) : Int), c)) : s = c := by
  obtain ⟨cs, hcs, nlt, hk⟩ := class_of h (h2 s hs)
  have hk := hk k
  have a1 : ¬ rowlt (((kindN ps k c : Nat) : Int), c) (((kindN ps k s : Nat) : Int), s) := ms c (h1 c hc)
  have a2 : ¬ rowlt (((kindN ps k cs : Nat) : Int), cs) (((kindN ps k c : Nat) : Int), c) := mc cs hcs
  unfold rowlt at a1 a2
  simp only [not_or, not_and] at a1 a2
  have e : kindN ps k s = kindN ps k c := by omega
  have n1 : ¬ c < s := a1.2 (by omega)
  have n2 : ¬ cs < c := a2.2 (by omega)
  have n3 : ¬ s < c := fun z => n2 <| by
    by_cases y : cs < s
    · exact llt_trans y z
    · rw [llt_tri y nlt]
      exact z
  exact llt_tri n3 n1
theorem great_same {ps : List Pt} {k : Int} {D : List Int → Prop} (h : ∀ p ∈ ps, 0 < p.1) (h1 : ∀ c ∈ classL ps, D c) (h2 : ∀ s, D s → Box s (ps.map (·.1)))
    {s c : List Int} (hs : D s) (ms : ∀ y, D y → kindN ps k y ≤ kindN ps k s ∧ (kindN ps k y = kindN ps k s → ¬ y < s))
    (hc : c ∈ classL ps) (mc : ∀ y ∈ classL ps, kindN ps k y ≤ kindN ps k c ∧ (kindN ps k y = kindN ps k c → ¬ y < c)) : s = c := by
  obtain ⟨cs, hcs, nlt, hk⟩ := class_of h (h2 s hs)
  have hk := hk k
  have a1 := ms c (h1 c hc)
  have a2 := mc cs hcs
  have e : kindN ps k s = kindN ps k c := by omega
  have n1 : ¬ c < s := a1.2 (by omega)
  have n2 : ¬ cs < c := a2.2 (by omega)
  have n3 : ¬ s < c := fun z => n2 <| by
    by_cases y : cs < s
    · exact llt_trans y z
    · rw [llt_tri y nlt]
      exact z
  exact llt_tri n3 n1
def krow (ps : List Pt) (k : Int) (s : List Int) : Int × List Int := (((kindN ps k s : Nat) : Int), s)
/-- the least and the greatest row of the offsets of a set -/
def DueR (ps : List Pt) (k : Int) (D : List Int → Prop) (r : Dt) : Prop := ∃ s m, D s ∧ D m ∧ (∀ y, D y → ¬ rowlt (krow ps k y) (krow ps k s)) ∧ (∀ y, D y → kindN ps k y ≤ kindN ps k m ∧ (kindN ps k y = kindN ps k m → ¬ y < m)) ∧ r = .list [rowD (krow ps k s), rowD (krow ps k m)]
theorem krow_tidy {ps : List Pt} {k : Int} {s : List Int} (hc : Crowd ps) (ho : Offs ps s) (hs : spanN ps ≤ 420) : Tidy (rowD (krow ps k s)) 2 300 := by
  have kb : kindN ps k s ≤ 420 := by
    unfold kindN
    have := List.count_le_length (a := k) (l := lineL ps s (spanN ps))
    rw [line_len] at this
    omega
  have a : Tidy (.int ((kindN ps k s : Nat) : Int)) 1 40 := (tidy_int (by omega)).mono (Nat.zero_le _) (Nat.le_refl _)
  have b : Tidy (offsD s) 1 164 := offs_tidy hc ho
  exact (tidy_tup (tidyAll_cons a (tidyAll_cons b tidyAll_nil))).mono (by omega) (by omega)
theorem rows_show {ps : List Pt} {k : Int} {s m : List Int} (hc : Crowd ps) (h1 : Offs ps s) (h2 : Offs ps m) (hs : spanN ps ≤ 420) : Shows (.list [rowD (krow ps k s), rowD (krow ps k m)]) :=
  (tidy_list (tidyAll_cons (krow_tidy hc h1 hs) (tidyAll_cons (krow_tidy hc h2 hs) tidyAll_nil))).shows (by omega) (by omega)
theorem kOf_mark {n : Nat} {m : Int} (h0 : -2 ≤ m) (h1 : m < (n : Int)) : ∃ a : Nat, a ≤ n + 1 ∧ kOf n a = m ∧ (a : Int) = if m = -2 then (n : Int) + 1 else m + 1 := by
  unfold kOf
  by_cases h : m = -2
  · exact ⟨n + 1, by omega, by rw [if_neg (by omega), if_pos rfl]; exact h.symm, by rw [if_pos h]; omega⟩
  · refine ⟨(m + 1).toNat, by omega, ?_, by rw [if_neg h]; omega⟩
    by_cases z : m = -1
    · rw [if_pos (by omega)]
      exact z.symm
    · rw [if_neg (by omega), if_neg (by omega)]
      omega
theorem few_by {ps : List Pt} {k : Int} {c o : List Int} (hc : c ∈ classL ps) (mc : ∀ y ∈ classL ps, ¬ rowlt (((kindN ps k y : Nat) : Int), y) (((kindN ps k c : Nat) : Int), c))
    (ho : decide (o ∈ classL ps) = true ∧ ((classL ps).all fun (y : List Int) => decide (y = o) || decide (rowlt (((kindN ps k o : Nat) : Int), o) (((kindN ps k y : Nat) : Int), y))) = true) : c = o := by
  have h := List.all_eq_true.mp ho.2 c hc
  rw [Bool.or_eq_true] at h
  rcases h with h | h
  · exact of_decide_eq_true h
  · exact absurd (of_decide_eq_true h) (mc o (of_decide_eq_true ho.1))
theorem great_by {ps : List Pt} {k : Int} {c o : List Int} (hc : c ∈ classL ps) (mc : ∀ y ∈ classL ps, kindN ps k y ≤ kindN ps k c ∧ (kindN ps k y = kindN ps k c → ¬ y < c))
    (ho : decide (o ∈ classL ps) = true ∧ ((classL ps).all fun (y : List Int) => decide (y = o) || decide (kindN ps k y < kindN ps k o) || (decide (kindN ps k y = kindN ps k o) && decide (o < y))) = true) : c = o := by
  have h := List.all_eq_true.mp ho.2 c hc
  have m := mc o (of_decide_eq_true ho.1)
  rw [Bool.or_eq_true, Bool.or_eq_true, Bool.and_eq_true] at h
  rcases h with (h | h) | ⟨h, h2⟩
  · exact of_decide_eq_true h
  · have := of_decide_eq_true h
    omega
  · have e := of_decide_eq_true h
    exact absurd (of_decide_eq_true h2) (m.2 e.symm)
end DW
namespace DW
open PySem PySem.Spec PyProof.Rows L2
variable [Tabl]
/-! ### stops told tick by tick are the stops told one after another -/
def restO (n : Nat) (f : List (Option Int)) : List Int := (upI 0 n).filter fun w => decide (f[w.toNat]? = some none)
def tickF (ps : List Pt) (os : List Int) (t : Int) (f : List (Option Int)) : List (Option Int) := match loudL ps os (restO ps.length f) t with
  | [w] => f.set w.toNat (some t)
  | _ => f
def runF (ps : List Pt) (os : List Int) : Nat → Int → List (Option Int) → List (Option Int)
  | 0, _, f => f
  | m + 1, t, f => runF ps os m (t + 1) (tickF ps os t f)
theorem rest_mem {n : Nat} {f : List (Option Int)} {w : Int} : w ∈ restO n f ↔ (0 ≤ w ∧ w < (n : Int)) ∧ f[w.toNat]? = some none := by
  unfold restO
  rw [List.mem_filter, mem_upI, decide_eq_true_eq]
  constructor
  · rintro ⟨⟨a, b⟩, c⟩
    exact ⟨⟨a, by omega⟩, c⟩
  · rintro ⟨⟨a, b⟩, c⟩
    exact ⟨⟨a, by omega⟩, c⟩
theorem upI_nodup (n : Nat) : (upI 0 n).Nodup := by
  unfold upI
  refine List.Pairwise.map (R := (· ≠ ·)) _ (fun a b h e => h ?_) List.nodup_range
  have : (0 : Int) + (a : Nat) = 0 + (b : Nat) := e
  omega
theorem rest_set {n : Nat} {f : List (Option Int)} {w t : Int} (hw : w ∈ restO n f) : restO n (f.set w.toNat (some t)) = (restO n f).erase w := by
  obtain ⟨⟨w0, w1⟩, hf⟩ := rest_mem.mp hw
  have nd : (restO n f).Nodup := (upI_nodup n).filter _
  rw [nd.erase_eq_filter]
  unfold restO
  rw [List.filter_filter]
  refine List.filter_congr fun x hx => ?_
  obtain ⟨x0, x1⟩ := mem_upI.mp hx
  by_cases e : x = w
  · subst e
    have l := (List.getElem?_eq_some_iff.mp hf).1
    rw [List.getElem?_set_self l]
    simp
  · have ne : w.toNat ≠ x.toNat := fun z => e (by omega)
    rw [List.getElem?_set_ne ne]
    simp [e]
theorem loud_per {ps : List Pt} {os left : List Int} {W : Int} (h : ∀ p ∈ ps, p.1 ∣ W) (t : Int) : loudL ps os left (t + W) = loudL ps os left t := by
  unfold loudL
  refine List.filter_congr fun w _ => ?_
  unfold sndJ
  split
  · rename_i p o hp ho
    exact snd_per (h p (List.mem_of_getElem? hp))
  · rfl
theorem loud_perN {ps : List Pt} {os left : List Int} {W : Int} (h : ∀ p ∈ ps, p.1 ∣ W) (t : Int) : ∀ k : Nat, loudL ps os left (t + (k : Int) * W) = loudL ps os left t
  | 0 => by
    rw [show t + ((0 : Nat) : Int) * W = t by omega]
  | k + 1 => by
    have e : t + ((k + 1 : Nat) : Int) * W = t + (k : Int) * W + W := by
      rw [show ((k + 1 : Nat) : Int) = (k : Int) + 1 by omega, Int.add_mul, Int.one_mul]
      omega
    rw [e, loud_per h, loud_perN h t k]
theorem run_quiet {ps : List Pt} {os : List Int} {f : List (Option Int)} : ∀ (m : Nat) (s : Int), (∀ t, s ≤ t → ∀ w, loudL ps os (restO ps.length f) t ≠ [w]) → runF ps os m s f = f
  | 0, _, _ => rfl
  | m + 1, s, h => by
    have e : tickF ps os s f = f := by
      unfold tickF
      split
      · rename_i w hw
        exact absurd hw (h s (Int.le_refl _) w)
      · rfl
    show runF ps os m (s + 1) (tickF ps os s f) = f
    rw [e]
    exact run_quiet m (s + 1) fun t ht => h t (by omega)
theorem alone_none {ps : List Pt} {os left : List Int} : ∀ {n : Nat} {s : Int}, aloneF ps os left n s = none → ∀ t, s ≤ t → t < s + (n : Int) → ∀ w, loudL ps os left t ≠ [w]
  | 0, s, _, t, h0, h1, _ => by omega
  | n + 1, s, h, t, h0, h1, w => by
    unfold aloneF at h
    split at h
    · cases h
    · rename_i hn
      by_cases e : t = s
      · subst e
        exact hn w
      · exact alone_none h t (by omega) (by omega) w
theorem run_alone {ps : List Pt} {os : List Int} {f : List (Option Int)} : ∀ {n m : Nat} {s w t : Int}, aloneF ps os (restO ps.length f) n s = some (w, t) → n ≤ m → ∃ r : Nat, (r : Int) = (m : Int) - (t - s) - 1 ∧ runF ps os m s f = runF ps os r (t + 1) (f.set w.toNat (some t))
  | 0, _, _, _, _, h, _ => nomatch h
  | n + 1, m, s, w, t, h, hm => by
    obtain ⟨m, rfl⟩ : ∃ k, m = k + 1 := ⟨m - 1, by omega⟩
    unfold aloneF at h
    split at h
    · rename_i v hv
      injection h with h
      injection h with a b
      subst a b
      refine ⟨m, by omega, ?_⟩
      show runF ps os m (s + 1) (tickF ps os s f) = _
      unfold tickF
      rw [hv]
    · rename_i hn
      have e : tickF ps os s f = f := by
        unfold tickF
        split
        · rename_i v hv
          exact absurd hv (hn v)
        · rfl
      obtain ⟨r, h1, h2⟩ := run_alone (m := m) h (by omega)
      refine ⟨r, by omega, ?_⟩
      show runF ps os m (s + 1) (tickF ps os s f) = _
      rw [e, h2]
theorem run_stops {ps : List Pt} {os : List Int} {n : Nat} (h : ∀ p ∈ ps, p.1 ∣ (n : Int)) (n0 : 0 < n) : ∀ (k m : Nat) (s : Int) (f : List (Option Int)), (restO ps.length f).length = k → k * n ≤ m → runF ps os m s f = stopsF ps os n k (restO ps.length f) s f
  | 0, m, s, f, hk, _ => by
    have e : restO ps.length f = [] := List.length_eq_zero_iff.mp hk
    show runF ps os m s f = f
    refine run_quiet m s fun t _ w z => ?_
    rw [e] at z
    cases z
  | k + 1, m, s, f, hk, hm => by
    have en : (k + 1) * n = k * n + n := Nat.succ_mul k n
    unfold stopsF
    cases ha : aloneF ps os (restO ps.length f) n s with
    | none =>
      refine run_quiet m s fun t ht w => ?_
      have nn : (0 : Int) < (n : Int) := by omega
      have d := Int.emod_add_mul_ediv (t - s) (n : Int)
      have r0 := Int.emod_nonneg (t - s) (show (n : Int) ≠ 0 by omega)
      have r1 := Int.emod_lt_of_pos (t - s) nn
      have q0 := Int.ediv_nonneg (show 0 ≤ t - s by omega) (show (0 : Int) ≤ (n : Int) by omega)
      have e : t = (s + (t - s) % (n : Int)) + (((t - s) / (n : Int)).toNat : Int) * (n : Int) := by
        rw [Int.toNat_of_nonneg q0, Int.mul_comm]
        omega
      rw [e, loud_perN h]
      exact alone_none ha _ (by omega) (by omega) w
    | some z =>
      obtain ⟨w, t⟩ := z
      obtain ⟨wm, t0, t1⟩ := alone_mem ha
      obtain ⟨r, hr, e⟩ := run_alone (m := m) ha (by omega)
      have le : (restO ps.length (f.set w.toNat (some t))).length = k := by
        rw [rest_set wm, List.length_erase_of_mem wm, hk]
        rfl
      rw [e, run_stops h n0 k r (t + 1) _ le (by omega), rest_set wm]
theorem rest_all (n : Nat) : restO n (List.replicate n none) = upI 0 n := by
  unfold restO
  rw [List.filter_eq_self]
  intro x hx
  obtain ⟨x0, x1⟩ := mem_upI.mp hx
  rw [List.getElem?_replicate, if_pos (by omega)]
  rfl
/-- told tick by tick, for as many spans as there are senders or more -/
theorem run_all {ps : List Pt} {os : List Int} {n m : Nat} (h : ∀ p ∈ ps, p.1 ∣ (n : Int)) (n0 : 0 < n) (hm : ps.length * n ≤ m) : runF ps os m 0 (List.replicate ps.length none) = stopsL ps os n := by
  have e := run_stops (os := os) h n0 ps.length m 0 (List.replicate ps.length none) (by rw [rest_all, upI_len]) hm
  rw [e, rest_all]
  rfl
end DW
namespace DW
open PySem PySem.Spec PyProof.Rows L2
variable [Tabl]
/-! ### for how many offsets a tick is of a kind -/
def boxL : List Int → List (List Int)
  | [] => [[]]
  | n :: ns => (upI 0 n.toNat).flatMap fun o => (boxL ns).map (o :: ·)
theorem boxL_cons (n : Int) (ns : List Int) : boxL (n :: ns) = (upI 0 n.toNat).flatMap fun o => (boxL ns).map (o :: ·) := rfl
theorem fold_box : ∀ (ns : List Int) (rows : List (List Int)), ns.foldl (fun rows n => rows.flatMap fun r => (upI 0 n.toNat).map fun x => r ++ [x]) rows = rows.flatMap fun r => (boxL ns).map (r ++ ·)
  | [], rows => by
    show rows = rows.flatMap fun r => [r ++ []]
    induction rows with
    | nil => rfl
    | cons r rows ih =>
      rw [List.flatMap_cons, ← ih, List.append_nil]
      rfl
  | n :: ns, rows => by
    rw [List.foldl_cons, fold_box ns, List.flatMap_assoc]
    congr 1
    funext r
    rw [boxL_cons, List.flatMap_map, List.map_flatMap]
    congr 1
    funext o
    rw [List.map_map]
    congr 1
    funext s
    show r ++ [o] ++ s = r ++ (o :: s)
    rw [List.append_assoc]
    rfl
theorem below_box (ns : List Int) : belowL ns = boxL ns := by
  unfold belowL
  rw [fold_box, List.flatMap_cons, List.flatMap_nil, List.append_nil]
  show (boxL ns).map (fun s => [] ++ s) = _
  simp
theorem sum_two {L : List Int} {b : Int → Bool} {x y : Nat} : (L.map fun o => if b o = true then x else y).sum = L.countP b * x + (L.length - L.countP b) * y := by
  induction L with
  | nil => simp
  | cons o L ih =>
    have le := List.countP_le_length (p := b) (l := L)
    rw [List.map_cons, List.sum_cons, ih, List.length_cons]
    by_cases h : b o = true
    · rw [if_pos h, List.countP_cons_of_pos h, Nat.succ_mul, show L.length + 1 - (L.countP b + 1) = L.length - L.countP b by omega]
      omega
    · rw [if_neg h, List.countP_cons_of_neg h, show L.length + 1 - L.countP b = (L.length - L.countP b) + 1 by omega, Nat.succ_mul]
      omega
theorem box_split {n : Int} {ns : List Int} {f g h : List Int → Bool} {b : Int → Bool} (e : ∀ o s, f (o :: s) = if b o = true then g s else h s) :
    (boxL (n :: ns)).countP f = (upI 0 n.toNat).countP b * (boxL ns).countP g + ((upI 0 n.toNat).length - (upI 0 n.toNat).countP b) * (boxL ns).countP h := by
  rw [← sum_two, boxL_cons, List.countP_flatMap]
  congr 1
  refine List.map_congr_left fun o _ => ?_
  show ((boxL ns).map (o :: ·)).countP f = _
  rw [List.countP_map]
  by_cases hb : b o = true
  · rw [if_pos hb]
    refine List.countP_congr fun s _ => ?_
    show f (o :: s) = true ↔ _
    rw [e, if_pos hb]
  · rw [if_neg hb]
    refine List.countP_congr fun s _ => ?_
    show f (o :: s) = true ↔ _
    rw [e, if_neg hb]
theorem count_back (f : Int → Bool) : ∀ N : Nat, (upI 0 N).countP f = (upI 0 N).countP fun x => f ((N : Int) - 1 - x)
  | 0 => rfl
  | N + 1 => by
    have l : (upI 0 (N + 1)).countP f = (upI 0 N).countP f + if f (N : Int) = true then 1 else 0 := by
      rw [upI_snoc, List.countP_append, List.countP_cons, List.countP_nil, Nat.zero_add, Int.zero_add]
    have r : (upI 0 (N + 1)).countP (fun x => f (((N + 1 : Nat) : Int) - 1 - x)) = (upI 0 N).countP (fun x => f ((N : Int) - 1 - x)) + if f (N : Int) = true then 1 else 0 := by
      rw [upI_cons, upI_shift 0 1 N, List.countP_cons, List.countP_map, show ((N + 1 : Nat) : Int) - 1 - 0 = (N : Int) by omega]
      congr 1
      refine List.countP_congr fun x _ => ?_
      show f (((N + 1 : Nat) : Int) - 1 - (x + 1)) = true ↔ f ((N : Int) - 1 - x) = true
      rw [show ((N + 1 : Nat) : Int) - 1 - (x + 1) = (N : Int) - 1 - x by omega]
    rw [l, r, count_back f N]
/-- for how many begins a tick is one of the sender's -/
theorem count_begins {p : Pt} (hp : Beat p.1 p.2) (t : Int) : (upI 0 p.1.toNat).countP (fun o => sndB p o t) = p.2.length := by
  have n0 := hp.n0
  have f1 : ∀ t, decide ((t + ((p.1.toNat : Nat) : Int)) % p.1 ∈ p.2) = decide (t % p.1 ∈ p.2) := fun t => by
    rw [Int.toNat_of_nonneg (by omega), Int.add_emod_right]
  rw [count_back, ← count_own hp, ← count_later (f := fun t => decide (t % p.1 ∈ p.2)) f1 (p.1 - 1 - t)]
  refine List.countP_congr fun x _ => ?_
  show sndB p (((p.1.toNat : Nat) : Int) - 1 - x) t = true ↔ decide ((x - (p.1 - 1 - t)) % p.1 ∈ p.2) = true
  unfold sndB
  rw [Int.toNat_of_nonneg (by omega), show t - (p.1 - 1 - x) = x - (p.1 - 1 - t) by omega]
/-- for how many offsets only a sends -/
def chF (a : Int) (s : Int) : List Pt → Int
  | [] => 1
  | p :: ps => (if s = a then (p.2.length : Int) else p.1 - (p.2.length : Int)) * chF a (s + 1) ps
theorem chF_cons (a s : Int) (p : Pt) (ps : List Pt) : chF a s (p :: ps) = (if s = a then (p.2.length : Int) else p.1 - (p.2.length : Int)) * chF a (s + 1) ps := rfl
theorem chF_out {a b : Int} : ∀ {ps : List Pt} {s : Int}, a < s → b < s → chF a s ps = chF b s ps
  | [], _, _, _ => rfl
  | p :: ps, s, h1, h2 => by
    rw [chF_cons, chF_cons, if_neg (by omega), if_neg (by omega), chF_out (a := a) (b := b) (ps := ps) (s := s + 1) (by omega) (by omega)]
theorem voices_low : ∀ {ps : List Pt} {os : List Int} {s t x : Int}, x ∈ voicesF s ps os t → s ≤ x
  | [], _, _, _, _, h => nomatch h
  | _ :: _, [], _, _, _, h => nomatch h
  | p :: ps, o :: os, s, t, x, h => by
    unfold voicesF at h
    split at h
    · rcases List.mem_cons.mp h with e | h
      · omega
      · have := voices_low h
        omega
    · have := voices_low h
      omega
theorem count_kind {t : Int} : ∀ {ps : List Pt} {s : Int}, (∀ p ∈ ps, Beat p.1 p.2) →
    ((((boxL (ps.map (·.1))).countP fun os => decide (voicesF s ps os t = [])) : Nat) : Int) = chF (s - 1) s ps ∧
    ∀ a : Int, s ≤ a → a < s + (ps.length : Int) → ((((boxL (ps.map (·.1))).countP fun os => decide (voicesF s ps os t = [a])) : Nat) : Int) = chF a s ps
  | [], s, _ => ⟨rfl, fun a h1 h2 => by
    have : s + (([] : List Pt).length : Int) = s := by show s + 0 = s; omega
    omega⟩
  | p :: ps, s, h => by
    have hp := h p List.mem_cons_self
    have n0 := hp.n0
    have few := hp.few
    obtain ⟨q, o⟩ := count_kind (t := t) (ps := ps) (s := s + 1) fun r hr => h r (List.mem_cons_of_mem _ hr)
    have sends := count_begins hp t
    have len : (upI 0 p.1.toNat).length = p.1.toNat := upI_len _ _
    have cb : ((p.1.toNat - p.2.length : Nat) : Int) = p.1 - (p.2.length : Int) := by omega
    have key : ∀ (x y : Nat), (((upI 0 p.1.toNat).countP (fun o => sndB p o t) * x + ((upI 0 p.1.toNat).length - (upI 0 p.1.toNat).countP (fun o => sndB p o t)) * y : Nat) : Int) = (p.2.length : Int) * (x : Int) + (p.1 - (p.2.length : Int)) * (y : Int) := fun x y => by
      rw [sends, len, Int.natCast_add, Int.natCast_mul, Int.natCast_mul, cb]
    have zero : ∀ f : List Int → Bool, (∀ s, f s = false) → (boxL (ps.map (·.1))).countP f = 0 := fun f hf => by
      rw [List.countP_eq_zero]
      intro x _ z
      rw [hf x] at z
      cases z
    constructor
    · rw [List.map_cons, box_split (b := fun o => sndB p o t) (g := fun _ => false) (h := fun os => decide (voicesF (s + 1) ps os t = [])) (fun o os => ?_), key, zero _ fun _ => rfl, q]
      · rw [chF_cons, if_neg (by omega), chF_out (a := s - 1) (b := s + 1 - 1) (by omega) (by omega), Int.natCast_zero, Int.mul_zero, Int.zero_add]
      · show decide (voicesF s (p :: ps) (o :: os) t = []) = _
        conv => lhs; unfold voicesF
        split
        · exact decide_eq_false (fun z => nomatch z)
        · rfl
    · intro a h1 h2
      rw [List.length_cons] at h2
      by_cases e : s = a
      · subst e
        rw [List.map_cons, box_split (b := fun o => sndB p o t) (g := fun os => decide (voicesF (s + 1) ps os t = [])) (h := fun _ => false) (fun o os => ?_), key, zero _ fun _ => rfl, q]
        · rw [chF_cons, if_pos rfl, chF_out (a := s) (b := s + 1 - 1) (by omega) (by omega), Int.natCast_zero, Int.mul_zero, Int.add_zero]
        · show decide (voicesF s (p :: ps) (o :: os) t = [s]) = _
          conv => lhs; unfold voicesF
          split
          · exact decide_eq_decide.mpr ⟨fun z => by injection z, fun z => by rw [z]⟩
          · refine decide_eq_false fun z => ?_
            have := voices_low (x := s) (by rw [z]; exact List.mem_singleton.mpr rfl)
            omega
      · rw [List.map_cons, box_split (b := fun o => sndB p o t) (g := fun _ => false) (h := fun os => decide (voicesF (s + 1) ps os t = [a])) (fun o os => ?_), key, zero _ fun _ => rfl, o a (by omega) (by omega)]
        · rw [chF_cons, if_neg e, Int.natCast_zero, Int.mul_zero, Int.zero_add]
        · show decide (voicesF s (p :: ps) (o :: os) t = [a]) = _
          conv => lhs; unfold voicesF
          split
          · exact decide_eq_false fun z => by injection z with z _; exact e z
          · rfl
theorem chF_snoc (a : Int) (p : Pt) : ∀ (ps : List Pt) (s : Int), chF a s (ps ++ [p]) = chF a s ps * (if s + (ps.length : Int) = a then (p.2.length : Int) else p.1 - (p.2.length : Int))
  | [], s => by
    show (if s = a then (p.2.length : Int) else p.1 - (p.2.length : Int)) * 1 = 1 * (if s + ((0 : Nat) : Int) = a then (p.2.length : Int) else p.1 - (p.2.length : Int))
    rw [Int.mul_one, Int.one_mul, show s + ((0 : Nat) : Int) = s by omega]
  | q :: ps, s => by
    show (if s = a then (q.2.length : Int) else q.1 - (q.2.length : Int)) * chF a (s + 1) (ps ++ [p]) = (if s = a then (q.2.length : Int) else q.1 - (q.2.length : Int)) * chF a (s + 1) ps * _
    rw [chF_snoc a p ps (s + 1), Int.mul_assoc, List.length_cons, show s + 1 + (ps.length : Int) = s + ((ps.length + 1 : Nat) : Int) by omega]
/-- for how many choices of a tick in each period a tick is of the kind -/
def topI (ps : List Pt) (k : Int) : Int := if k = -2 then prodQ ps - ((upI (-1) (ps.length + 1)).map fun a => chF a 0 ps).sum else chF k 0 ps
theorem sum_swapN {α β : Type} (p : α → β → Bool) (M : List β) : ∀ L : List α, (L.map fun s => M.countP (p s)).sum = (M.map fun t => L.countP fun s => p s t).sum
  | [] => by
    show 0 = (M.map fun t => 0).sum
    induction M with
    | nil => rfl
    | cons m M ih =>
      rw [List.map_cons, List.sum_cons, ← ih]
      rfl
  | s :: L => by
    rw [List.map_cons, List.sum_cons, sum_swapN p M L]
    induction M with
    | nil => rfl
    | cons m M ih =>
      rw [List.map_cons, List.map_cons, List.sum_cons, List.sum_cons, ← ih, List.countP_cons, List.countP_cons]
      omega
theorem kind_noneV {v : List Int} (h : ∀ x ∈ v, 0 ≤ x) : kindI v = -1 ↔ v = [] := by
  match v, h with
  | [], _ => exact ⟨fun _ => rfl, fun _ => rfl⟩
  | [x], h =>
    have := h x (List.mem_singleton.mpr rfl)
    show x = -1 ↔ _
    exact ⟨fun e => by omega, fun e => by cases e⟩
  | x :: y :: r, _ =>
    show (-2 : Int) = -1 ↔ _
    exact ⟨fun e => by omega, fun e => by cases e⟩
theorem kind_alone {v : List Int} {a : Int} (h : 0 ≤ a) : kindI v = a ↔ v = [a] := by
  match v with
  | [] =>
    show (-1 : Int) = a ↔ _
    exact ⟨fun e => by omega, fun e => nomatch e⟩
  | [x] =>
    show x = a ↔ _
    exact ⟨fun e => by rw [e], fun e => by injection e⟩
  | _ :: _ :: _ =>
    show (-2 : Int) = a ↔ _
    exact ⟨fun e => by omega, fun e => by injection e with _ e; cases e⟩
theorem sum_kinds {α : Type} (f : α → Int) (L : List α) (lo : Int) : ∀ m : Nat, ((upI lo m).map fun a => L.countP fun s => decide (f s = a)).sum = L.countP fun s => decide (lo ≤ f s ∧ f s < lo + (m : Int))
  | 0 => by
    show 0 = _
    symm
    rw [List.countP_eq_zero]
    intro s _ z
    have := of_decide_eq_true z
    omega
  | m + 1 => by
    rw [upI_snoc, List.map_append, List.sum_append, sum_kinds f L lo m]
    show L.countP _ + (L.countP (fun s => decide (f s = lo + (m : Int))) + 0) = _
    rw [Nat.add_zero]
    induction L with
    | nil => rfl
    | cons s L ih =>
      rw [List.countP_cons, List.countP_cons, List.countP_cons, ← ih]
      by_cases c1 : f s = lo + (m : Int)
      · rw [decide_eq_true c1, decide_eq_false (show ¬ (lo ≤ f s ∧ f s < lo + (m : Int)) by omega), decide_eq_true (show lo ≤ f s ∧ f s < lo + ((m + 1 : Nat) : Int) by omega)]
        simp
        omega
      · by_cases c2 : lo ≤ f s ∧ f s < lo + (m : Int)
        · rw [decide_eq_false c1, decide_eq_true c2, decide_eq_true (show lo ≤ f s ∧ f s < lo + ((m + 1 : Nat) : Int) by omega)]
          simp
          omega
        · rw [decide_eq_false c1, decide_eq_false c2, decide_eq_false (show ¬ (lo ≤ f s ∧ f s < lo + ((m + 1 : Nat) : Int)) by omega)]
          simp
theorem sum_castN : ∀ L : List Nat, ((L.sum : Nat) : Int) = (L.map fun n : Nat => (n : Int)).sum
  | [] => rfl
  | n :: L => by
    rw [List.sum_cons, List.map_cons, List.sum_cons, Int.natCast_add, sum_castN L]
/-- for how many offsets a tick is of a kind -/
theorem count_heard {ps : List Pt} (hc : Crowd ps) (t : Int) {k : Int} (k0 : -2 ≤ k) (k1 : k < (ps.length : Int)) :
    ((((belowL (ps.map (·.1))).countP fun os => decide (heardI ps os t = k)) : Nat) : Int) = topI ps k := by
  have pos := crowd_pos hc
  obtain ⟨q, o⟩ := count_kind (t := t) (ps := ps) (s := 0) hc.all
  have neg : ∀ {os : List Int}, ∀ x ∈ voicesL ps os t, (0 : Int) ≤ x := fun x hx => voices_low hx
  have one : ∀ a : Int, -1 ≤ a → a < (ps.length : Int) → ((((belowL (ps.map (·.1))).countP fun os => decide (heardI ps os t = a)) : Nat) : Int) = chF a 0 ps := fun a a0 a1 => by
    rw [below_box]
    by_cases z : a = -1
    · subst z
      rw [show chF (-1) 0 ps = chF (0 - 1) 0 ps from rfl, ← q]
      congr 1
      refine List.countP_congr fun os _ => ?_
      rw [decide_eq_true_eq, decide_eq_true_eq]
      exact kind_noneV neg
    · rw [← o a (by omega) (by omega)]
      congr 1
      refine List.countP_congr fun os _ => ?_
      rw [decide_eq_true_eq, decide_eq_true_eq]
      exact kind_alone (by omega)
  unfold topI
  by_cases z : k = -2
  · subst z
    rw [if_pos rfl]
    have all := sum_kinds (fun os => heardI ps os t) (belowL (ps.map (·.1))) (-2) (ps.length + 2)
    have full : (belowL (ps.map (·.1))).countP (fun s => decide (-2 ≤ heardI ps s t ∧ heardI ps s t < -2 + ((ps.length + 2 : Nat) : Int))) = (belowL (ps.map (·.1))).length := by
      rw [List.countP_eq_length]
      intro s _
      have := heard_bounds ps s t
      exact decide_eq_true ⟨this.1, by omega⟩
    have len : ((belowL (ps.map (·.1))).length : Int) = prodQ ps := below_len fun m hm => by
      obtain ⟨p, hp, rfl⟩ := List.mem_map.mp hm
      have := pos p hp
      omega
    rw [full, upI_cons, List.map_cons, List.sum_cons] at all
    have e : ((((upI (-2 + 1) (ps.length + 1)).map fun a => (belowL (ps.map (·.1))).countP fun s => decide (heardI ps s t = a)).sum : Nat) : Int) = ((upI (-1) (ps.length + 1)).map fun a => chF a 0 ps).sum := by
      rw [sum_castN, List.map_map]
      congr 1
      refine List.map_congr_left fun a ha => ?_
      unfold upI at ha
      obtain ⟨i, hi, rfl⟩ := List.mem_map.mp ha
      have hi := List.mem_range.mp hi
      exact one _ (by omega) (by omega)
    omega
  · rw [if_neg z]
    exact one k (by omega) k1
/-- the numbers of all offsets together -/
theorem all_sum {ps : List Pt} (hc : Crowd ps) {k : Int} (k0 : -2 ≤ k) (k1 : k < (ps.length : Int)) :
    ((((belowL (ps.map (·.1))).map fun os => kindN ps k os).sum : Nat) : Int) = ((spanN ps : Nat) : Int) * topI ps k := by
  have e : ((belowL (ps.map (·.1))).map fun os => kindN ps k os) = (belowL (ps.map (·.1))).map fun os => (upI 0 (spanN ps)).countP fun t => decide (heardI ps os t = k) :=
    List.map_congr_left fun os _ => kindN_eq ps k os
  rw [e, sum_swapN (fun os t => decide (heardI ps os t = k)), sum_castN, List.map_map]
  have c : ((upI 0 (spanN ps)).map ((fun n : Nat => (n : Int)) ∘ fun t => (belowL (ps.map (·.1))).countP fun s => decide (heardI ps s t = k))) = (upI 0 (spanN ps)).map fun _ => topI ps k :=
    List.map_congr_left fun t _ => count_heard hc t k0 k1
  rw [c]
  have s : ∀ (n : Nat) (x : Int), ((upI 0 n).map fun _ => x).sum = (n : Int) * x := fun n x => by
    induction n with
    | zero => simp [upI]
    | succ n ih =>
      rw [upI_snoc, List.map_append, List.sum_append, ih, show ((n + 1 : Nat) : Int) = (n : Int) + 1 by omega, Int.add_mul, Int.one_mul]
      simp
  exact s _ _
end DW
namespace DW
open PySem PySem.Spec PyProof.Rows L2
variable [Tabl]
/-! ### the numbers of all classes together -/
theorem perm_rest {α : Type} [DecidableEq α] : ∀ {B M : List α}, B.Nodup → (∀ x ∈ B, x ∈ M) → ∃ R, M.Perm (B ++ R)
  | [], M, _, _ => ⟨M, List.Perm.refl _⟩
  | b :: B, M, nd, h => by
    obtain ⟨nb, nd⟩ := List.nodup_cons.mp nd
    have hb := h b List.mem_cons_self
    obtain ⟨R, hR⟩ := perm_rest (B := B) (M := M.erase b) nd fun x hx => by
      have ne : x ≠ b := fun e => nb (e ▸ hx)
      exact (List.mem_erase_of_ne ne).mpr (h x (List.mem_cons_of_mem _ hx))
    exact ⟨R, (List.perm_cons_erase hb).trans (hR.cons b)⟩
def putsL (ps : List Pt) : List (List Int) := (classL ps).flatMap fun c => (upI 0 (spanN ps)).map fun t => putL ps c (-t)
theorem puts_len {ps : List Pt} (h : ∀ p ∈ ps, 0 < p.1) : ((putsL ps).length : Int) = prodQ ps := by
  have e : ∀ L : List (List Int), (L.flatMap fun c => (upI 0 (spanN ps)).map fun t => putL ps c (-t)).length = L.length * spanN ps := fun L => by
    induction L with
    | nil => simp
    | cons c L ih => rw [List.flatMap_cons, List.length_append, ih, List.length_map, upI_len, List.length_cons, Nat.succ_mul, Nat.add_comm]
  unfold putsL
  rw [e, Int.natCast_mul, ← class_number h]
  congr 1
  exact below_len fun m hm => by
    have pos : ∀ (qs : List Pt) (s : Nat), (∀ p ∈ qs, 0 < p.1) → ∀ n ∈ sizesF s qs, 1 ≤ n := by
      intro qs
      induction qs with
      | nil => intro s _ n hn; exact nomatch hn
      | cons q qs ih =>
        intro s hq n hn
        rcases List.mem_cons.mp hn with e | hn
        · have := hq q List.mem_cons_self
          have g := Nat.gcd_pos_of_pos_right s (show 0 < q.1.natAbs by omega)
          rw [e]
          omega
        · exact ih _ (fun p hp => hq p (List.mem_cons_of_mem _ hp)) n hn
    exact pos ps 1 h m hm
theorem puts_perm {ps : List Pt} (h : ∀ p ∈ ps, 0 < p.1) : (putsL ps).Perm (belowL (ps.map (·.1))) := by
  have nd : (belowL (ps.map (·.1))).Nodup := by
    refine List.Pairwise.imp (R := (· < ·)) (S := (· ≠ ·)) (fun {a b} hab e => ?_) (below_asc (ps.map (·.1)))
    rw [e] at hab
    exact llt_irrefl _ hab
  have W := span_whole ps h
  have w0 := W.pos
  obtain ⟨R, hR⟩ := perm_rest (M := putsL ps) nd fun o ho => by
    have hb := mem_below.mp ho
    have len : o.length = ps.length := by
      have := hb.len
      rw [List.length_map] at this
      exact this
    obtain ⟨t, ht⟩ := class_ex h len
    refine List.mem_flatMap.mpr ⟨_, ht, List.mem_map.mpr ⟨t % ((spanN ps : Nat) : Int), mem_upI.mpr ⟨Int.emod_nonneg _ (by omega), ?_⟩, ?_⟩⟩
    · have := Int.emod_lt_of_pos t w0
      omega
    · have back := put_back (t := t) hb
      have d := Int.emod_add_mul_ediv t ((spanN ps : Nat) : Int)
      have e : -(t % ((spanN ps : Nat) : Int)) = -t + ((spanN ps : Nat) : Int) * (t / ((spanN ps : Nat) : Int)) := by omega
      rw [e, putL_add _ _ W.dvd, back]
  have l1 := hR.length_eq
  have l2 := puts_len h
  have l3 : ((belowL (ps.map (·.1))).length : Int) = prodQ ps := below_len fun m hm => by
    obtain ⟨p, hp, rfl⟩ := List.mem_map.mp hm
    have := h p hp
    omega
  rw [List.length_append] at l1
  have r0 : R = [] := List.length_eq_zero_iff.mp (by omega)
  rw [r0, List.append_nil] at hR
  exact hR
/-- the numbers of all classes together are those of one tick over all offsets -/
theorem class_sum {ps : List Pt} (hc : Crowd ps) {k : Int} (k0 : -2 ≤ k) (k1 : k < (ps.length : Int)) :
    ((((classL ps).map fun os => kindN ps k os).sum : Nat) : Int) = topI ps k := by
  rw [← count_heard hc 0 k0 k1, ← (puts_perm (crowd_pos hc)).countP_eq]
  unfold putsL
  rw [List.countP_flatMap]
  congr 2
  refine List.map_congr_left fun c _ => ?_
  show kindN ps k c = ((upI 0 (spanN ps)).map fun t => putL ps c (-t)).countP _
  rw [kindN_eq, List.countP_map]
  refine List.countP_congr fun t _ => ?_
  show decide (heardI ps c t = k) = true ↔ decide (heardI ps (putL ps c (-t)) 0 = k) = true
  unfold heardI voicesL
  rw [voices_put, show (0 : Int) - -t = t by omega]
end DW
namespace DW
open PySem PySem.Spec PyProof.Rows L2
variable [Tabl]
/-! ### a comprehension that reads the names' own lists, its list owned by its name -/
def ownOut (vs : List Nat) : Nm → Nat → Bool
  | [], _ => true
  | .own _ :: δ, i => !vs.contains i && ownOut vs δ (i + 1)
  | _ :: δ, i => ownOut vs δ (i + 1)
theorem own_out {vs : List Nat} : ∀ {δ : Nm} {k : Nat}, ownOut vs δ k = true → ∀ (i : Nat) (ds : Dt), δ[i]? = some (.own ds) → k + i ∉ vs
  | [], _, _, _, _, h => nomatch h
  | e :: δ, k, ho, i, ds, h => by
    have rest : ownOut vs δ (k + 1) = true := by
      cases e <;> first | exact ho | (unfold ownOut at ho; rw [Bool.and_eq_true] at ho; exact ho.2)
    match i, h with
    | 0, h =>
      cases h
      unfold ownOut at ho
      rw [Bool.and_eq_true] at ho
      have := ho.1
      simpa using this
    | i + 1, h =>
      have := own_out rest i ds h
      rw [show k + (i + 1) = k + 1 + i by omega]
      exact this
theorem wipe_own {vs : List Nat} {δ : Nm} {i : Nat} {ds : Dt} : (wipeE δ vs)[i]? = some (.own ds) → i ∉ vs ∧ δ[i]? = some (.own ds) := by
  induction vs with
  | nil => exact fun h => ⟨List.not_mem_nil, h⟩
  | cons v vs ih =>
    intro h
    have h' : ((wipeE δ vs).set v .unk)[i]? = some (.own ds) := h
    by_cases hv : v = i
    · subst hv
      by_cases hl : v < (wipeE δ vs).length
      · rw [List.getElem?_set_self hl] at h'
        cases h'
      · rw [List.getElem?_eq_none (by rw [List.length_set]; omega)] at h'
        cases h'
    · rw [List.getElem?_set_ne hv] at h'
      obtain ⟨a, b⟩ := ih h'
      exact ⟨fun hm => by
        rcases List.mem_cons.mp hm with e | hm
        · exact hv e.symm
        · exact a hm, b⟩
theorem wipe_keep {vs : List Nat} {δ : Nm} {i : Nat} (h : i ∉ vs) : (wipeE δ vs)[i]? = δ[i]? := by
  induction vs with
  | nil => rfl
  | cons v vs ih =>
    show ((wipeE δ vs).set v .unk)[i]? = _
    rw [List.getElem?_set_ne (fun e => h (by rw [e]; exact List.mem_cons_self)), ih fun hm => h (List.mem_cons_of_mem _ hm)]
section
variable {K : PySem.W.Frag} {ω : Wd} {G H : Hp} {δ : Nm} {σ : L2.St} {te : TE} {tt : TT} {nx bk ct : Nm → Prop} {rt : Dt → Prop}
theorem Std.wipe (s : Std K ω G H δ σ) (vs : List Nat) : Std K ω G H (wipeE δ vs) (L2.wipe σ vs) := by
  refine ⟨s.env.wipe vs, s.ok, fun i ds hi => ?_, fun i j ds es hi hj => ?_⟩
  · obtain ⟨a, b⟩ := wipe_own hi
    obtain ⟨p, xs, c, d⟩ := s.own i ds b
    exact ⟨p, xs, by rw [wipe_get, if_neg a]; exact c, d⟩
  · obtain ⟨a, b⟩ := wipe_own hi
    obtain ⟨a', b'⟩ := wipe_own hj
    rw [wipe_get, if_neg a, wipe_get, if_neg a']
    exact s.one i j ds es b b'
theorem w_int_rel {R : Dt → Prop} (h : W K te δ R) (hi : ∀ d, R d → ∃ k : Int, d = .int k) : WG K (fun _ _ (v : V) (d : Dt) => ∃ k : Int, v = .int k ∧ d = .int k) te δ R := fun ω σ G H Q e k q => h ω σ G H Q e k fun x y G' H' g k r ry => by
  have ry' : R y := ry
  obtain ⟨i, rfl⟩ := hi y ry'
  exact q x _ G' H' g k ⟨i, r.int_inv, rfl⟩ ry
/-- xs = [x for x in .. if p(x)], the names' own lists seen by p, owned -/
theorem ws_ownSeen {wi : TI} {j : Nat} {vs : List Nat} {i0 : Nat} {α : Type} (g0 : α → Dt) (p : α → Bool) (f : α → Int) (hj : j ∈ vs) (hl' : (δ[i0]?).isSome = true) (ho' : ownOut vs δ 0 = true) (h : WI K wi δ fun xs => ∃ ps : List α, xs = ps.map g0 ∧ ps.length ≤ 1000000 ∧
    (∀ x, x ∈ ps → WT K tt (((wipeE δ vs).set j (.dat (g0 x))).map seen) fun b => b = p x ∧ (p x = true → W K te (((wipeE δ vs).set j (.dat (g0 x))).map seen) fun y => y = .int (f x))) ∧ nx (δ.set i0 (.own (.list (((ps.filter p).map f).map .int))))) :
    WS K (tAsg (tLc wi (gName j) tt te vs) (gName i0)) δ nx rt bk ct := fun ω σ G H E s n r b c => by
  have ho : ∀ (i : Nat) (ds : Dt), δ[i]? = some (.own ds) → i ∉ vs := fun i ds hi => by
    have := own_out ho' i ds hi
    rwa [Nat.zero_add] at this
  refine run_wg (Rel := fun G J xs => Gives K G J xs) h s fun J xs0 G1 H1 g1 s1 gv ⟨xs, exs, hz, turn, done⟩ D hD => ?_
  subst exs
  have hg := s1.ok.1.free hD
  have far := s1.far hD
  refine ⟨fun i m H' => m = xs.length - i ∧ i ≤ xs.length ∧ ∃ G' acc av, Same G1 G' ∧ Std K ω G' H' δ σ ∧ G' D = none ∧ H' D = some (.lst av) ∧ RpAll K G' av acc ∧ acc.length ≤ i ∧ acc = (((xs.take i).filter p).map f).map .int,
    ⟨_, rfl, Nat.zero_le _, G1, [], [], Same.refl _, s1.write hg far, hg, upd_same, .nil, Nat.le_refl _, rfl⟩, ?_⟩
  rintro i m H' ⟨rfl, hi, G', acc, av, g', s', d1, d2, ra, hl, pa⟩
  by_cases hlt : i < xs.length
  · have hx : xs[i]? = some xs[i] := List.getElem?_eq_getElem hlt
    have hx0 : (xs.map g0)[i]? = some (g0 xs[i]) := by rw [List.getElem?_map, hx]; rfl
    have sD := s'.hold2 d1 d2 far
    obtain ⟨go, yl⟩ := gv.std g' sD hx0
    refine .inr ⟨go, fun H2 => ∃ G2 acc av, Same G1 G2 ∧ Std K ω G2 H2 δ σ ∧ G2 D = none ∧ H2 D = some (.lst av) ∧ RpAll K G2 av acc ∧ acc.length ≤ i + 1 ∧ acc = (((xs.take (i + 1)).filter p).map f).map .int, fun H2 ⟨G2, acc2, av2, z⟩ => ⟨xs.length - (i + 1), by omega, rfl, hlt, G2, acc2, av2, z⟩, fun v H3 y => ?_⟩
    obtain ⟨G3, g3, s3, rv⟩ := yl v H3 y
    have s3w := s3.wipe vs
    have ww : wipe (wipe σ vs) vs = wipe σ vs := by
      apply List.ext_getElem?
      intro l
      rw [wipe_get, wipe_get]
      by_cases hm : l ∈ vs
      · rw [if_pos hm, if_pos hm]
        cases σ[l]? <;> rfl
      · rw [if_neg hm, if_neg hm]
    have gn : WGt K (gName j) (g0 xs[i]) (wipeE δ vs) fun δ2 => δ2 = (wipeE δ vs).set j (.dat (g0 xs[i])) := g_name rfl
    refine gm_name (j := j) v _ H3 _ _ (gin_name hj v _ H3 _ (gn _ (wipe σ vs) G3 H3 v (fun σ2 H2 => H2 = H3 ∧ Std K ((D, fun o => o = .lst av) :: ω) G3 H3 ((wipeE δ vs).set j (.dat (g0 xs[i]))) σ2) s3w rv fun σ2 δ2 s2 h2 => ⟨rfl, h2 ▸ s2⟩)) fun σ2 H2 ⟨w2, e2, s2⟩ => ⟨w2.trans ww, ?_⟩
    subst e2
    have back : ∀ {H4 : Hp}, Std K ((D, fun o => o = .lst av) :: ω) G3 H4 ((wipeE δ vs).set j (.dat (g0 xs[i]))) σ2 → Std K ((D, fun o => o = .lst av) :: ω) G3 H4 δ σ := fun {H4} s4 => by
      refine ⟨s3.env, s4.ok, fun l ds hl => ?_, s3.one⟩
      have nl := ho l ds hl
      have nj : j ≠ l := fun e => nl (e ▸ hj)
      obtain ⟨q, us, a, b⟩ := s4.own l ds (by rw [List.getElem?_set_ne nj, wipe_keep nl]; exact hl)
      have sl : σ2[l]? = σ[l]? := by
        have := congrArg (·[l]?) (w2.trans ww)
        simp only [wipe_get, if_neg nl] at this
        exact this
      exact ⟨q, us, by rw [← sl]; exact a, b⟩
    refine run_seen (Rel := fun b b' => b = b') (turn _ (List.getElem_mem hlt)) s2 fun b b' H4 s4 eb h4 => ?_
    have eb : b = b' := eb
    subst eb
    obtain ⟨hb, h4⟩ := h4
    subst hb
    have tk : ∀ q : Bool, p xs[i] = q → (((xs.take (i + 1)).filter p).map f).map PyData.int = acc ++ (if q then [PyData.int (f xs[i])] else []) := fun q hq => by
      rw [take_snoc hx, List.filter_append, List.map_append, List.map_append, ← pa, List.filter_cons, hq]
      cases q <;> rfl
    cases hp : p xs[i] with
    | true =>
      rw [if_pos rfl]
      refine run_seen (Rel := fun (v : V) (d : Dt) => ∃ k : Int, v = .int k ∧ d = .int k) (w_int_rel (h4 hp) fun d hd => ⟨_, hd⟩) s4 fun y d H5 s5 ⟨k, ey, ed⟩ hd => ?_
      have hd : d = .int (f xs[i]) := hd
      obtain ⟨s6, f1, o, f2, f3⟩ := Std.drop2 (s1.env.mono (g'.trans g3)) (back s5)
      have f3' : o = .lst av := f3
      subst f3'
      refine ⟨av, f2, by rw [ra.len, sizeLine_eq]; omega, G3, acc ++ [.int (f xs[i])], av ++ [y], g'.trans g3, s6.write f1 far, f1, upd_same, (ra.mono g3).append (.cons ?_ .nil), by rw [List.length_append]; show acc.length + 1 ≤ _; omega, ?_⟩
      · rw [ey, ← hd, ed]
        exact .int _
      · rw [tk true hp]
        rfl
    | false =>
      rw [if_neg Bool.false_ne_true]
      obtain ⟨s6, f1, o, f2, f3⟩ := Std.drop2 (s1.env.mono (g'.trans g3)) (back s4)
      have f3' : o = .lst av := f3
      subst f3'
      refine ⟨G3, acc, av, g'.trans g3, s6, f1, f2, ra.mono g3, by omega, ?_⟩
      rw [tk false hp]
      exact (List.append_nil _).symm
  · have e1 : i = xs.length := by omega
    subst e1
    refine .inl ⟨(gv ω G' H' _ g' s'.ok).1 (List.length_map _), ?_⟩
    rw [List.take_length] at pa
    subst pa
    exact n _ _ G' H' (g1.trans g') ((s'.hold2 d1 d2 far).adopt (d := .list _) (lt_of_isSome hl') ra) done
/-- x[j] = v, v flat, the names' own lists seen by it -/
theorem ws_setLF {tb : TE} {i : Nat} {ds : List Dt} (hi : δ[i]? = some (.own (.list ds))) (h : W K te (δ.map seen) fun d => flatD d = true ∧ W K tb δ fun j => ∃ (z : Int) (l : Nat), j = .int z ∧ ixN ds.length z = some l ∧ nx (δ.set i (.own (.list (ds.set l d))))) : WS K (tAsg te (gSub (tVar i) tb rSetL)) δ nx rt bk ct := fun ω σ G H D s n r b c => by
  refine run_flat h s (fun d hd => hd.1) fun v d G' H' g s' rp ⟨_, q1⟩ => ?_
  obtain ⟨p, vs, h1, h2, h3, h4, h5⟩ := s'.lst hi
  refine ⟨.ref p, h1, run_wg (Rel := fun G v d => Rp K G v d) q1 s' fun u e G2 H2 g2 s2 rp2 ⟨z, l, e1, hz, q⟩ => ?_⟩
  subst e1
  obtain ⟨p', vs', k1, k2, k3, k4, k5⟩ := s2.lst hi
  rw [h1] at k1
  cases k1
  exact ⟨p, vs', z, l, rfl, rp2.int_inv, k2, by rw [k3.len]; exact hz, n σ _ G2 _ (g.trans g2) (s2.chg (ws := .lst _) (ds' := .list _) hi h1 k4 k5 (k3.set (rp.mono g2) l)) q⟩
end
theorem flat_pat (p : Pt) : flatD (patP p) = true := by
  show (true && (flatAll (p.2.map .int) && true)) = true
  rw [flat_intsD]
  rfl
/-- two numbers, sorted, each once -/
def pairS (x y : Int) : List Int := if x < y then [x, y] else if y < x then [y, x] else [x]
theorem pairS_is {x y : Int} {ms : List Int} (hp : ms.Pairwise (· < ·)) (hm : ∀ k, k ∈ ms ↔ k ∈ [x, y]) : ms = pairS x y := by
  refine asc_ext hp ?_ fun a => ?_
  · unfold pairS
    by_cases h : x < y
    · rw [if_pos h]
      exact List.pairwise_cons.mpr ⟨fun a ha => by rw [List.mem_singleton.mp ha]; exact h, List.pairwise_singleton _ _⟩
    · rw [if_neg h]
      by_cases h2 : y < x
      · rw [if_pos h2]
        exact List.pairwise_cons.mpr ⟨fun a ha => by rw [List.mem_singleton.mp ha]; exact h2, List.pairwise_singleton _ _⟩
      · rw [if_neg h2]
        exact List.pairwise_singleton _ _
  · rw [hm a]
    unfold pairS
    by_cases h : x < y
    · rw [if_pos h]
    · rw [if_neg h]
      by_cases h2 : y < x
      · rw [if_pos h2]
        simp
        exact ⟨fun z => z.symm, fun z => z.symm⟩
      · rw [if_neg h2]
        have : x = y := by omega
        subst this
        simp
theorem pairS_beat {n x y : Int} (n0 : 3 ≤ n) (n1 : n ≤ 60) (x0 : 0 ≤ x) (x1 : x < n) (y0 : 0 ≤ y) (y1 : y < n) : Beat n (pairS x y) := by
  have hp : (pairS x y).Pairwise (· < ·) := by
    unfold pairS
    by_cases h : x < y
    · rw [if_pos h]
      exact List.pairwise_cons.mpr ⟨fun a ha => by rw [List.mem_singleton.mp ha]; exact h, List.pairwise_singleton _ _⟩
    · rw [if_neg h]
      by_cases h2 : y < x
      · rw [if_pos h2]
        exact List.pairwise_cons.mpr ⟨fun a ha => by rw [List.mem_singleton.mp ha]; exact h2, List.pairwise_singleton _ _⟩
      · rw [if_neg h2]
        exact List.pairwise_singleton _ _
  have hm : ∀ s ∈ pairS x y, s = x ∨ s = y := fun s hs => by
    unfold pairS at hs
    split at hs
    · simpa using hs
    · split at hs
      · have := by simpa using hs
        exact this.symm
      · exact .inl (List.mem_singleton.mp hs)
  have hl : 1 ≤ (pairS x y).length ∧ (pairS x y).length ≤ 2 := by
    unfold pairS
    split
    · exact ⟨by simp, by simp⟩
    · split <;> exact ⟨by simp, by simp⟩
  refine ⟨by omega, n1, fun s hs => ?_, hp, fun z => ?_, by omega⟩
  · rcases hm s hs with rfl | rfl <;> omega
  · rw [z] at hl
    exact absurd hl.1 (by decide)
/-! ### groups of two, three or four senders with short periods -/
def capT (a b c m : Int) : Int := if m = 2 then a else if m = 3 then b else c
theorem cap_at {a b c m : Int} (h0 : 2 ≤ m) (h1 : m ≤ 4) : atI [PyData.int a, .int b, .int c] (m - 2) = some (.int (capT a b c m)) := by
  have : m = 2 ∨ m = 3 ∨ m = 4 := by omega
  rcases this with rfl | rfl | rfl <;> rfl
structure Team (a b c m : Int) (ps : List Pt) : Prop where
  crowd : Crowd ps
  len : (ps.length : Int) = m
  cap : ∀ p ∈ ps, p.1 ≤ capT a b c m
theorem Team.mono {a b c a' b' c' m : Int} {ps : List Pt} (h : Team a b c m ps) (ha : a ≤ a') (hb : b ≤ b') (hc : c ≤ c') : Team a' b' c' m ps :=
  ⟨h.crowd, h.len, fun p hp => by
    have := h.cap p hp
    unfold capT at *
    split
    · rename_i e
      rw [if_pos e] at this
      omega
    · rename_i e
      rw [if_neg e] at this
      split
      · rename_i e2
        rw [if_pos e2] at this
        omega
      · rename_i e2
        rw [if_neg e2] at this
        omega⟩
theorem tm2 : ∀ a, a < 21 → ∀ b, b < 21 → Nat.lcm (Nat.lcm 1 a) b ≤ 420 ∧ Nat.gcd 1 a * Nat.gcd (Nat.lcm 1 a) b ≤ 240 := by decide +kernel
theorem tm3 : ∀ a, a < 9 → ∀ b, b < 9 → ∀ c, c < 9 → Nat.lcm (Nat.lcm (Nat.lcm 1 a) b) c ≤ 420 ∧ Nat.gcd 1 a * (Nat.gcd (Nat.lcm 1 a) b * Nat.gcd (Nat.lcm (Nat.lcm 1 a) b) c) ≤ 240 := by decide +kernel
theorem tm4 : ∀ a, a < 7 → ∀ b, b < 7 → ∀ c, c < 7 → ∀ d, d < 7 → Nat.lcm (Nat.lcm (Nat.lcm (Nat.lcm 1 a) b) c) d ≤ 420 ∧ (Nat.gcd 1 a * (Nat.gcd (Nat.lcm 1 a) b * (Nat.gcd (Nat.lcm (Nat.lcm 1 a) b) c * Nat.gcd (Nat.lcm (Nat.lcm (Nat.lcm 1 a) b) c) d)) ≤ 240) := by decide +kernel
theorem Team.small {m : Int} {ps : List Pt} (h : Team 20 8 6 m ps) : spanN ps ≤ 420 ∧ prodI (sizesL ps) ≤ 240 := by
  have l0 := h.crowd.l0
  have l1 := h.crowd.l1
  have hp : ∀ p ∈ ps, 2 ≤ p.1 := fun p hp => (h.crowd.all p hp).n0
  have hc := h.cap
  rw [← h.len] at hc
  clear h
  match ps, l0, l1 with
  | [p, q], _, _ =>
    have a := hp p (by simp)
    have b := hp q (by simp)
    have c : p.1 ≤ 20 := hc p (by simp)
    have d : q.1 ≤ 20 := hc q (by simp)
    obtain ⟨e, f⟩ := tm2 p.1.natAbs (by omega) q.1.natAbs (by omega)
    refine ⟨e, ?_⟩
    show ((_ : Nat) : Int) * (((_ : Nat) : Int) * 1) ≤ 240
    rw [Int.mul_one, ← Int.natCast_mul]
    exact Int.ofNat_le.mpr f
  | [p, q, r], _, _ =>
    have a := hp p (by simp)
    have b := hp q (by simp)
    have b' := hp r (by simp)
    have c : p.1 ≤ 8 := hc p (by simp)
    have d : q.1 ≤ 8 := hc q (by simp)
    have d' : r.1 ≤ 8 := hc r (by simp)
    obtain ⟨e, f⟩ := tm3 p.1.natAbs (by omega) q.1.natAbs (by omega) r.1.natAbs (by omega)
    refine ⟨e, ?_⟩
    show ((_ : Nat) : Int) * (((_ : Nat) : Int) * (((_ : Nat) : Int) * 1)) ≤ 240
    rw [Int.mul_one, ← Int.natCast_mul, ← Int.natCast_mul]
    exact Int.ofNat_le.mpr f
  | [p, q, r, s], _, _ =>
    have a := hp p (by simp)
    have b := hp q (by simp)
    have b' := hp r (by simp)
    have b'' := hp s (by simp)
    have c : p.1 ≤ 6 := hc p (by simp)
    have d : q.1 ≤ 6 := hc q (by simp)
    have d' : r.1 ≤ 6 := hc r (by simp)
    have d'' : s.1 ≤ 6 := hc s (by simp)
    obtain ⟨e, f⟩ := tm4 p.1.natAbs (by omega) q.1.natAbs (by omega) r.1.natAbs (by omega) s.1.natAbs (by omega)
    refine ⟨e, ?_⟩
    show ((_ : Nat) : Int) * (((_ : Nat) : Int) * (((_ : Nat) : Int) * (((_ : Nat) : Int) * 1))) ≤ 240
    rw [Int.mul_one, ← Int.natCast_mul, ← Int.natCast_mul, ← Int.natCast_mul]
    exact Int.ofNat_le.mpr f
theorem mul_two {a b x y : Int} (a0 : 0 ≤ a) (b0 : 0 ≤ b) (h1 : a ≤ x) (h2 : b ≤ y) : a * b ≤ x * y :=
  Int.le_trans (Int.mul_le_mul_of_nonneg_right h1 b0) (Int.mul_le_mul_of_nonneg_left h2 (by omega))
theorem Team.prod {m : Int} {ps : List Pt} (h : Team 9 6 5 m ps) : prodQ ps ≤ 625 := by
  have l0 := h.crowd.l0
  have l1 := h.crowd.l1
  have hp : ∀ p ∈ ps, 2 ≤ p.1 := fun p hp => (h.crowd.all p hp).n0
  have hc := h.cap
  rw [← h.len] at hc
  clear h
  match ps, l0, l1 with
  | [p, q], _, _ =>
    have a := hp p (by simp)
    have b := hp q (by simp)
    have c : p.1 ≤ 9 := hc p (by simp)
    have d : q.1 ≤ 9 := hc q (by simp)
    show p.1 * (q.1 * 1) ≤ 625
    have := mul_two (by omega) (by omega) c d
    rw [Int.mul_one]
    omega
  | [p, q, r], _, _ =>
    have a := hp p (by simp)
    have b := hp q (by simp)
    have b' := hp r (by simp)
    have c : p.1 ≤ 6 := hc p (by simp)
    have d : q.1 ≤ 6 := hc q (by simp)
    have d' : r.1 ≤ 6 := hc r (by simp)
    show p.1 * (q.1 * (r.1 * 1)) ≤ 625
    rw [Int.mul_one]
    have z := mul_two (by omega) (by omega) d d'
    have := mul_two (by omega) (Int.mul_nonneg (by omega) (by omega)) c z
    omega
  | [p, q, r, s], _, _ =>
    have a := hp p (by simp)
    have b := hp q (by simp)
    have b' := hp r (by simp)
    have b'' := hp s (by simp)
    have c : p.1 ≤ 5 := hc p (by simp)
    have d : q.1 ≤ 5 := hc q (by simp)
    have d' : r.1 ≤ 5 := hc r (by simp)
    have d'' : s.1 ≤ 5 := hc s (by simp)
    show p.1 * (q.1 * (r.1 * (s.1 * 1))) ≤ 625
    rw [Int.mul_one]
    have z := mul_two (by omega) (by omega) d' d''
    have z2 := mul_two (by omega) (Int.mul_nonneg (by omega) (by omega)) d z
    have := mul_two (by omega) (Int.mul_nonneg (by omega) (Int.mul_nonneg (by omega) (by omega))) c z2
    omega
/-! ### who sends, as those of all that do -/
theorem voices_filter {ps : List Pt} {os : List Int} (h : os.length = ps.length) (t : Int) : voicesL ps os t = (upI 0 ps.length).filter fun w => sndJ ps os w.toNat t := by
  have go : ∀ i : Nat, i ≤ ps.length → voicesL (ps.take i) (os.take i) t = (upI 0 i).filter fun w => sndJ ps os w.toNat t := by
    intro i
    induction i with
    | zero => exact fun _ => rfl
    | succ i ih =>
      intro hi
      have hp : ps[i]? = some ps[i] := List.getElem?_eq_getElem (by omega)
      have ho : os[i]? = some (os[i]'(by omega)) := List.getElem?_eq_getElem (by omega)
      rw [voicesL_take hp ho, ih (by omega), upI_snoc, List.filter_append, List.filter_cons]
      have e : sndJ ps os ((0 : Int) + (i : Nat)).toNat t = sndB ps[i] (os[i]'(by omega)) t := by
        rw [show ((0 : Int) + (i : Nat)).toNat = i by omega]
        unfold sndJ
        rw [hp, ho]
      rw [e, Int.zero_add]
      rfl
  have := go ps.length (Nat.le_refl _)
  rw [List.take_length, List.take_of_length_le (by omega)] at this
  exact this
theorem voices_rest {ps : List Pt} {os : List Int} (h : os.length = ps.length) (t : Int) (f : List (Option Int)) : (voicesL ps os t).filter (fun w => decide (f[w.toNat]? = some none)) = loudL ps os (restO ps.length f) t := by
  rw [voices_filter h]
  unfold loudL restO
  rw [List.filter_filter, List.filter_filter]
  refine List.filter_congr fun w _ => ?_
  rw [Bool.and_comm]
/-! ### stops, short enough to be shown -/
theorem stops_len (ps : List Pt) (os : List Int) (n : Nat) : (stopsL ps os n).length = ps.length := by
  unfold stopsL
  rw [stopsF_len, List.length_replicate]
theorem stops_bound {ps : List Pt} {os : List Int} {n : Nat} {t : Int} (h : some t ∈ stopsL ps os n) : 0 ≤ t ∧ t < (ps.length * n : Nat) := by
  rcases stops_at _ _ _ _ _ h with z | z
  · rw [List.mem_replicate] at z
    cases z.2
  · omega
theorem stops_tidy {ps : List Pt} {os : List Int} {n : Nat} (hl : ps.length ≤ 4) (hn : n ≤ 2000) : Tidy (.tuple ((stopsL ps os n).map optD)) 1 164 := by
  have M : ps.length * n ≤ 8000 := Nat.le_trans (Nat.mul_le_mul hl hn) (by decide)
  have a := tidyAll_of (p := 0) (w := 40) (ds := (stopsL ps os n).map optD) fun d hd => by
    obtain ⟨o, ho, rfl⟩ := List.mem_map.mp hd
    cases o with
    | none => exact tidy_none.mono (by omega) (by omega)
    | some t =>
      have := stops_bound ho
      exact tidy_int (by omega)
  rw [List.length_map, stops_len] at a
  exact tidy_tup (a.mono (Nat.le_refl _) (Nat.le_trans (Nat.mul_le_mul_right _ hl) (by decide)))
theorem pair_show {ps : List Pt} {os : List Int} (h : Crowd ps) (ho : Offs ps os) : Shows (.tuple [crowdD ps, offsD os]) :=
  (tidy_tup (tidyAll_cons (crowd_tidy h) (tidyAll_cons ((offs_tidy h ho).mono (by omega) (Nat.le_refl _)) tidyAll_nil))).shows (by omega) (by omega)
theorem zeros_offs {ps : List Pt} (h : Crowd ps) : Offs ps (List.replicate ps.length 0) := by
  refine ⟨by rw [List.length_replicate], fun q hq => ?_⟩
  obtain ⟨a, b⟩ := List.of_mem_zip (a := q.1) (b := q.2) hq
  have := List.eq_of_mem_replicate a
  have := (h.all q.2 b).n0
  omega
theorem zeros_flat (n : Nat) : (List.replicate n [PyData.int 0]).flatten = (List.replicate n (0 : Int)).map .int := by
  rw [List.map_replicate]
  induction n with
  | zero => rfl
  | succ k ih => rw [List.replicate_succ, List.flatten_cons, ih, List.replicate_succ]; rfl
theorem maxL_mem : ∀ {ns : List Int}, ns ≠ [] → maxL ns ∈ ns ∧ ∀ y ∈ ns, y ≤ maxL ns
  | [], h => absurd rfl h
  | g :: gs, _ => fold_max gs g
theorem topO_bound {ps : List Pt} {os : List Int} {n : Nat} (hl : ps.length ≤ 4) (hn : n ≤ 2000) : 0 ≤ topO (stopsL ps os n) ∧ topO (stopsL ps os n) ≤ 8000 := by
  unfold topO
  by_cases e : (stopsL ps os n).map (fun x => x.getD 0) = []
  · rw [e]
    exact ⟨by decide, by decide⟩
  · obtain ⟨o, ho, eo⟩ := List.mem_map.mp (maxL_mem e).1
    rw [← eo]
    have M : ps.length * n ≤ 8000 := Nat.le_trans (Nat.mul_le_mul hl hn) (by decide)
    cases o with
    | none => exact ⟨by decide, by decide⟩
    | some t =>
      have := stops_bound ho
      show 0 ≤ t ∧ t ≤ 8000
      omega
theorem lastF_tidy {ps : List Pt} {n : Nat} (hc : Crowd ps) (hn : n ≤ 2000) : ∀ (L : List (List Int)) (l : Int) (g : Dt), (∀ os ∈ L, Offs ps os) → l.natAbs < 1000000000000 → Tidy g 1 164 → Tidy (lastF ps n L l g) 2 300
  | [], l, g, _, hl, hg => (tidy_tup (tidyAll_cons ((tidy_int hl).mono (Nat.zero_le _) (Nat.le_refl _)) (tidyAll_cons hg tidyAll_nil))).mono (by omega) (by omega)
  | os :: L, l, g, ho, hl, hg => by
    have h1 := offs_tidy hc (ho os List.mem_cons_self)
    have rest := fun o h => ho o (List.mem_cons_of_mem _ h)
    have b := topO_bound (ps := ps) (os := os) hc.l1 hn
    unfold lastF
    split
    · exact (tidy_tup (tidyAll_cons (tidy_none.mono (Nat.zero_le _) (Nat.zero_le _)) (tidyAll_cons h1 tidyAll_nil))).mono (by omega) (Nat.le_refl _)
    · split
      · exact lastF_tidy hc hn L _ _ rest (by omega) h1
      · exact lastF_tidy hc hn L l g rest hl hg
theorem last_tidy {ps : List Pt} (hc : Crowd ps) (hn : spanN ps ≤ 2000) : Tidy (lastD ps) 2 300 :=
  lastF_tidy hc hn _ _ _ (fun os h => by
    obtain ⟨a, b⟩ := box_offs (mem_below.mp h)
    exact ⟨a, b⟩) (by decide) (tidy_none.mono (Nat.zero_le _) (Nat.zero_le _))
end DW
namespace DW
open PySem PySem.Spec PyProof.Rows L2
variable [Tabl]
/-! ### what a longest wait is -/
def gapsOf : List Int → List Int
  | a :: b :: r => (b - a - 1) :: gapsOf (b :: r)
  | _ => []
theorem gaps_zip : ∀ S : List Int, (S.zip (S.drop 1)).map (fun z => z.2 - z.1 - 1) = gapsOf S
  | [] => rfl
  | [_] => rfl
  | a :: b :: r => by
    have ih := gaps_zip (b :: r)
    show (b - a - 1) :: (((b :: r).zip r).map fun z => z.2 - z.1 - 1) = (b - a - 1) :: gapsOf (b :: r)
    rw [← ih]
    rfl
theorem gaps_end (e : Int) : ∀ (T : List Int) (a : Int), (((a :: T).zip (T ++ [e])).map fun z => z.2 - z.1 - 1) = gapsOf (a :: T ++ [e])
  | [], a => rfl
  | b :: T, a => by
    have ih := gaps_end e T b
    show (b - a - 1) :: (((b :: T).zip (T ++ [e])).map fun z => z.2 - z.1 - 1) = (b - a - 1) :: gapsOf (b :: T ++ [e])
    rw [ih]
structure WaitIs (f : Int → Bool) (m : Int) : Prop where
  pos : 0 ≤ m
  next : ∀ t, f t = true → ∃ s, t < s ∧ s ≤ t + m + 1 ∧ f s = true
  far : ∃ t, f t = true ∧ f (t + m + 1) = true ∧ ∀ s, t < s → s < t + m + 1 → f s = false
theorem WaitIs.le {f : Int → Bool} {m k : Int} (h : WaitIs f m) (h2 : WaitIs f k) : k ≤ m := by
  obtain ⟨t, a, b, c⟩ := h2.far
  obtain ⟨s, d, e, g⟩ := h.next t a
  by_cases z : s < t + k + 1
  · rw [c s d z] at g
    cases g
  · omega
theorem WaitIs.unique {f : Int → Bool} {m k : Int} (h : WaitIs f m) (h2 : WaitIs f k) : m = k := by
  have := h.le h2
  have := h2.le h
  omega
theorem WaitIs.shift {f g : Int → Bool} {m s : Int} (h : WaitIs f m) (e : ∀ t, g t = f (t - s)) : WaitIs g m := by
  refine ⟨h.pos, fun t ht => ?_, ?_⟩
  · rw [e] at ht
    obtain ⟨x, a, b, c⟩ := h.next _ ht
    exact ⟨x + s, by omega, by omega, by rw [e, show x + s - s = x by omega]; exact c⟩
  · obtain ⟨t, a, b, c⟩ := h.far
    refine ⟨t + s, by rw [e, show t + s - s = t by omega]; exact a, by rw [e, show t + s + m + 1 - s = t + m + 1 by omega]; exact b, fun x h1 h2 => ?_⟩
    rw [e]
    exact c _ (by omega) (by omega)
theorem cons_next : ∀ {S : List Int} {t e : Int}, S.Pairwise (· < ·) → t ∈ S → e ∈ S → t < e → ∃ b ∈ S, t < b ∧ b - t - 1 ∈ gapsOf S
  | [], _, _, _, h, _, _ => absurd h List.not_mem_nil
  | [a], t, e, _, h1, h2, h3 => by
    have := List.mem_singleton.mp h1
    have := List.mem_singleton.mp h2
    omega
  | a :: b :: r, t, e, hp, h1, h2, h3 => by
    obtain ⟨ha, hr⟩ := List.pairwise_cons.mp hp
    rcases List.mem_cons.mp h1 with rfl | g1
    · exact ⟨b, List.mem_cons_of_mem _ List.mem_cons_self, ha b List.mem_cons_self, List.mem_cons_self⟩
    · have g2 : e ∈ b :: r := by
        rcases List.mem_cons.mp h2 with z | z
        · have := ha t g1
          omega
        · exact z
      obtain ⟨c, c1, c2, c3⟩ := cons_next hr g1 g2 h3
      exact ⟨c, List.mem_cons_of_mem _ c1, c2, List.mem_cons_of_mem _ c3⟩
theorem cons_back : ∀ {S : List Int} {g : Int}, S.Pairwise (· < ·) → g ∈ gapsOf S → ∃ a b, a ∈ S ∧ b ∈ S ∧ a < b ∧ b - a - 1 = g ∧ ∀ x ∈ S, ¬ (a < x ∧ x < b)
  | [], _, _, h => absurd h List.not_mem_nil
  | [_], _, _, h => absurd h List.not_mem_nil
  | a :: b :: r, g, hp, h => by
    obtain ⟨ha, hr⟩ := List.pairwise_cons.mp hp
    rcases List.mem_cons.mp h with rfl | h
    · refine ⟨a, b, List.mem_cons_self, List.mem_cons_of_mem _ List.mem_cons_self, ha b List.mem_cons_self, rfl, fun x hx ⟨z1, z2⟩ => ?_⟩
      rcases List.mem_cons.mp hx with rfl | hx
      · omega
      · rcases List.mem_cons.mp hx with rfl | hx
        · omega
        · have := (List.pairwise_cons.mp hr).1 x hx
          omega
    · obtain ⟨c, d, c1, d1, cd, e, no⟩ := cons_back hr h
      refine ⟨c, d, List.mem_cons_of_mem _ c1, List.mem_cons_of_mem _ d1, cd, e, fun x hx z => ?_⟩
      rcases List.mem_cons.mp hx with rfl | hx
      · have := ha c c1
        omega
      · exact no x hx z
theorem per_nat {f : Int → Bool} {n : Int} (per : ∀ t, f (t + n) = f t) : ∀ (k : Nat) (t : Int), f (t + n * (k : Int)) = f t
  | 0, t => by rw [show t + n * ((0 : Nat) : Int) = t by simp]
  | k + 1, t => by
    rw [show n * ((k + 1 : Nat) : Int) = n * (k : Int) + n by rw [show ((k + 1 : Nat) : Int) = (k : Int) + 1 from rfl, Int.mul_add, Int.mul_one], ← Int.add_assoc, per, per_nat per k]
theorem per_int {f : Int → Bool} {n : Int} (per : ∀ t, f (t + n) = f t) (k t : Int) : f (t + n * k) = f t := by
  by_cases h : 0 ≤ k
  · have := per_nat per k.toNat t
    rw [Int.toNat_of_nonneg h] at this
    exact this
  · have := per_nat per (-k).toNat (t + n * k)
    rw [Int.toNat_of_nonneg (by omega), Int.add_assoc, ← Int.mul_add, show k + -k = 0 by omega, Int.mul_zero, Int.add_zero] at this
    exact this.symm
theorem wait_by {f : Int → Bool} {n : Int} {S : List Int} {u v : Int} (n0 : 0 < n) (per : ∀ t, f (t + n) = f t) (asc : S.Pairwise (· < ·)) (hit : ∀ t ∈ S, f t = true)
    (conv : ∀ a ∈ S, ∀ b ∈ S, ∀ t, a ≤ t → t ≤ b → f t = true → t ∈ S) (hu : u ∈ S) (hv : v ∈ S) (huv : u + n ≤ v) : WaitIs f (maxL (gapsOf S)) := by
  have ne : gapsOf S ≠ [] := fun z => by
    obtain ⟨b, _, _, g⟩ := cons_next asc hu hv (by omega)
    rw [z] at g
    exact absurd g List.not_mem_nil
  obtain ⟨mm, mx⟩ := maxL_mem ne
  obtain ⟨a, b, ha, hb, ab, e, no⟩ := cons_back asc mm
  refine ⟨by omega, fun t ht => ?_, a, hit a ha, by rw [← e, show a + (b - a - 1) + 1 = b by omega]; exact hit b hb, fun s h1 h2 => ?_⟩
  · have r0 := Int.emod_nonneg (t - u) (show n ≠ 0 by omega)
    have r1 := Int.emod_lt_of_pos (t - u) n0
    have d := Int.emod_add_mul_ediv (t - u) n
    have ht2 : f (u + (t - u) % n) = true := by
      have := per_int per ((t - u) / n) (u + (t - u) % n)
      rw [show u + (t - u) % n + n * ((t - u) / n) = t by omega, ht] at this
      exact this.symm
    have hm := conv u hu v hv (u + (t - u) % n) (by omega) (by omega) ht2
    obtain ⟨c, c1, c2, c3⟩ := cons_next asc hm hv (by omega)
    have := mx _ c3
    refine ⟨c + n * ((t - u) / n), by omega, by omega, ?_⟩
    rw [per_int per]
    exact hit c c1
  · cases hs : f s with
    | false => rfl
    | true => exact absurd ⟨h1, by omega⟩ (no s (conv a ha b hb s (by omega) (by omega) hs))
/-! ### positions in a line -/
theorem posF_iff {w : Int} : ∀ {L : List Int} {k t : Int}, t ∈ posF w k L ↔ ∃ i : Nat, L[i]? = some w ∧ t = k + (i : Int)
  | [], k, t => ⟨fun h => absurd h List.not_mem_nil, fun ⟨i, h, _⟩ => by rw [List.getElem?_nil] at h; cases h⟩
  | x :: L, k, t => by
    have ih := posF_iff (w := w) (L := L) (k := k + 1) (t := t)
    have rest : (∃ i : Nat, L[i]? = some w ∧ t = k + 1 + (i : Int)) ↔ ∃ i : Nat, 0 < i ∧ (x :: L)[i]? = some w ∧ t = k + (i : Int) := by
      constructor
      · rintro ⟨i, h1, h2⟩
        exact ⟨i + 1, by omega, h1, by omega⟩
      · rintro ⟨i, h0, h1, h2⟩
        obtain ⟨i, rfl⟩ : ∃ j, i = j + 1 := ⟨i - 1, by omega⟩
        exact ⟨i, h1, by omega⟩
    unfold posF
    by_cases e : x = w
    · rw [if_pos e, List.mem_cons, ih, rest]
      constructor
      · rintro (rfl | ⟨i, _, h1, h2⟩)
        · exact ⟨0, by rw [e]; rfl, by simp⟩
        · exact ⟨i, h1, h2⟩
      · rintro ⟨i, h1, h2⟩
        by_cases z : i = 0
        · subst z
          exact .inl (by omega)
        · exact .inr ⟨i, by omega, h1, h2⟩
    · rw [if_neg e, ih, rest]
      constructor
      · rintro ⟨i, _, h1, h2⟩
        exact ⟨i, h1, h2⟩
      · rintro ⟨i, h1, h2⟩
        by_cases z : i = 0
        · subst z
          cases h1
          exact absurd rfl e
        · exact ⟨i, by omega, h1, h2⟩
theorem posF_asc (w : Int) : ∀ (L : List Int) (k : Int), (posF w k L).Pairwise (· < ·)
  | [], _ => .nil
  | x :: L, k => by
    have ih := posF_asc w L (k + 1)
    unfold posF
    by_cases e : x = w
    · rw [if_pos e]
      refine List.pairwise_cons.mpr ⟨fun a ha => ?_, ih⟩
      have := posF_mem ha
      omega
    · rw [if_neg e]
      exact ih
theorem pos_line {g : Int → Int} {w : Int} {N : Nat} {t : Int} : t ∈ posF w 0 ((upI 0 N).map g) ↔ (0 ≤ t ∧ t < (N : Int)) ∧ g t = w := by
  rw [posF_iff]
  constructor
  · rintro ⟨i, h1, h2⟩
    rw [List.getElem?_map] at h1
    cases hx : (upI 0 N)[i]? with
    | none => rw [hx] at h1; cases h1
    | some x =>
      rw [hx] at h1
      have il := (List.getElem?_eq_some_iff.mp hx).1
      rw [upI_len] at il
      rw [upI_get il] at hx
      cases hx
      cases h1
      rw [h2]
      exact ⟨⟨by omega, by omega⟩, rfl⟩
  · rintro ⟨⟨h0, h1⟩, h2⟩
    refine ⟨t.toNat, ?_, by omega⟩
    rw [List.getElem?_map, upI_get (by omega), Int.zero_add, Int.toNat_of_nonneg h0]
    show some (g t) = some w
    rw [h2]
/-- the wait of one span, heard again and again -/
theorem wait_one {g : Int → Int} {w : Int} {n : Nat} (per : ∀ t, g (t + (n : Int)) = g t) (ne : posF w 0 ((upI 0 n).map g) ≠ []) : WaitIs (fun t => decide (g t = w)) (waitI ((upI 0 n).map g) w) := by
  unfold waitI
  rw [List.length_map, upI_len]
  have iff := fun t => pos_line (g := g) (w := w) (N := n) (t := t)
  have asc := posF_asc w ((upI 0 n).map g) 0
  generalize posF w 0 ((upI 0 n).map g) = T at ne iff asc
  cases T with
  | nil => exact absurd rfl ne
  | cons a T =>
    have eg : gapsL (n : Int) (a :: T) = gapsOf (a :: T ++ [a + (n : Int)]) := gaps_end (a + (n : Int)) T a
    rw [eg]
    have pa := (iff a).mp List.mem_cons_self
    have least : ∀ t ∈ a :: T, a ≤ t := fun t ht => by
      rcases List.mem_cons.mp ht with rfl | ht
      · omega
      · have := (List.pairwise_cons.mp asc).1 t ht
        omega
    have mem : ∀ t, t ∈ a :: T ++ [a + (n : Int)] ↔ t ∈ a :: T ∨ t = a + (n : Int) := fun t => by
      rw [List.mem_append, List.mem_singleton]
    have perB : ∀ t, decide (g (t + (n : Int)) = w) = decide (g t = w) := fun t => by rw [per]
    refine wait_by (n := (n : Int)) (u := a) (v := a + (n : Int)) (by omega) perB ?_ (fun t ht => ?_) (fun x hx y hy t h1 h2 ht => ?_) ((mem _).mpr (.inl List.mem_cons_self)) ((mem _).mpr (.inr rfl)) (by omega)
    · rw [List.pairwise_append]
      refine ⟨asc, List.pairwise_singleton _ _, fun x hx y hy => ?_⟩
      have := (iff x).mp hx
      have := List.mem_singleton.mp hy
      omega
    · rcases (mem t).mp ht with z | rfl
      · exact decide_eq_true ((iff t).mp z).2
      · rw [perB]
        exact decide_eq_true pa.2
    · have ht := of_decide_eq_true ht
      have lx : a ≤ x := by
        rcases (mem x).mp hx with z | z
        · exact least x z
        · omega
      have ly : y ≤ a + (n : Int) := by
        rcases (mem y).mp hy with z | z
        · have := (iff y).mp z
          omega
        · omega
      refine (mem t).mpr ?_
      by_cases c : t < (n : Int)
      · exact .inl ((iff t).mpr ⟨⟨by omega, c⟩, ht⟩)
      · refine .inr ?_
        have : t - (n : Int) ∈ a :: T := (iff _).mpr ⟨⟨by omega, by omega⟩, by rw [← per, show t - (n : Int) + (n : Int) = t by omega]; exact ht⟩
        have := least _ this
        omega
/-- the wait of two spans -/
theorem wait_two {g : Int → Int} {w : Int} {n : Nat} (per : ∀ t, g (t + (n : Int)) = g t) (n0 : 0 < n) (ne : posF w 0 ((upI 0 (2 * n)).map g) ≠ []) : WaitIs (fun t => decide (g t = w)) (maxL (gapsOf (posF w 0 ((upI 0 (2 * n)).map g)))) := by
  have iff := fun t => pos_line (g := g) (w := w) (N := 2 * n) (t := t)
  have asc := posF_asc w ((upI 0 (2 * n)).map g) 0
  generalize posF w 0 ((upI 0 (2 * n)).map g) = S at ne iff asc
  obtain ⟨a, ha⟩ := List.exists_mem_of_ne_nil S ne
  have pa := (iff a).mp ha
  have perB : ∀ t, decide (g (t + (n : Int)) = w) = decide (g t = w) := fun t => by rw [per]
  obtain ⟨b, hb, hc⟩ : ∃ b, b ∈ S ∧ b + (n : Int) ∈ S := by
    by_cases c : a < (n : Int)
    · exact ⟨a, ha, (iff _).mpr ⟨⟨by omega, by omega⟩, by rw [per]; exact pa.2⟩⟩
    · refine ⟨a - (n : Int), (iff _).mpr ⟨⟨by omega, by omega⟩, ?_⟩, by rw [show a - (n : Int) + (n : Int) = a by omega]; exact ha⟩
      rw [← per, show a - (n : Int) + (n : Int) = a by omega]
      exact pa.2
  refine wait_by (n := (n : Int)) (by omega) perB asc (fun t ht => decide_eq_true ((iff t).mp ht).2) (fun x hx y hy t h1 h2 ht => ?_) hb hc (Int.le_refl _)
  have := (iff x).mp hx
  have := (iff y).mp hy
  exact (iff t).mpr ⟨⟨by omega, by omega⟩, of_decide_eq_true ht⟩
/-! ### waits of a group -/
theorem kind_pos {ps : List Pt} {w : Int} {os : List Int} : kindN ps w os ≠ 0 ↔ posF w 0 (lineL ps os (spanN ps)) ≠ [] := by
  unfold kindN
  rw [← posF_len w _ 0]
  exact ⟨fun h z => h (by rw [z]; rfl), fun h z => h (List.length_eq_zero_iff.mp z)⟩
theorem wait_is {ps : List Pt} (hp : ∀ p ∈ ps, 0 < p.1) {w : Nat} {os : List Int} (h : kindN ps w os ≠ 0) : WaitIs (fun t => decide (heardI ps os t = (w : Int))) (waitC ps w os) :=
  wait_one (g := heardI ps os) (fun t => heard_per (span_whole ps hp).dvd t) (kind_pos.mp h)
theorem wait_put {ps : List Pt} (hp : ∀ p ∈ ps, 0 < p.1) {w : Nat} {os : List Int} (t : Int) (h : kindN ps w os ≠ 0) : waitC ps w (putL ps os t) = waitC ps w os := by
  have a := wait_is hp (w := w) (os := putL ps os t) (by rw [kind_put hp]; exact h)
  have b := (wait_is hp h).shift (s := t) (g := fun x => decide (heardI ps (putL ps os t) x = (w : Int))) fun x => by
    show decide (kindI (voicesF 0 ps (putL ps os t) x) = (w : Int)) = decide (kindI (voicesF 0 ps os (x - t)) = (w : Int))
    rw [voices_put]
  exact a.unique b
/-- the first of all offsets with 0 ahead that has the longest wait is the one that the classes tell -/
theorem first_long {p : Pt} {ps : List Pt} {w : Nat} {j : Nat} {qs : List Int} {r : Dt} (h : ∀ q ∈ p :: ps, 0 < q.1) (hj : (belowL (ps.map (·.1)))[j]? = some qs)
    (hz : ∀ r ∈ belowL (ps.map (·.1)), kindN (p :: ps) w (0 :: r) ≠ 0)
    (hin : ∀ (m : Nat) (r : List Int), (belowL (ps.map (·.1)))[m]? = some r → waitC (p :: ps) w (0 :: r) ≤ waitC (p :: ps) w (0 :: qs) ∧ (m < j → waitC (p :: ps) w (0 :: r) < waitC (p :: ps) w (0 :: qs)))
    (hL : LongQ (p :: ps) w r) : r = .tuple [.int (waitC (p :: ps) w (0 :: qs)), offsD (0 :: qs)] := by
  have asc := below_asc (ps.map (·.1))
  have earlier : ∀ r ∈ belowL (ps.map (·.1)), r < qs → waitC (p :: ps) w (0 :: r) < waitC (p :: ps) w (0 :: qs) := fun r hr hlt => by
    obtain ⟨m, hm⟩ := List.mem_iff_getElem?.mp hr
    refine (hin m r hm).2 ?_
    obtain ⟨j0, e0⟩ := List.getElem?_eq_some_iff.mp hj
    obtain ⟨m0, e1⟩ := List.getElem?_eq_some_iff.mp hm
    rcases Nat.lt_trichotomy m j with c | c | c
    · exact c
    · subst c
      rw [hj] at hm
      cases hm
      exact absurd hlt (llt_irrefl _)
    · have := List.pairwise_iff_getElem.mp asc j m j0 m0 c
      rw [e0, e1] at this
      exact absurd (llt_trans this hlt) (llt_irrefl _)
  have qb := mem_below.mp (List.mem_of_getElem? hj)
  have p0 := h p List.mem_cons_self
  have box : Box (0 :: qs) ((p :: ps).map (·.1)) := ⟨⟨Int.le_refl _, p0⟩, qb⟩
  have len : (0 :: qs).length = (p :: ps).length := by
    have := box.len
    rw [List.length_map] at this
    exact this
  have isC : (0 :: qs) ∈ classL (p :: ps) := by
    obtain ⟨t, ht⟩ := class_ex h len
    have hk := wait_put h (w := w) (os := 0 :: qs) t (hz qs (List.mem_of_getElem? hj))
    obtain ⟨cs, hcs, e⟩ := class_zero h ht
    have le := box_least (s := 1) (t := -t) h (by exact Int.one_dvd _) (mem_below.mp ht)
    rw [put_back box] at le
    have nlt := lexle_lt le
    rw [e] at nlt hk ht
    by_cases c : cs < qs
    · have := earlier cs hcs c
      omega
    · have n2 : ¬ qs < cs := fun z => nlt (zero_lt.mpr z)
      rw [llt_tri c n2] at ht
      exact ht
  rcases hL with ⟨os, ho, ok, _⟩ | ⟨_, i, os, ho, hm, rfl⟩
  · obtain ⟨r', hr', rfl⟩ := class_zero h ho
    exact absurd ok (hz r' hr')
  · obtain ⟨i', hi'⟩ := List.mem_iff_getElem?.mp isC
    have a := hm i' _ hi'
    have oc := List.mem_of_getElem? ho
    obtain ⟨r', hr', rfl⟩ := class_zero h oc
    obtain ⟨m, hm'⟩ := List.mem_iff_getElem?.mp hr'
    have b := (hin m r' hm').1
    rcases Nat.lt_trichotomy i i' with c | c | c
    · obtain ⟨j0, e0⟩ := List.getElem?_eq_some_iff.mp ho
      obtain ⟨m0, e1⟩ := List.getElem?_eq_some_iff.mp hi'
      have lt := List.pairwise_iff_getElem.mp (below_asc (sizesL (p :: ps))) i i' j0 m0 c
      have lt : (classL (p :: ps))[i] < (classL (p :: ps))[i'] := lt
      rw [e0, e1] at lt
      have := earlier r' hr' (zero_lt.mp lt)
      omega
    · subst c
      rw [ho] at hi'
      cases hi'
      rfl
    · have := a.2 c
      omega
theorem WaitIs.lt {f : Int → Bool} {m n : Int} (h : WaitIs f m) (n0 : 0 < n) (per : ∀ t, f (t + n) = f t) : m < n := by
  obtain ⟨t, a, b, c⟩ := h.far
  by_cases z : n < t + m + 1 - t
  · have := c (t + n) (by omega) (by omega)
    rw [per, a] at this
    cases this
  · omega
theorem wait_range {ps : List Pt} (hp : ∀ p ∈ ps, 0 < p.1) {w : Nat} {os : List Int} (h : kindN ps w os ≠ 0) : 0 ≤ waitC ps w os ∧ waitC ps w os < (spanN ps : Nat) := by
  have hW := span_whole ps hp
  have a := wait_is hp h
  exact ⟨a.pos, a.lt (n := ((spanN ps : Nat) : Int)) (by have := hW.pos; omega) fun t => by rw [heard_per hW.dvd]⟩
theorem long_tidy {ps : List Pt} {w : Nat} {r : Dt} (hc : Crowd ps) (hs : spanN ps ≤ 420) (h : LongQ ps w r) : Tidy r 2 300 := by
  have pos := crowd_pos hc
  rcases h with ⟨os, ho, _, _, rfl⟩ | ⟨hn, i, os, ho, _, rfl⟩
  · have h1 := offs_tidy hc (class_offs hc ho)
    exact (tidy_tup (tidyAll_cons (tidy_none.mono (Nat.zero_le _) (Nat.zero_le _)) (tidyAll_cons h1 tidyAll_nil))).mono (by omega) (Nat.le_refl _)
  · have ho := List.mem_of_getElem? ho
    have h1 := offs_tidy hc (class_offs hc ho)
    have b := wait_range pos (hn os ho)
    exact (tidy_tup (tidyAll_cons ((tidy_int (by omega)).mono (Nat.zero_le _) (Nat.le_refl _)) (tidyAll_cons h1 tidyAll_nil))).mono (by omega) (by omega)
/-- what is told as the longest wait is that -/
theorem long_same {ps : List Pt} {w : Nat} {r s : Dt} (h : LongQ ps w r) (h2 : LongQ ps w s) : r = s := by
  rcases h with ⟨os, ho, ok, hm, rfl⟩ | ⟨hn, i, os, ho, hm, rfl⟩
  · rcases h2 with ⟨qs, qo, qk, qm, rfl⟩ | ⟨hn, _⟩
    · rw [llt_tri (qm os ho ok) (hm qs qo qk)]
    · exact absurd ok (hn os ho)
  · rcases h2 with ⟨qs, qo, qk, _⟩ | ⟨_, j, qs, qo, qm, rfl⟩
    · exact absurd qk (hn qs qo)
    · have a := hm j qs qo
      have b := qm i os ho
      rcases Nat.lt_trichotomy i j with c | c | c
      · have := b.2 c
        omega
      · subst c
        rw [ho] at qo
        cases qo
        rfl
      · have := a.2 c
        omega
theorem two_pair {g : Int → Int} {w : Int} {n : Nat} (per : ∀ t, g (t + (n : Int)) = g t) (ne : posF w 0 ((upI 0 (2 * n)).map g) ≠ []) : ∃ b, (0 ≤ b ∧ b < (n : Int)) ∧ g b = w := by
  obtain ⟨a, ha⟩ := List.exists_mem_of_ne_nil _ ne
  have pa := pos_line.mp ha
  by_cases c : a < (n : Int)
  · exact ⟨a, ⟨by omega, c⟩, pa.2⟩
  · refine ⟨a - (n : Int), ⟨by omega, by omega⟩, ?_⟩
    rw [← per, show a - (n : Int) + (n : Int) = a by omega]
    exact pa.2
theorem two_gaps {g : Int → Int} {w : Int} {n : Nat} (per : ∀ t, g (t + (n : Int)) = g t) (n0 : 0 < n) (ne : posF w 0 ((upI 0 (2 * n)).map g) ≠ []) : gapsOf (posF w 0 ((upI 0 (2 * n)).map g)) ≠ [] := by
  obtain ⟨b, hb, hg⟩ := two_pair per ne
  have h1 : b ∈ posF w 0 ((upI 0 (2 * n)).map g) := pos_line.mpr ⟨⟨by omega, by omega⟩, hg⟩
  have h2 : b + (n : Int) ∈ posF w 0 ((upI 0 (2 * n)).map g) := pos_line.mpr ⟨⟨by omega, by omega⟩, by rw [per]; exact hg⟩
  obtain ⟨_, _, _, z⟩ := cons_next (posF_asc _ _ _) h1 h2 (by omega)
  intro e
  rw [e] at z
  exact absurd z List.not_mem_nil
theorem two_none {ps : List Pt} (hp : ∀ p ∈ ps, 0 < p.1) {w : Int} {os : List Int} : posF w 0 (lineL ps os (2 * spanN ps)) = [] ↔ kindN ps w os = 0 := by
  have hW := span_whole ps hp
  have per := fun t => heard_per (ps := ps) (os := os) hW.dvd t
  constructor
  · intro e
    by_cases z : kindN ps w os = 0
    · exact z
    · obtain ⟨a, ha⟩ := List.exists_mem_of_ne_nil _ (kind_pos.mp z)
      have pa := pos_line.mp ha
      have : a ∈ posF w 0 (lineL ps os (2 * spanN ps)) := pos_line.mpr ⟨⟨by omega, by omega⟩, pa.2⟩
      rw [e] at this
      exact absurd this List.not_mem_nil
  · intro e
    by_cases z : posF w 0 (lineL ps os (2 * spanN ps)) = []
    · exact z
    · obtain ⟨b, hb, hg⟩ := two_pair (g := heardI ps os) per z
      exact absurd e (kind_pos.mpr fun y => by
        have : b ∈ posF w 0 (lineL ps os (spanN ps)) := pos_line.mpr ⟨hb, hg⟩
        rw [y] at this
        exact absurd this List.not_mem_nil)
theorem two_wait {ps : List Pt} (hp : ∀ p ∈ ps, 0 < p.1) {w : Nat} {os : List Int} (h : kindN ps w os ≠ 0) : maxL (gapsOf (posF w 0 (lineL ps os (2 * spanN ps)))) = waitC ps w os := by
  have hW := span_whole ps hp
  have per := fun t => heard_per (ps := ps) (os := os) hW.dvd t
  have a := wait_two (g := heardI ps os) (w := (w : Int)) (n := spanN ps) per (by have := hW.pos; omega) fun z => h ((two_none hp).mp z)
  exact a.unique (wait_is hp h)
theorem nodup_sub : ∀ {ms ns : List Int}, ms.Nodup → (∀ a ∈ ms, a ∈ ns) → ms.length ≤ ns.length
  | [], _, _, _ => Nat.zero_le _
  | m :: ms, ns, h, hs => by
    obtain ⟨h1, h2⟩ := List.nodup_cons.mp h
    have hm := hs m List.mem_cons_self
    have ih := nodup_sub (ns := ns.erase m) h2 fun a ha => (List.mem_erase_of_ne (fun e : a = m => h1 (by rw [← e]; exact ha))).mpr (hs a (List.mem_cons_of_mem _ ha))
    rw [List.length_erase_of_mem hm] at ih
    have := List.length_pos_of_mem hm
    rw [List.length_cons]
    omega
theorem prod_cap {ps : List Pt} (h : ∀ p ∈ ps, 0 ≤ p.1 ∧ p.1 ≤ 20) : 0 ≤ prodQ ps ∧ prodQ ps ≤ 20 ^ ps.length := by
  induction ps with
  | nil => exact ⟨by decide, by decide⟩
  | cons p ps ih =>
    obtain ⟨a, b⟩ := ih fun q hq => h q (List.mem_cons_of_mem _ hq)
    obtain ⟨c, d⟩ := h p List.mem_cons_self
    have e : prodQ (p :: ps) = p.1 * prodQ ps := rfl
    rw [e, List.length_cons, Int.pow_succ, Int.mul_comm (20 ^ ps.length)]
    exact ⟨Int.mul_nonneg c a, mul_two c a d b⟩
theorem Team.drop {m : Int} {ps : List Pt} (h : Team 20 8 6 m ps) : prodQ (ps.drop 1) ≤ 8000 := by
  have l1 := h.crowd.l1
  have c : capT 20 8 6 m ≤ 20 := by
    unfold capT
    split
    · decide
    · split <;> decide
  have := (prod_cap (ps := ps.drop 1) fun p hp => by
    have hp := List.mem_of_mem_drop hp
    have := h.cap p hp
    have := (h.crowd.all p hp).n0
    omega).2
  rw [List.length_drop] at this
  refine Int.le_trans this ?_
  have : ps.length - 1 = 0 ∨ ps.length - 1 = 1 ∨ ps.length - 1 = 2 ∨ ps.length - 1 = 3 := by omega
  rcases this with e | e | e | e <;> rw [e] <;> decide
end DW
namespace DW
open PySem PySem.Spec PyProof.Rows L2
variable [Tabl]
/-! ### stops, tick by tick -/
theorem run_snoc {ps : List Pt} {os : List Int} : ∀ (m : Nat) (s : Int) (f : List (Option Int)), runF ps os (m + 1) s f = tickF ps os (s + (m : Int)) (runF ps os m s f)
  | 0, s, f => by
    show tickF ps os s f = tickF ps os (s + ((0 : Nat) : Int)) f
    rw [show s + ((0 : Nat) : Int) = s by omega]
  | m + 1, s, f => by
    have ih := run_snoc (ps := ps) (os := os) m (s + 1) (tickF ps os s f)
    show runF ps os (m + 1) (s + 1) (tickF ps os s f) = _
    rw [ih, show s + 1 + (m : Int) = s + ((m + 1 : Nat) : Int) by omega]
    rfl
theorem tick_two (ps : List Pt) (os : List Int) (s : Int) (f : List (Option Int)) : (tickF ps os s f = f ∧ ∀ w, loudL ps os (restO ps.length f) s ≠ [w]) ∨ ∃ w, loudL ps os (restO ps.length f) s = [w] ∧ tickF ps os s f = f.set w.toNat (some s) := by
  unfold tickF
  split
  · rename_i w hw
    exact .inr ⟨w, hw, rfl⟩
  · rename_i hn
    exact .inl ⟨rfl, hn⟩
theorem heard_one {ps : List Pt} {os : List Int} {t : Int} {w : Nat} : heardI ps os t = (w : Int) ↔ voicesL ps os t = [(w : Int)] := by
  unfold heardI
  exact kind_one (fun x hx => by have := voicesF_bounds hx; omega) (by omega)
theorem heard_neg {ps : List Pt} {os : List Int} {t : Int} (h : heardI ps os t < 0) : ∀ w, voicesL ps os t ≠ [w] := fun w e => by
  have b : 0 ≤ w := by
    have : w ∈ voicesL ps os t := by rw [e]; exact List.mem_singleton.mpr rfl
    have := voicesF_bounds this
    omega
  unfold heardI at h
  rw [e] at h
  have : kindI [w] = w := rfl
  omega
structure RunI (ps : List Pt) (os : List Int) (m : Nat) (F : List (Option Int)) : Prop where
  len : F.length = ps.length
  bnd : ∀ (w : Nat) (t : Int), F[w]? = some (some t) → 0 ≤ t ∧ t < (m : Int)
  by' : ∀ (w : Nat) (s : Int), 0 ≤ s → s < (m : Int) → w < ps.length → heardI ps os s = (w : Int) → ∃ t, F[w]? = some (some t) ∧ t ≤ s
  dist : ∀ (v w : Nat) (t : Int), F[v]? = some (some t) → F[w]? = some (some t) → v = w
  first : ∀ (T : Int), 0 ≤ T → (∀ s, 0 ≤ s → s < T → heardI ps os s < 0) → (∀ (v : Nat) (t : Int), F[v]? = some (some t) → T ≤ t) ∧ ∀ w : Nat, w < ps.length → heardI ps os T = (w : Int) → T < (m : Int) → F[w]? = some (some T)
theorem run_inv {ps : List Pt} {os : List Int} (hl : os.length = ps.length) : ∀ m : Nat, RunI ps os m (runF ps os m 0 (List.replicate ps.length none))
  | 0 => by
    have none0 : ∀ (w : Nat) (t : Int), (List.replicate ps.length (none : Option Int))[w]? ≠ some (some t) := fun w t h => by
      rw [List.getElem?_replicate] at h
      split at h <;> cases h
    exact ⟨by show (List.replicate ps.length none).length = _; rw [List.length_replicate], fun w t h => absurd h (none0 w t), fun w s h0 h1 => by omega, fun v w t h _ => absurd h (none0 v t), fun T h0 _ => ⟨fun v t h => absurd h (none0 v t), fun w _ _ h => by omega⟩⟩
  | m + 1 => by
    have I := run_inv (ps := ps) (os := os) hl m
    rw [run_snoc, Int.zero_add]
    generalize runF ps os m 0 (List.replicate ps.length none) = F at I
    -- what the tick sets
    have get : ∀ (u v : Nat) (x : Option Int), u < F.length → (F.set u x)[v]? = if u = v then some x else F[v]? := fun u v x hu => by
      by_cases e : u = v
      · subst e
        rw [List.getElem?_set_self hu, if_pos rfl]
      · rw [List.getElem?_set_ne e, if_neg e]
    have loud : ∀ w : Nat, w < ps.length → heardI ps os (m : Int) = (w : Int) → F[w]? = some none → loudL ps os (restO ps.length F) (m : Int) = [(w : Int)] := fun w hw hh hn => by
      rw [← voices_rest hl, heard_one.mp hh, List.filter_cons]
      show (if decide (F[((w : Nat) : Int).toNat]? = some none) = true then _ else _) = _
      rw [Int.toNat_natCast, decide_eq_true hn]
      rfl
    have isS : ∀ {w : Nat}, w < ps.length → F[w]? = some none ∨ ∃ t, F[w]? = some (some t) := fun {w} hw => by
      have : F[w]? = some (F[w]'(by rw [I.len]; exact hw)) := List.getElem?_eq_getElem _
      cases hx : F[w]'(by rw [I.len]; exact hw) with
      | none => rw [hx] at this; exact .inl this
      | some t => rw [hx] at this; exact .inr ⟨t, this⟩
    rcases tick_two ps os (m : Int) F with ⟨e, no⟩ | ⟨u, hu, e⟩
    · rw [e]
      refine ⟨I.len, fun w t h => by have := I.bnd w t h; omega, fun w s h0 h1 hw hh => ?_, I.dist, fun T h0 hq => ⟨(I.first T h0 hq).1, fun w hw hh h1 => ?_⟩⟩
      · by_cases c : s < (m : Int)
        · exact I.by' w s h0 c hw hh
        · have : s = (m : Int) := by omega
          subst this
          rcases isS hw with z | ⟨t, z⟩
          · exact absurd (loud w hw hh z) (no _)
          · have := I.bnd w t z
            exact ⟨t, z, by omega⟩
      · by_cases c : T < (m : Int)
        · exact (I.first T h0 hq).2 w hw hh c
        · have : T = (m : Int) := by omega
          subst this
          rcases isS hw with z | ⟨t, z⟩
          · exact absurd (loud w hw hh z) (no _)
          · have := I.bnd w t z
            have := (I.first _ h0 hq).1 w t z
            omega
    · rw [e]
      have um : u ∈ loudL ps os (restO ps.length F) (m : Int) := by rw [hu]; exact List.mem_singleton.mpr rfl
      obtain ⟨⟨u0, u1⟩, un⟩ := rest_mem.mp (List.mem_filter.mp um).1
      have ul : u.toNat < F.length := by rw [I.len]; omega
      refine ⟨by rw [List.length_set]; exact I.len, fun w t h => ?_, fun w s h0 h1 hw hh => ?_, fun v w t h1 h2 => ?_, fun T h0 hq => ?_⟩
      · rw [get _ _ _ ul] at h
        split at h
        · cases h
          omega
        · have := I.bnd w t h
          omega
      · rw [get _ _ _ ul]
        split
        · rename_i z
          by_cases c : s < (m : Int)
          · obtain ⟨t, ht, _⟩ := I.by' w s h0 c hw hh
            rw [← z, un] at ht
            cases ht
          · exact ⟨_, rfl, by omega⟩
        · rename_i z
          by_cases c : s < (m : Int)
          · exact I.by' w s h0 c hw hh
          · have : s = (m : Int) := by omega
            subst this
            rcases isS hw with y | ⟨t, y⟩
            · have := loud w hw hh y
              rw [hu] at this
              injection this with this
              exact absurd (by omega) z
            · have := I.bnd w t y
              exact ⟨t, y, by omega⟩
      · rw [get _ _ _ ul] at h1 h2
        split at h1
        · rename_i z1
          split at h2
          · rename_i z2
            omega
          · cases h1
            have := I.bnd w _ h2
            omega
        · split at h2
          · cases h2
            have := I.bnd v _ h1
            omega
          · exact I.dist v w t h1 h2
      · have low : T ≤ (m : Int) := by
          by_cases c : T ≤ (m : Int)
          · exact c
          · exfalso
            have neg := heard_neg (hq (m : Int) (by omega) (by omega))
            -- nobody has stopped yet
            have all : ∀ w ∈ voicesL ps os (m : Int), decide (F[w.toNat]? = some none) = true := fun w hw => by
              have b := voicesF_bounds hw
              rcases isS (w := w.toNat) (by omega) with z | ⟨t, z⟩
              · exact decide_eq_true z
              · have := (I.first T h0 hq).1 _ t z
                have := I.bnd _ t z
                omega
            have ev := voices_rest hl (m : Int) F
            rw [List.filter_eq_self.mpr all, hu] at ev
            exact neg u ev
        refine ⟨fun v t h => ?_, fun w hw hh h1 => ?_⟩
        · rw [get _ _ _ ul] at h
          split at h
          · cases h
            exact low
          · exact (I.first T h0 hq).1 v t h
        · rw [get _ _ _ ul]
          split
          · rename_i z
            by_cases c : T < (m : Int)
            · have := (I.first T h0 hq).2 w hw hh c
              rw [← z, un] at this
              cases this
            · rw [show T = (m : Int) by omega]
          · rename_i z
            by_cases c : T < (m : Int)
            · exact (I.first T h0 hq).2 w hw hh c
            · have : T = (m : Int) := by omega
              subst this
              rcases isS hw with y | ⟨t, y⟩
              · have := loud w hw hh y
                rw [hu] at this
                injection this with this
                exact absurd (by omega) z
              · have := I.bnd w t y
                have := (I.first _ h0 hq).1 w t y
                omega
/-- the stops, as a run of all ticks -/
theorem stops_run {ps : List Pt} {os : List Int} (hc : Crowd ps) (hl : os.length = ps.length) : RunI ps os (ps.length * spanN ps) (stopsL ps os (spanN ps)) := by
  have hW := span_whole ps (crowd_pos hc)
  have := run_inv (ps := ps) (os := os) hl (ps.length * spanN ps)
  rw [run_all hW.dvd (by have := hW.pos; omega) (Nat.le_refl _)] at this
  exact this
theorem span_in {ps : List Pt} (hc : Crowd ps) {s : Int} (h : s < ((spanN ps : Nat) : Int)) : s < ((ps.length * spanN ps : Nat) : Int) := by
  have : 1 * spanN ps ≤ ps.length * spanN ps := Nat.mul_le_mul_right _ (by have := hc.l0; omega)
  omega
/-! ### hits within the wait -/
theorem WaitIs.any {f : Int → Bool} {m n : Int} (h : WaitIs f m) (n0 : 0 < n) (per : ∀ t, f (t + n) = f t) (t : Int) : ∃ s, t < s ∧ s ≤ t + m + 1 ∧ f s = true := by
  obtain ⟨a, ha, _⟩ := h.far
  have go : ∀ (k : Nat) (x : Int), f x = true → x ≤ t → t - x = (k : Int) → ∃ s, t < s ∧ s ≤ t + m + 1 ∧ f s = true := by
    intro k
    induction k using Nat.strongRecOn with
    | ind k ih =>
      intro x hx hxt hk
      obtain ⟨s, s1, s2, s3⟩ := h.next x hx
      by_cases c : s ≤ t
      · exact ih (t - s).toNat (by omega) s s3 c (by omega)
      · exact ⟨s, by omega, by omega, s3⟩
  have r0 := Int.emod_nonneg (a - t) (show n ≠ 0 by omega)
  have r1 := Int.emod_lt_of_pos (a - t) n0
  have d := Int.emod_add_mul_ediv (a - t) n
  have hit : f (t + (a - t) % n - n) = true := by
    have e := per_int per ((a - t) / n + 1) (t + (a - t) % n - n)
    rw [Int.mul_add, Int.mul_one, show t + (a - t) % n - n + (n * ((a - t) / n) + n) = a by omega, ha] at e
    exact e.symm
  exact go (t - (t + (a - t) % n - n)).toNat _ hit (by omega) (by omega)
/-! ### the longest run without, over two spans -/
def gapR (w : Int) : Int → Int → List Int → Int
  | found, _, [] => found
  | found, now, x :: L => gapR w (max found (if x = w then 0 else now + 1)) (if x = w then 0 else now + 1) L
theorem gap_is {g : Int → Int} {w m : Int} {n : Nat} (n0 : 0 < n) (per : ∀ t, g (t + (n : Int)) = g t) (h : WaitIs (fun t => decide (g t = w)) m) : gapR w 0 0 ((upI 0 (2 * n)).map g) = m := by
  have perB : ∀ t, decide (g (t + (n : Int)) = w) = decide (g t = w) := fun t => by rw [per]
  have any := h.any (n := (n : Int)) (by omega) perB
  obtain ⟨a, ha, hb, hno⟩ := h.far
  have mn := h.lt (n := (n : Int)) (by omega) perB
  -- the far gap within the two spans
  have r0 := Int.emod_nonneg a (show (n : Int) ≠ 0 by omega)
  have r1 := Int.emod_lt_of_pos a (show (0 : Int) < (n : Int) by omega)
  have d := Int.emod_add_mul_ediv a (n : Int)
  obtain ⟨t, t0, t1, hno⟩ : ∃ t : Int, 0 ≤ t ∧ t < (n : Int) ∧ ∀ s, t < s → s < t + m + 1 → g s ≠ w := ⟨a % (n : Int), r0, r1, fun s h1 h2 e => by
    have z := hno (s + (n : Int) * (a / (n : Int))) (by omega) (by omega)
    rw [show decide (g (s + (n : Int) * (a / (n : Int))) = w) = decide (g s = w) from per_int (f := fun t => decide (g t = w)) perB _ s, decide_eq_true e] at z
    cases z⟩
  have go : ∀ (j : Nat) (k : Int) (found now : Int), 0 ≤ k → 0 ≤ now → now ≤ k → (∀ s, k - now ≤ s → s < k → g s ≠ w) → 0 ≤ found → found ≤ m → now ≤ found →
      (t < k → k ≤ t + m + 1 → k - t - 1 ≤ now) → (t + m + 1 ≤ k → m ≤ found) → t + m + 1 ≤ k + (j : Int) → gapR w found now ((upI k j).map g) = m := by
    intro j
    induction j with
    | zero =>
      intro k found now k0 _ _ _ _ fm _ _ far hk
      have := far (by omega)
      show found = m
      omega
    | succ j ih =>
      intro k found now k0 n0 nk hn f0 fm nf near far hk
      rw [upI_cons, List.map_cons]
      show gapR w (max found (if g k = w then 0 else now + 1)) (if g k = w then 0 else now + 1) ((upI (k + 1) j).map g) = m
      have small : ∀ x : Int, 0 ≤ x → (∀ s, k + 1 - x ≤ s → s < k + 1 → g s ≠ w) → x ≤ m := fun x x0 hx => by
        obtain ⟨s, s1, s2, s3⟩ := any (k - x)
        by_cases c : s < k + 1
        · exact absurd (of_decide_eq_true s3) (hx s (by omega) c)
        · omega
      by_cases e : g k = w
      · rw [if_pos e]
        refine ih (k + 1) _ 0 (by omega) (by omega) (by omega) (fun s h1 h2 => by omega) (by omega) (by omega) (by omega) (fun h1 h2 => ?_) (fun h1 => ?_) (by omega)
        · by_cases c : t < k
          · exact absurd e (hno k c (by omega))
          · omega
        · by_cases c : t + m + 1 ≤ k
          · have := far c
            omega
          · by_cases c2 : t < k
            · exact absurd e (hno k c2 (by omega))
            · omega
      · rw [if_neg e]
        have hx : ∀ s, k + 1 - (now + 1) ≤ s → s < k + 1 → g s ≠ w := fun s h1 h2 => by
          by_cases c : s < k
          · exact hn s (by omega) c
          · rw [show s = k by omega]
            exact e
        have := small (now + 1) (by omega) hx
        refine ih (k + 1) _ (now + 1) (by omega) (by omega) (by omega) hx (by omega) (by omega) (by omega) (fun h1 h2 => ?_) (fun h1 => ?_) (by omega)
        · by_cases c : t < k
          · have := near c (by omega)
            omega
          · omega
        · by_cases c : t + m + 1 ≤ k
          · have := far c
            omega
          · by_cases c2 : t < k
            · have := near c2 (by omega)
              omega
            · omega
  exact go (2 * n) 0 0 0 (by omega) (by omega) (by omega) (fun s h1 h2 => by omega) (by omega) h.pos (by omega) (fun h1 h2 => by omega) (fun h1 => by have := h.pos; omega) (by omega)
/-! ### the longest wait bounds all -/
theorem long_all {ps : List Pt} {w : Nat} {m : Int} {d : Dt} (hp : ∀ p ∈ ps, 0 < p.1) (h : LongQ ps w (.tuple [.int m, d])) : (∀ os : List Int, os.length = ps.length → kindN ps w os ≠ 0 ∧ waitC ps w os ≤ m) ∧ ∃ os ∈ classL ps, d = offsD os ∧ waitC ps w os = m := by
  rcases h with ⟨os, _, _, _, e⟩ | ⟨hn, i, os, ho, hm, e⟩
  · cases e
  · have e1 : m = waitC ps w os ∧ d = offsD os := by
      injection e with e
      injection e with a b
      injection a with a
      injection b with b
      exact ⟨a, b⟩
    refine ⟨fun qs hq => ?_, os, List.mem_of_getElem? ho, e1.2, e1.1.symm⟩
    obtain ⟨t, ht⟩ := class_ex hp hq
    have k0 := hn _ ht
    have k1 : kindN ps w qs ≠ 0 := by rwa [kind_put hp] at k0
    obtain ⟨j, hj⟩ := List.mem_iff_getElem?.mp ht
    have := (hm j _ hj).1
    rw [wait_put hp t k1] at this
    exact ⟨k1, by omega⟩
theorem long_cut {ps : List Pt} {w : Nat} {r : Dt} (h : LongQ ps w r) : (∃ os ∈ classL ps, r = .tuple [.none, offsD os] ∧ kindN ps w os = 0 ∧ ∀ qs ∈ classL ps, kindN ps w qs = 0 → ¬ qs < os) ∨ ∃ (m : Int) (os : List Int), os ∈ classL ps ∧ r = .tuple [.int m, offsD os] ∧ waitC ps w os = m ∧ ∀ qs ∈ classL ps, kindN ps w qs ≠ 0 := by
  rcases h with ⟨os, ho, hk, hm, e⟩ | ⟨hn, i, os, ho, hm, e⟩
  · exact .inl ⟨os, ho, e, hk, hm⟩
  · exact .inr ⟨_, os, List.mem_of_getElem? ho, e, rfl, hn⟩
/-! ### `None not in`, len(set(..)) -/
section
variable {K : PySem.W.Frag} {δ : Nm} {ta : TE} {R : Dt → Prop}
theorem o_noneNiT {fs : List (Option Int)} (r : R (.bool (!fs.any Option.isNone))) : OpD K (rIn K true) .none (.tuple (fs.map optD)) R := fun ω G H v u Q k h1 h2 q => by
  obtain ⟨a, xs, rfl, hs, ra⟩ := h2.tuple_inv
  obtain rfl := rp_opts ra
  obtain rfl := h1.none_inv
  exact ⟨a, _, rfl, .inr (same_t k.1 hs), rfl, flat_opts fs, q _ _ G H (Same.refl G) k (by rw [if_pos rfl, inV_opts]; exact .bl _) r⟩
theorem w_lenSet (h : W K ta δ fun d => ∃ ns : List Int, d = .list (ns.map .int) ∧ ns.Nodup ∧ ns.length ≤ 4000 ∧ R (.int (ns.length : Int))) : W K (RZ.tLenSetI K ta) δ R := fun ω σ G H Q e k q => h ω σ G H _ e k fun v d G1 H1 g1 k1 r1 ⟨ns, e1, nd, hl, hr⟩ => by
  subst e1
  obtain ⟨a, xs, rfl, hs, ra⟩ := r1.list_inv
  obtain rfl := ra.ints
  exact ⟨a, ns, rfl, .inl (.inl (k1.1 _ _ hs)), nd, hl, q _ _ G1 H1 g1 k1 (.int _) hr⟩
end
end DW
namespace DW
open PySem PySem.Spec PyProof.Rows L2
variable [Tabl]
/-! ### enumerated lines -/
theorem enP_up {g : Int → Int} : ∀ (N : Nat) (a : Int), enP a ((upI a N).map g) = (upI a N).map fun t => (t, g t)
  | 0, _ => rfl
  | N + 1, a => by
    rw [upI_cons, List.map_cons, List.map_cons]
    show (a, g a) :: enP (a + 1) ((upI (a + 1) N).map g) = _
    rw [enP_up N (a + 1)]
theorem enP_filter {g : Int → Int} (q : Int → Bool) (N : Nat) : (((enP 0 ((upI 0 N).map g)).filter fun p => q p.2).map fun p => PyData.int p.1) = ((upI 0 N).filter fun t => q (g t)).map PyData.int := by
  rw [enP_up, List.filter_map, List.map_map]
  rfl
/-- the ticks in which somebody gets through -/
def goodL (ps : List Pt) (os : List Int) : List Int := (upI 0 (spanN ps)).filter fun t => decide (0 ≤ heardI ps os t)
/-- the ticks of those that stop -/
def stopI (S : List (Option Int)) : List Int := (S.filter Option.isSome).map fun x => x.getD 0
theorem mem_stopI {S : List (Option Int)} {t : Int} : t ∈ stopI S ↔ some t ∈ S := by
  unfold stopI
  rw [List.mem_map]
  constructor
  · rintro ⟨x, hx, rfl⟩
    obtain ⟨a, b⟩ := List.mem_filter.mp hx
    cases x with
    | none => cases b
    | some t => exact a
  · exact fun h => ⟨some t, List.mem_filter.mpr ⟨h, rfl⟩, rfl⟩
theorem stopI_nodup : ∀ {S : List (Option Int)}, (∀ (v w : Nat) (t : Int), S[v]? = some (some t) → S[w]? = some (some t) → v = w) → (stopI S).Nodup
  | [], _ => List.Pairwise.nil
  | none :: S, h => by
    have ih := stopI_nodup (S := S) fun v w t h1 h2 => by
      have := h (v + 1) (w + 1) t h1 h2
      omega
    exact ih
  | some a :: S, h => by
    have ih := stopI_nodup (S := S) fun v w t h1 h2 => by
      have := h (v + 1) (w + 1) t h1 h2
      omega
    have e : stopI (some a :: S) = a :: stopI S := rfl
    rw [e]
    refine List.nodup_cons.mpr ⟨fun z => ?_, ih⟩
    obtain ⟨w, hw⟩ := List.mem_iff_getElem?.mp (mem_stopI.mp z)
    have := h 0 (w + 1) a rfl hw
    omega
theorem stopI_len {S : List (Option Int)} : (stopI S).length ≤ S.length := by
  unfold stopI
  rw [List.length_map]
  exact List.length_filter_le _ _
theorem first_stop {ps : List Pt} {os : List Int} (hc : Crowd ps) (hl : os.length = ps.length) :
    (goodL ps os = [] → stopI (stopsL ps os (spanN ps)) = []) ∧ ∀ T R, goodL ps os = T :: R → ∃ w : Nat, w < ps.length ∧ (0 ≤ T ∧ T < ((spanN ps : Nat) : Int)) ∧ heardI ps os T = (w : Int) ∧ (stopsL ps os (spanN ps))[w]? = some (some T) ∧ ∀ t, some t ∈ stopsL ps os (spanN ps) → T ≤ t := by
  have I := stops_run hc hl
  have hW := span_whole ps (crowd_pos hc)
  have n0 : (0 : Int) < ((spanN ps : Nat) : Int) := by have := hW.pos; omega
  have mem : ∀ t, t ∈ goodL ps os ↔ (0 ≤ t ∧ t < ((spanN ps : Nat) : Int)) ∧ 0 ≤ heardI ps os t := fun t => by
    unfold goodL
    rw [List.mem_filter, mem_upI, decide_eq_true_eq, Int.zero_add]
  constructor
  · intro e
    have quiet : ∀ s, 0 ≤ s → heardI ps os s < 0 := fun s s0 => by
      have per := per_int (f := fun t => decide (heardI ps os t < 0)) (n := ((spanN ps : Nat) : Int)) (fun t => by
        show decide (heardI ps os (t + _) < 0) = _
        rw [heard_per hW.dvd]) (s / ((spanN ps : Nat) : Int)) (s % ((spanN ps : Nat) : Int))
      have d := Int.emod_add_mul_ediv s ((spanN ps : Nat) : Int)
      rw [d] at per
      have r0 := Int.emod_nonneg s (show ((spanN ps : Nat) : Int) ≠ 0 by omega)
      have r1 := Int.emod_lt_of_pos s n0
      have : ¬ 0 ≤ heardI ps os (s % ((spanN ps : Nat) : Int)) := fun z => by
        have := (mem _).mpr ⟨⟨r0, r1⟩, z⟩
        rw [e] at this
        exact absurd this List.not_mem_nil
      have per : decide (heardI ps os s < 0) = decide (heardI ps os (s % ((spanN ps : Nat) : Int)) < 0) := per
      rw [decide_eq_true (show heardI ps os (s % ((spanN ps : Nat) : Int)) < 0 by omega)] at per
      exact of_decide_eq_true per
    cases hS : stopI (stopsL ps os (spanN ps)) with
    | nil => rfl
    | cons t R =>
      have ht : some t ∈ stopsL ps os (spanN ps) := mem_stopI.mp (by rw [hS]; exact List.mem_cons_self)
      obtain ⟨v, hv⟩ := List.mem_iff_getElem?.mp ht
      have a := I.bnd v t hv
      have b := (I.first ((ps.length * spanN ps : Nat) : Int) (by omega) fun s s0 _ => quiet s s0).1 v t hv
      omega
  · intro T R e
    have hT := (mem T).mp (by rw [e]; exact List.mem_cons_self)
    have hb := heard_bounds ps os T
    have asc : (goodL ps os).Pairwise (· < ·) := (upI_asc 0 (spanN ps)).filter _
    have quiet : ∀ s, 0 ≤ s → s < T → heardI ps os s < 0 := fun s s0 s1 => by
      by_cases z : heardI ps os s < 0
      · exact z
      · have hm := (mem s).mpr ⟨⟨s0, by omega⟩, by omega⟩
        rw [e] at hm asc
        rcases List.mem_cons.mp hm with y | y
        · omega
        · have := (List.pairwise_cons.mp asc).1 s y
          omega
    have F := I.first T hT.1.1 quiet
    refine ⟨(heardI ps os T).toNat, by omega, hT.1, by omega, F.2 _ (by omega) (by omega) (span_in hc hT.1.2), fun t ht => ?_⟩
    obtain ⟨v, hv⟩ := List.mem_iff_getElem?.mp ht
    exact F.1 v t hv
theorem stop_wait {ps : List Pt} {w : Nat} {m : Int} {d : Dt} {os : List Int} (hc : Crowd ps) (hw : w < ps.length) (hl : os.length = ps.length) (h : LongQ ps w (.tuple [.int m, d])) : ∃ t, (stopsL ps os (spanN ps))[w]? = some (some t) ∧ t ≤ m := by
  have pos := crowd_pos hc
  have hW := span_whole ps pos
  obtain ⟨k0, le⟩ := (long_all pos h).1 os hl
  have r := wait_range pos k0
  obtain ⟨s, s1, s2, s3⟩ := (wait_is pos k0).any (n := ((spanN ps : Nat) : Int)) (by have := hW.pos; omega) (fun t => by rw [heard_per hW.dvd]) (-1)
  obtain ⟨t, ht, tle⟩ := (stops_run hc hl).by' w s (by omega) (span_in hc (by omega)) hw (of_decide_eq_true s3)
  exact ⟨t, ht, by omega⟩
theorem stop_hit {ps : List Pt} {os : List Int} (hc : Crowd ps) (hl : os.length = ps.length) (h : ∀ w : Nat, w < ps.length → kindN ps (w : Int) os ≠ 0) : (stopsL ps os (spanN ps)).any Option.isNone = false := by
  cases e : (stopsL ps os (spanN ps)).any Option.isNone with
  | false => rfl
  | true =>
    obtain ⟨x, hx, hn⟩ := List.any_eq_true.mp e
    cases x with
    | some t => cases hn
    | none =>
      obtain ⟨w, hw⟩ := List.mem_iff_getElem?.mp hx
      have wl := (List.getElem?_eq_some_iff.mp hw).1
      rw [stops_len] at wl
      obtain ⟨a, ha⟩ := List.exists_mem_of_ne_nil _ (kind_pos.mp (h w wl))
      have pa := pos_line.mp ha
      obtain ⟨t, ht, _⟩ := (stops_run hc hl).by' w a pa.1.1 (span_in hc pa.1.2) wl pa.2
      rw [hw] at ht
      cases ht
theorem safe_stops {ps : List Pt} {os : List Int} (hc : Crowd ps) (hl : os.length = ps.length) (h : ∀ cs ∈ classL ps, ∀ w : Nat, w < ps.length → kindN ps (w : Int) cs ≠ 0) : (stopsL ps os (spanN ps)).any Option.isNone = false := by
  have pos := crowd_pos hc
  obtain ⟨t, ht⟩ := class_ex pos hl
  exact stop_hit hc hl fun w hw => by
    have := h _ ht w hw
    rwa [kind_put pos] at this
/-! ### the last stop -/
theorem lastF_cut {ps : List Pt} {n : Nat} : ∀ (L : List (List Int)) (l : Int) (g : Dt), (∃ os ∈ L, lastF ps n L l g = .tuple [.none, offsD os] ∧ (stopsL ps os n).any Option.isNone = true) ∨
    ∃ (M : Int) (G : Dt), lastF ps n L l g = .tuple [.int M, G] ∧ l ≤ M ∧ (∀ qs ∈ L, (stopsL ps qs n).any Option.isNone = false ∧ topO (stopsL ps qs n) ≤ M) ∧ ((M = l ∧ G = g) ∨ ∃ os ∈ L, M = topO (stopsL ps os n) ∧ G = offsD os)
  | [], l, g => .inr ⟨l, g, rfl, Int.le_refl _, fun qs h => absurd h List.not_mem_nil, .inl ⟨rfl, rfl⟩⟩
  | os :: L, l, g => by
    unfold lastF
    cases ha : (stopsL ps os n).any Option.isNone with
    | true =>
      rw [if_pos rfl]
      exact .inl ⟨os, List.mem_cons_self, rfl, ha⟩
    | false =>
      rw [if_neg (by decide)]
      by_cases c : l < topO (stopsL ps os n)
      · rw [if_pos c]
        rcases lastF_cut L (topO (stopsL ps os n)) (offsD os) with ⟨qs, hq, e, z⟩ | ⟨M, G, e, le, all, or⟩
        · exact .inl ⟨qs, List.mem_cons_of_mem _ hq, e, z⟩
        · refine .inr ⟨M, G, e, by omega, fun qs hq => ?_, .inr ?_⟩
          · rcases List.mem_cons.mp hq with rfl | hq
            · exact ⟨ha, le⟩
            · exact all qs hq
          · rcases or with ⟨e1, e2⟩ | ⟨qs, hq, e1, e2⟩
            · exact ⟨os, List.mem_cons_self, e1, e2⟩
            · exact ⟨qs, List.mem_cons_of_mem _ hq, e1, e2⟩
      · rw [if_neg c]
        rcases lastF_cut L l g with ⟨qs, hq, e, z⟩ | ⟨M, G, e, le, all, or⟩
        · exact .inl ⟨qs, List.mem_cons_of_mem _ hq, e, z⟩
        · refine .inr ⟨M, G, e, le, fun qs hq => ?_, ?_⟩
          · rcases List.mem_cons.mp hq with rfl | hq
            · exact ⟨ha, by omega⟩
            · exact all qs hq
          · rcases or with h | ⟨qs, hq, e1, e2⟩
            · exact .inl h
            · exact .inr ⟨qs, List.mem_cons_of_mem _ hq, e1, e2⟩
theorem last_cut {ps : List Pt} (hc : Crowd ps) (hs : spanN ps ≤ 2000) : (∃ os, Offs ps os ∧ lastD ps = .tuple [.none, offsD os] ∧ (stopsL ps os (spanN ps)).any Option.isNone = true) ∨
    ∃ (M : Int) (os : List Int), Offs ps os ∧ lastD ps = .tuple [.int M, offsD os] ∧ M = topO (stopsL ps os (spanN ps)) ∧ ∀ qs, Box qs (ps.map fun p => p.1) → (stopsL ps qs (spanN ps)).any Option.isNone = false ∧ topO (stopsL ps qs (spanN ps)) ≤ M := by
  have off : ∀ os ∈ belowL (ps.map fun p => p.1), Offs ps os := fun os h => by
    obtain ⟨a, b⟩ := box_offs (mem_below.mp h)
    exact ⟨a, b⟩
  rcases lastF_cut (ps := ps) (n := spanN ps) (belowL (ps.map fun p => p.1)) (-1) .none with ⟨os, ho, e, z⟩ | ⟨M, G, e, le, all, or⟩
  · exact .inl ⟨os, off os ho, e, z⟩
  · rcases or with ⟨e1, _⟩ | ⟨os, ho, e1, e2⟩
    · have ne : belowL (ps.map fun p => p.1) ≠ [] := fun z => by
        have l : ((belowL (ps.map fun p => p.1)).length : Int) = prodI (ps.map fun p => p.1) := below_len fun m hm => by
          obtain ⟨q, hq, rfl⟩ := List.mem_map.mp hm
          have := (hc.all q hq).n0
          omega
        have := prod_pos (ns := ps.map fun p => p.1) fun m hm => by
          obtain ⟨q, hq, rfl⟩ := List.mem_map.mp hm
          have := (hc.all q hq).n0
          omega
        rw [z] at l
        have l : (0 : Int) = prodI (ps.map fun p => p.1) := l
        omega
      obtain ⟨qs, hq⟩ := List.exists_mem_of_ne_nil _ ne
      have := (all qs hq).2
      have := (topO_bound (ps := ps) (os := qs) hc.l1 hs).1
      omega
    · refine .inr ⟨M, os, off os ho, by rw [← e2]; exact e, e1, fun qs hb => all qs (mem_below.mpr hb)⟩
theorem offs_wide : ∀ {ps : List Pt} {os : List Int}, Offs ps os → Box os (ps.map fun p => p.1)
  | [], [], _ => trivial
  | [], _ :: _, h => by have := h.len; cases this
  | _ :: _, [], h => by have := h.len; cases this
  | p :: ps, o :: os, h => ⟨h.all (o, p) (by rw [List.zip_cons_cons]; exact List.mem_cons_self), offs_wide (ps := ps) (os := os) ⟨by have := h.len; simpa using this, fun q hq => h.all q (by rw [List.zip_cons_cons]; exact List.mem_cons_of_mem _ hq)⟩⟩
theorem no_none {S : List (Option Int)} (h : S.any Option.isNone = false) (ne : S ≠ []) : (S.map fun x => x.getD 0) ≠ [] := fun z => ne (List.map_eq_nil_iff.mp z)
end DW
namespace DW
open PySem PySem.Spec PyProof.Rows L2
variable [Tabl]
/-! ### int(b) -/
section
variable {K : PySem.W.Frag} {R : Dt → Prop}
theorem b_intB {b : Bool} (r : R (.int (if b = true then 1 else 0))) : CbD K (fun xs H Q => (∃ i, xs = [V.int i] ∧ Q (.int i) H) ∨ ∃ k, xs = [V.bl k] ∧ Q (.int (if k = true then 1 else 0)) H) [.dat (.bool b)] R := fun ω G H vs Q k h q => by
  obtain ⟨v, rfl, rv⟩ := rel1 h
  exact .inr ⟨b, by rw [rv.bool_inv], q _ _ G H (Same.refl G) k (.int _) r⟩
end
/-! ### two spans as one row -/
theorem line_two {ps : List Pt} {os : List Int} (hp : ∀ p ∈ ps, 0 < p.1) : lineL ps os (spanN ps) ++ lineL ps os (spanN ps) = lineL ps os (2 * spanN ps) := by
  have hW := span_whole ps hp
  unfold lineL
  rw [show 2 * spanN ps = spanN ps + spanN ps by omega, upI_app, List.map_append, Int.zero_add]
  congr 1
  have := upI_shift 0 ((spanN ps : Nat) : Int) (spanN ps)
  rw [Int.zero_add] at this
  rw [this, List.map_map]
  refine List.map_congr_left fun t _ => ?_
  exact (heard_per hW.dvd t).symm
/-! ### who sends, one by one -/
theorem heard_by {ps : List Pt} {os : List Int} {t : Int} {w : Nat} (hl : os.length = ps.length) (hw : w < ps.length) : heardI ps os t = (w : Int) ↔ sndJ ps os w t = true ∧ ∀ j, j < ps.length → j ≠ w → sndJ ps os j t = false := by
  rw [heard_iff hl hw, Bool.and_eq_true]
  unfold restZ
  rw [List.all_eq_true]
  constructor
  · rintro ⟨a, b⟩
    refine ⟨a, fun j hj ne => ?_⟩
    have := b j (List.mem_range.mpr hj)
    rw [decide_eq_false ne, Bool.false_or] at this
    cases h : sndJ ps os j t with
    | false => rfl
    | true => rw [h] at this; cases this
  · rintro ⟨a, b⟩
    refine ⟨a, fun j hj => ?_⟩
    by_cases e : j = w
    · rw [decide_eq_true e]
      rfl
    · rw [b j (List.mem_range.mp hj) e]
      simp
theorem voices_same {ps qs : List Pt} {os rs : List Int} {t : Int} (h1 : os.length = ps.length) (h2 : rs.length = qs.length) (hl : qs.length = ps.length) (h : ∀ j, j < ps.length → sndJ qs rs j t = sndJ ps os j t) : voicesL qs rs t = voicesL ps os t := by
  rw [voices_filter h1, voices_filter h2, hl]
  refine List.filter_congr fun w hw => ?_
  obtain ⟨a, b⟩ := mem_upI.mp hw
  exact h w.toNat (by omega)
theorem heard_hit {ps : List Pt} {os : List Int} {w : Int} {t : Int} (hp : ∀ p ∈ ps, 0 < p.1) (h : heardI ps os t = w) : kindN ps w os ≠ 0 := by
  have hW := span_whole ps hp
  have n0 : (0 : Int) < ((spanN ps : Nat) : Int) := by have := hW.pos; omega
  refine kind_pos.mpr fun e => ?_
  have per := per_int (f := fun t => decide (heardI ps os t = w)) (n := ((spanN ps : Nat) : Int)) (fun t => by
    show decide (heardI ps os (t + _) = w) = _
    rw [heard_per hW.dvd]) (t / ((spanN ps : Nat) : Int)) (t % ((spanN ps : Nat) : Int))
  have d := Int.emod_add_mul_ediv t ((spanN ps : Nat) : Int)
  rw [d] at per
  have r0 := Int.emod_nonneg t (show ((spanN ps : Nat) : Int) ≠ 0 by omega)
  have r1 := Int.emod_lt_of_pos t n0
  have per : decide (heardI ps os t = w) = decide (heardI ps os (t % ((spanN ps : Nat) : Int)) = w) := per
  rw [decide_eq_true h] at per
  have : t % ((spanN ps : Nat) : Int) ∈ posF w 0 (lineL ps os (spanN ps)) := pos_line.mpr ⟨⟨r0, r1⟩, of_decide_eq_true per.symm⟩
  rw [e] at this
  exact absurd this List.not_mem_nil
/-! ### without one sender -/
theorem snd_less (ps : List Pt) (os : List Int) (g j : Nat) (t : Int) : sndJ (ps.eraseIdx g) (os.eraseIdx g) j t = sndJ ps os (if j < g then j else j + 1) t := by
  unfold sndJ
  rw [List.getElem?_eraseIdx, List.getElem?_eraseIdx]
  by_cases h : j < g
  · rw [if_pos h, if_pos h, if_pos h]
  · rw [if_neg h, if_neg h, if_neg h]
theorem heard_less {ps : List Pt} {os : List Int} {t : Int} {w g : Nat} (hl : os.length = ps.length) (hw : w < ps.length) (hg : g < ps.length) (ne : g ≠ w) (h : heardI ps os t = (w : Int)) : heardI (ps.eraseIdx g) (os.eraseIdx g) t = ((if g < w then w - 1 else w : Nat) : Int) := by
  obtain ⟨a, b⟩ := (heard_by hl hw).mp h
  have l1 : (ps.eraseIdx g).length = ps.length - 1 := List.length_eraseIdx_of_lt hg
  have l2 : (os.eraseIdx g).length = os.length - 1 := List.length_eraseIdx_of_lt (by omega)
  refine (heard_by (by omega) (by split <;> omega)).mpr ⟨?_, fun j hj nj => ?_⟩
  · rw [snd_less]
    by_cases c : g < w
    · rw [if_pos c, if_neg (by omega), show w - 1 + 1 = w by omega]
      exact a
    · rw [if_neg c, if_pos (by omega)]
      exact a
  · rw [snd_less]
    by_cases c : g < w
    · rw [if_pos c] at nj
      split
      · exact b j (by omega) (by omega)
      · exact b (j + 1) (by omega) (by omega)
    · rw [if_neg c] at nj
      split
      · exact b j (by omega) (by omega)
      · exact b (j + 1) (by omega) (by omega)
theorem put_in : ∀ (g : Nat) (qs : List Int), g ≤ qs.length → ∃ os : List Int, os.length = qs.length + 1 ∧ os.eraseIdx g = qs
  | 0, qs, _ => ⟨0 :: qs, rfl, rfl⟩
  | g + 1, [], h => by cases h
  | g + 1, q :: qs, h => by
    obtain ⟨os, a, b⟩ := put_in g qs (by simpa using h)
    refine ⟨q :: os, by rw [List.length_cons, List.length_cons, a], ?_⟩
    show q :: os.eraseIdx g = q :: qs
    rw [b]
theorem WaitIs.sub {f g : Int → Bool} {m k n : Int} (h : WaitIs f m) (h2 : WaitIs g k) (n0 : 0 < n) (per : ∀ t, f (t + n) = f t) (s : ∀ t, f t = true → g t = true) : k ≤ m := by
  obtain ⟨t, _, _, no⟩ := h2.far
  obtain ⟨x, x1, x2, x3⟩ := h.any n0 per t
  by_cases c : x < t + k + 1
  · have := no x x1 c
    rw [s x x3] at this
    cases this
  · omega
theorem less_wait {ps : List Pt} {w g : Nat} {m : Int} {r : Dt} (hp : ∀ p ∈ ps, 0 < p.1) (hw : w < ps.length) (hg : g < ps.length) (ne : g ≠ w) (all : ∀ os : List Int, os.length = ps.length → kindN ps w os ≠ 0 ∧ waitC ps w os ≤ m)
    (h : LongQ (ps.eraseIdx g) (if g < w then w - 1 else w) r) : ∃ m' d, r = .tuple [.int m', d] ∧ m' ≤ m := by
  have hp' : ∀ p ∈ ps.eraseIdx g, 0 < p.1 := fun p h => hp p (List.mem_of_mem_eraseIdx h)
  have l1 : (ps.eraseIdx g).length = ps.length - 1 := List.length_eraseIdx_of_lt hg
  have hW := span_whole ps hp
  have n0 : (0 : Int) < ((spanN ps : Nat) : Int) := by have := hW.pos; omega
  have back : ∀ qs : List Int, qs.length = (ps.eraseIdx g).length → ∃ os : List Int, os.length = ps.length ∧ os.eraseIdx g = qs := fun qs hq => by
    obtain ⟨os, a, b⟩ := put_in g qs (by omega)
    exact ⟨os, by omega, b⟩
  have len : ∀ qs ∈ classL (ps.eraseIdx g), qs.length = (ps.eraseIdx g).length := fun qs h => by
    have := (class_wide hp' h).len
    rw [List.length_map] at this
    exact this
  rcases long_cut h with ⟨qs, hq, _, hk, _⟩ | ⟨m', qs, hq, rfl, hm, hn⟩
  · exfalso
    obtain ⟨os, ho, rfl⟩ := back qs (len qs hq)
    obtain ⟨t, ht, _⟩ := (wait_is hp (all os ho).1).far
    exact heard_hit hp' (heard_less ho hw hg ne (of_decide_eq_true ht)) hk
  · refine ⟨m', _, rfl, ?_⟩
    obtain ⟨os, ho, rfl⟩ := back qs (len qs hq)
    obtain ⟨k0, le⟩ := all os ho
    have a := wait_is hp k0
    have b := wait_is hp' (hn _ hq)
    have := a.sub b n0 (fun t => by rw [heard_per hW.dvd]) fun t ht => decide_eq_true (heard_less ho hw hg ne (of_decide_eq_true ht))
    omega
/-! ### a pattern turned -/
theorem snd_mod (p : Pt) (o t : Int) : sndB p (o % p.1) t = sndB p o t := by
  unfold sndB
  have : (t - o % p.1) % p.1 = (t - o) % p.1 := by
    rw [Int.emod_def o, show t - (o - p.1 * (o / p.1)) = t - o + p.1 * (o / p.1) by omega, Int.add_mul_emod_self_left]
  rw [this]
theorem snd_turn {p : Pt} (n0 : 0 < p.1) (b o t : Int) : sndB (p.1, turnS p.1 p.2 b) o t = sndB p (o + b) t := by
  unfold sndB
  refine decide_eq_decide.mpr ?_
  show (t - o) % p.1 ∈ turnS p.1 p.2 b ↔ _
  rw [mem_turnS n0]
  have e : ((t - o) % p.1 - b) % p.1 = (t - (o + b)) % p.1 := by
    rw [Int.emod_def (t - o), show t - o - p.1 * ((t - o) / p.1) - b = t - (o + b) + p.1 * -((t - o) / p.1) by rw [Int.mul_neg]; omega, Int.add_mul_emod_self_left]
  rw [e]
  exact ⟨fun h => h.2, fun h => ⟨⟨Int.emod_nonneg _ (by omega), Int.emod_lt_of_pos _ n0⟩, h⟩⟩
theorem heard_turn {ps : List Pt} {os : List Int} {z : Nat} {p : Pt} {o b : Int} (n0 : 0 < p.1) (hl : os.length = ps.length) (hz : ps[z]? = some p) (ho : os[z]? = some o) (t : Int) : heardI (ps.set z (p.1, turnS p.1 p.2 b)) os t = heardI ps (os.set z ((o + b) % p.1)) t := by
  have zl := (List.getElem?_eq_some_iff.mp hz).1
  unfold heardI
  congr 1
  refine voices_same (by rw [List.length_set]; exact hl) (by rw [List.length_set]; exact hl) (by rw [List.length_set]) fun j hj => ?_
  unfold sndJ
  by_cases e : z = j
  · subst e
    rw [List.getElem?_set_self zl, List.getElem?_set_self (by omega), ho, hz]
    show sndB (p.1, turnS p.1 p.2 b) o t = sndB p ((o + b) % p.1) t
    rw [snd_turn n0, snd_mod]
  · rw [List.getElem?_set_ne e, List.getElem?_set_ne e]
theorem turn_same {ps : List Pt} {os : List Int} {z : Nat} {p : Pt} {o b : Int} (n0 : 0 < p.1) (hl : os.length = ps.length) (hz : ps[z]? = some p) (ho : os[z]? = some o) (w : Nat) :
    kindN (ps.set z (p.1, turnS p.1 p.2 b)) w os = kindN ps w (os.set z ((o + b) % p.1)) ∧ waitC (ps.set z (p.1, turnS p.1 p.2 b)) w os = waitC ps w (os.set z ((o + b) % p.1)) := by
  have es : spanN (ps.set z (p.1, turnS p.1 p.2 b)) = spanN ps := (span_per 1 (per_set hz)).1
  have el : lineL (ps.set z (p.1, turnS p.1 p.2 b)) os (spanN (ps.set z (p.1, turnS p.1 p.2 b))) = lineL ps (os.set z ((o + b) % p.1)) (spanN ps) := by
    rw [es]
    unfold lineL
    exact List.map_congr_left fun t _ => heard_turn n0 hl hz ho t
  constructor
  · unfold kindN
    rw [el]
  · unfold waitC
    rw [el]
theorem turn_long {ps : List Pt} {z : Nat} {p : Pt} {b : Int} {w : Nat} {r s : Dt} (hp : ∀ p ∈ ps, 0 < p.1) (hz : ps[z]? = some p) (h : LongQ ps w r) (h2 : LongQ (ps.set z (p.1, turnS p.1 p.2 b)) w s) : ∃ v d d', r = .tuple [v, d] ∧ s = .tuple [v, d'] := by
  have n0 := hp p (List.mem_of_getElem? hz)
  have zl := (List.getElem?_eq_some_iff.mp hz).1
  have hp' : ∀ q ∈ ps.set z (p.1, turnS p.1 p.2 b), 0 < q.1 := fun q hq => by
    rcases List.mem_or_eq_of_mem_set hq with y | y
    · exact hp q y
    · rw [y]
      exact n0
  have at' : ∀ {os : List Int}, os.length = ps.length → os[z]? = some (os[z]?.getD 0) := fun {os} hl => by
    rw [List.getElem?_eq_getElem (show z < os.length by omega)]
    rfl
  -- offsets of the one for those of the other
  have fwd : ∀ os : List Int, os.length = ps.length → ∃ qs : List Int, qs.length = ps.length ∧ kindN (ps.set z (p.1, turnS p.1 p.2 b)) w os = kindN ps w qs ∧ waitC (ps.set z (p.1, turnS p.1 p.2 b)) w os = waitC ps w qs := fun os hl =>
    ⟨_, by rw [List.length_set]; exact hl, turn_same n0 hl hz (at' hl) w⟩
  have bwd : ∀ qs : List Int, qs.length = ps.length → Box qs (ps.map (·.1)) → ∃ os : List Int, os.length = ps.length ∧ kindN (ps.set z (p.1, turnS p.1 p.2 b)) w os = kindN ps w qs ∧ waitC (ps.set z (p.1, turnS p.1 p.2 b)) w os = waitC ps w qs := fun qs hl hb => by
    have hq := at' hl
    generalize qs[z]?.getD 0 = o at hq
    have bd : 0 ≤ o ∧ o < p.1 := by
      obtain ⟨_, c⟩ := box_offs hb
      refine c (o, p) ?_
      refine List.mem_iff_getElem?.mpr ⟨z, ?_⟩
      rw [List.getElem?_zip_eq_some]
      exact ⟨hq, hz⟩
    have ql : z < qs.length := by omega
    refine ⟨qs.set z ((o - b) % p.1), by rw [List.length_set]; exact hl, ?_⟩
    have e : (qs.set z ((o - b) % p.1)).set z (((o - b) % p.1 + b) % p.1) = qs := by
      rw [List.set_set]
      have : ((o - b) % p.1 + b) % p.1 = o := by
        rw [Int.emod_add_emod, show o - b + b = o by omega]
        exact Int.emod_eq_of_lt bd.1 bd.2
      rw [this]
      apply List.ext_getElem?
      intro j
      by_cases ej : z = j
      · subst ej
        rw [List.getElem?_set_self ql, hq]
      · rw [List.getElem?_set_ne ej]
    have := turn_same (b := b) n0 (os := qs.set z ((o - b) % p.1)) (by rw [List.length_set]; exact hl) hz (List.getElem?_set_self ql) w
    rw [e] at this
    exact this
  have len : ∀ {qs : List Int}, qs ∈ classL ps → qs.length = ps.length := fun {qs} h => by
    have := (class_wide hp h).len
    rw [List.length_map] at this
    exact this
  have len' : ∀ {qs : List Int}, qs ∈ classL (ps.set z (p.1, turnS p.1 p.2 b)) → qs.length = ps.length := fun {qs} h => by
    have := (class_wide hp' h).len
    rw [List.length_map, List.length_set] at this
    exact this
  rcases long_cut h with ⟨qs, hq, rfl, hk, _⟩ | ⟨m, qs, hq, rfl, hm, _⟩
  · rcases long_cut h2 with ⟨rs, _, rfl, _⟩ | ⟨m', rs, _, rfl, _⟩
    · exact ⟨_, _, _, rfl, rfl⟩
    · exfalso
      obtain ⟨os, ho, e1, _⟩ := bwd qs (len hq) (class_wide hp hq)
      exact ((long_all hp' h2).1 os (by rw [List.length_set]; exact ho)).1 (e1.trans hk)
  · rcases long_cut h2 with ⟨rs, hr, rfl, hk, _⟩ | ⟨m', rs, hr, rfl, hm', _⟩
    · exfalso
      obtain ⟨os, ho, e1, _⟩ := fwd rs (len' hr)
      exact ((long_all hp h).1 os ho).1 (e1.symm.trans hk)
    · obtain ⟨os, ho, _, e1⟩ := fwd rs (len' hr)
      obtain ⟨os2, ho2, _, e2⟩ := bwd qs (len hq) (class_wide hp hq)
      have a := ((long_all hp h).1 os ho).2
      have c := ((long_all hp' h2).1 os2 (by rw [List.length_set]; exact ho2)).2
      have : m = m' := by omega
      subst this
      exact ⟨_, _, _, rfl, rfl⟩
end DW
namespace DW
open PySem PySem.Spec PyProof.Rows L2
variable [Tabl]
/-! ### patterns turned, in short, repeated -/
section
variable {n : Int} {ms : List Int}
theorem turn_turn (n0 : 0 < n) (a b : Int) : turnS n (turnS n ms a) b = turnS n ms (a + b) := by
  refine asc_ext (turnS_asc _ _ _) (turnS_asc _ _ _) fun t => ?_
  rw [mem_turnS n0, mem_turnS n0, mem_turnS n0]
  have e : ((t - b) % n - a) % n = (t - (a + b)) % n := by
    rw [Int.emod_def (t - b), show t - b - n * ((t - b) / n) - a = t - (a + b) + n * -((t - b) / n) by rw [Int.mul_neg]; omega, Int.add_mul_emod_self_left]
  rw [e]
  exact ⟨fun h => ⟨h.1, h.2.2⟩, fun h => ⟨h.1, ⟨Int.emod_nonneg _ (by omega), Int.emod_lt_of_pos _ n0⟩, h.2⟩⟩
theorem turn_whole (hb : Beat n ms) : turnS n ms n = ms := (turn_fix hb).mpr (fix_n n ms)
theorem turn_len (hb : Beat n ms) (b : Int) : (turnS n ms b).length = ms.length := by
  have p : ((ms.map fun s => (s + b) % n).mergeSort fun a b => decide (a ≤ b)).Perm (ms.map fun s => (s + b) % n) := List.mergeSort_perm _ _
  have so : ((ms.map fun s => (s + b) % n).mergeSort fun a b => decide (a ≤ b)).Pairwise (fun a b => decide (a ≤ b) = true) := List.pairwise_mergeSort (fun a b c h1 h2 => by
    have := of_decide_eq_true h1
    have := of_decide_eq_true h2
    exact decide_eq_true (by omega)) (fun a b => by
    by_cases c : a ≤ b
    · rw [decide_eq_true c]
      rfl
    · rw [decide_eq_true (show b ≤ a by omega), Bool.or_true]) _
  have e := turn_sorted hb p (so.imp fun h => of_decide_eq_true h)
  rw [← e, p.length_eq, List.length_map]
theorem short_al (hb : Beat n ms) : Al n ms (shortM n ms) (shortS n ms) 0 := fun t => by
  rw [Int.sub_zero]
  exact (short_sends hb t).symm
theorem al_sym {k : Int} {ls : List Int} (h : Al n ms k ls 0) : Al k ls n ms 0 := fun t => by
  have := h t
  rw [Int.sub_zero] at this
  rw [Int.sub_zero]
  exact this.symm
/-- who sends alike has the same in short -/
theorem al_shorts {k : Int} {ls : List Int} (hn : Beat n ms) (hk : Beat k ls) (h : Al n ms k ls 0) : shortM n ms = shortM k ls ∧ shortS n ms = shortS k ls := by
  have em := al_same hn hk h
  refine ⟨em, ?_⟩
  have b1 := short_beat hn
  have b2 := short_beat hk
  have a := (al_short hn hk).mpr h
  refine asc_ext b1.asc b2.asc fun t => ?_
  have key : 0 ≤ t → t < shortM n ms → (t ∈ shortS n ms ↔ t ∈ shortS k ls) := fun h0 h1 => by
    have := a t
    rw [Int.sub_zero, Int.emod_eq_of_lt h0 h1, Int.emod_eq_of_lt h0 (by omega)] at this
    exact this
  constructor
  · intro ht
    have := b1.inn t ht
    exact (key this.1 this.2).mp ht
  · intro ht
    have := b2.inn t ht
    exact (key this.1 (by omega)).mpr ht
theorem short_short (hb : Beat n ms) : shortM (shortM n ms) (shortS n ms) = shortM n ms ∧ shortS (shortM n ms) (shortS n ms) = shortS n ms := by
  obtain ⟨a, b⟩ := al_shorts hb (short_beat hb) (short_al hb)
  exact ⟨a.symm, b.symm⟩
theorem mem_rep (n0 : 0 < n) (h : ∀ s ∈ ms, 0 ≤ s ∧ s < n) : ∀ (k : Nat) (s : Int), s ∈ rep n ms k ↔ (0 ≤ s ∧ s < (k : Int) * n) ∧ s % n ∈ ms
  | 0, s => by
    constructor
    · exact fun z => nomatch z
    · rintro ⟨⟨a, b⟩, _⟩
      rw [show ((0 : Nat) : Int) * n = 0 by simp] at b
      omega
  | k + 1, s => by
    have e : ((k + 1 : Nat) : Int) * n = (k : Int) * n + n := by rw [Int.natCast_succ, Int.add_mul, Int.one_mul]
    have k0 : 0 ≤ (k : Int) * n := Int.mul_nonneg (by omega) (by omega)
    show s ∈ rep n ms k ++ ms.map (fun s => (k : Int) * n + s) ↔ _
    rw [List.mem_append, mem_rep n0 h k s, e]
    have md : ∀ u : Int, 0 ≤ u → u < n → ((k : Int) * n + u) % n = u := fun u u0 u1 => by
      rw [Int.add_comm, Int.add_mul_emod_self_right, Int.emod_eq_of_lt u0 u1]
    constructor
    · rintro (⟨⟨a, b⟩, c⟩ | hs)
      · exact ⟨⟨a, by omega⟩, c⟩
      · obtain ⟨u, hu, rfl⟩ := List.mem_map.mp hs
        obtain ⟨u0, u1⟩ := h u hu
        exact ⟨⟨by omega, by omega⟩, by rw [md u u0 u1]; exact hu⟩
    · rintro ⟨⟨a, b⟩, c⟩
      by_cases z : s < (k : Int) * n
      · exact .inl ⟨⟨a, z⟩, c⟩
      · refine .inr (List.mem_map.mpr ⟨s - (k : Int) * n, ?_, by omega⟩)
        have := md (s - (k : Int) * n) (by omega) (by omega)
        rw [show (k : Int) * n + (s - (k : Int) * n) = s by omega] at this
        rw [← this]
        exact c
theorem rep_al (hb : Beat n ms) {k : Nat} (hk : 1 ≤ k) : Al n ms ((k : Int) * n) (rep n ms k) 0 := fun t => by
  have n0 := hb.n0
  have kn : 0 < (k : Int) * n := Int.mul_pos (by omega) (by omega)
  rw [Int.sub_zero, mem_rep (by omega) hb.inn, Int.emod_emod_of_dvd t (Int.dvd_mul_left _ _)]
  exact ⟨fun h => ⟨⟨Int.emod_nonneg _ (by omega), Int.emod_lt_of_pos _ kn⟩, h⟩, fun h => h.2⟩
theorem short_dvd (hb : Beat n ms) : shortM n ms ∣ n := by
  have s := shortM_short hb
  have n0 := hb.n0
  have m2 := s.lo
  have r0 := Int.emod_nonneg n (show shortM n ms ≠ 0 by omega)
  have r1 := Int.emod_lt_of_pos n (show 0 < shortM n ms by omega)
  have d := Int.emod_add_mul_ediv n (shortM n ms)
  have fm := (fix_all (by omega)).mp s.fix
  have fr : Fix n ms (n % shortM n ms) := (fix_all (by omega)).mpr fun t => by
    have per := per_int (f := fun t => decide (t % n ∈ ms)) (n := shortM n ms) (fun t => decide_eq_decide.mpr (fm t).symm) (n / shortM n ms) (t + n % shortM n ms)
    have per : decide ((t + n % shortM n ms + shortM n ms * (n / shortM n ms)) % n ∈ ms) = decide ((t + n % shortM n ms) % n ∈ ms) := per
    rw [show t + n % shortM n ms + shortM n ms * (n / shortM n ms) = t + n by omega, Int.add_emod_right] at per
    exact decide_eq_decide.mp per
  by_cases z : n % shortM n ms = 0
  · exact Int.dvd_of_emod_eq_zero z
  · by_cases o : n % shortM n ms = 1
    · rw [o] at fr
      exact absurd fr (not_fix1 hb)
    · exact absurd fr (s.least _ (by omega) r1)
theorem low_scale {a b : Int} {q : Nat} (hq : 1 ≤ q) (hb : 0 < b) : lowD ((q : Int) * a) ((q : Int) * b) = lowD a b := by
  have eg : ((Nat.gcd ((q : Int) * a).natAbs ((q : Int) * b).natAbs : Nat) : Int) = (q : Int) * ((Nat.gcd a.natAbs b.natAbs : Nat) : Int) := by
    rw [Int.natAbs_mul, Int.natAbs_mul, Int.natAbs_natCast, Nat.gcd_mul_left, Int.natCast_mul]
  unfold lowD
  rw [eg, Int.mul_ediv_mul_of_pos _ _ (by omega), Int.mul_ediv_mul_of_pos _ _ (by omega)]
theorem rep_share (hb : Beat n ms) {k : Nat} (hk : 1 ≤ k) : lowD ((rep n ms k).length : Nat) ((k : Int) * n) = lowD (ms.length : Nat) n := by
  rw [rep_len, Int.natCast_mul]
  exact low_scale hk (by have := hb.n0; omega)
theorem short_share (hb : Beat n ms) : lowD ((shortS n ms).length : Nat) (shortM n ms) = lowD (ms.length : Nat) n := by
  obtain ⟨q, hq⟩ := short_dvd hb
  have n0 := hb.n0
  have m2 := (shortM_short hb).lo
  have q0 : 0 < q := by
    rcases Int.lt_trichotomy q 0 with z | z | z
    · have := Int.mul_neg_of_pos_of_neg (show 0 < shortM n ms by omega) z
      omega
    · rw [z, Int.mul_zero] at hq
      omega
    · exact z
  obtain ⟨k, rfl⟩ := Int.eq_ofNat_of_zero_le (Int.le_of_lt q0)
  have sb := short_beat hb
  have e : ms = rep (shortM n ms) (shortS n ms) k := by
    refine asc_ext hb.asc (rep_asc (by omega) sb.inn sb.asc k) fun t => ?_
    rw [mem_rep (by omega) sb.inn, short_sends hb, Int.mul_comm (k : Int), ← hq]
    constructor
    · intro ht
      have := hb.inn t ht
      exact ⟨this, by rw [Int.emod_eq_of_lt this.1 this.2]; exact ht⟩
    · rintro ⟨⟨a, b⟩, c⟩
      rw [Int.emod_eq_of_lt a b] at c
      exact c
  have := rep_share sb (k := k) (by omega)
  rw [← e, Int.mul_comm (k : Int), ← hq] at this
  exact this.symm
end
theorem eqv_pat (n k : Int) (ms ls : List Int) : PyData.eqv (patD n ms) (patD k ls) = decide (n = k ∧ ms = ls) := by
  show PyData.eqvAll [.int n, .tuple (ms.map .int)] [.int k, .tuple (ls.map .int)] = _
  unfold PyData.eqvAll PyData.eqvAll PyData.eqvAll
  rw [eqv_int, eqv_ints, Bool.and_true]
  by_cases a : n = k
  · by_cases b : ms = ls
    · rw [decide_eq_true a, decide_eq_true b, decide_eq_true ⟨a, b⟩]
      rfl
    · rw [decide_eq_false b, decide_eq_false (show ¬ (n = k ∧ ms = ls) from fun z => b z.2), Bool.and_false]
  · rw [decide_eq_false a, decide_eq_false (show ¬ (n = k ∧ ms = ls) from fun z => a z.1), Bool.false_and]
theorem shaped_pat {n : Int} {ms : List Int} (hb : Beat n ms) : SeqAt.shaped (patD n ms) = true := (beat_tidy (p := (n, ms)) hb).shaped (by decide)
theorem eqv_low (a b c d : Int) : PyData.eqv (lowD a b) (lowD a b) = true := by
  show PyData.eqvAll [.int _, .int _] [.int _, .int _] = true
  unfold PyData.eqvAll PyData.eqvAll PyData.eqvAll
  rw [eqv_int, eqv_int, decide_eq_true rfl, decide_eq_true rfl]
  rfl
/-! ### what the defs of patterns say -/
theorem match_of {n k : Int} {ms ls : List Int} {r : Dt} (h : ∃ (n' : Int) (ms' : List Int) (k' : Int) (ls' : List Int), [DW.E.dat (patD n ms), DW.E.dat (patD k ls)] = [DW.E.dat (patD n' ms'), DW.E.dat (patD k' ls')] ∧ MatchD n' ms' k' ls' r) : MatchD n ms k ls r := by
  obtain ⟨n', ms', k', ls', e, h⟩ := h
  obtain ⟨e1, e2⟩ := es2 e
  obtain ⟨rfl, rfl⟩ := patD_inj e1
  obtain ⟨rfl, rfl⟩ := patD_inj e2
  exact h
theorem turn_of {n b : Int} {ms : List Int} {r : Dt} (h : ∃ (n' : Int) (ms' : List Int) (b' : Int), [DW.E.dat (patD n ms), DW.E.dat (.int b)] = [DW.E.dat (patD n' ms'), DW.E.dat (.int b')] ∧ r = patD n' (turnS n' ms' b')) : r = patD n (turnS n ms b) := by
  obtain ⟨n', ms', b', e, h⟩ := h
  obtain ⟨e1, e2⟩ := es2 e
  obtain ⟨rfl, rfl⟩ := patD_inj e1
  have e3 := int_inj e2
  subst e3
  exact h
theorem again_of {n : Int} {k : Nat} {ms : List Int} {r : Dt} (h : ∃ (n' : Int) (ms' : List Int) (k' : Nat), [DW.E.dat (patD n ms), DW.E.dat (.int (k : Int))] = [DW.E.dat (patD n' ms'), DW.E.dat (.int (k' : Int))] ∧ r = patD ((k' : Int) * n') (rep n' ms' k')) : r = patD ((k : Int) * n) (rep n ms k) := by
  obtain ⟨n', ms', k', e, h⟩ := h
  obtain ⟨e1, e2⟩ := es2 e
  obtain ⟨rfl, rfl⟩ := patD_inj e1
  have e3 : k = k' := by
    have := int_inj e2
    omega
  subst e3
  exact h
theorem share_of {n : Int} {ms : List Int} {r : Dt} (h : ∃ (n' : Int) (ms' : List Int), [DW.E.dat (patD n ms)] = [DW.E.dat (patD n' ms')] ∧ r = lowD ms'.length n') : r = lowD ms.length n := by
  obtain ⟨n', ms', e, h⟩ := h
  obtain ⟨rfl, rfl⟩ := patD_inj (es1 e)
  exact h
theorem short_of {n : Int} {ms : List Int} {r : Dt} (h : ∃ (n' : Int) (ms' : List Int), [DW.E.dat (patD n ms)] = [DW.E.dat (patD n' ms')] ∧ r = shortD n' ms') : r = patD (shortM n ms) (shortS n ms) := by
  obtain ⟨n', ms', e, h⟩ := h
  obtain ⟨rfl, rfl⟩ := patD_inj (es1 e)
  exact h
theorem sends_of {n o t : Int} {ms : List Int} {r : Dt} (h : ∃ (n' : Int) (ms' : List Int) (o' t' : Int), [DW.E.dat (patD n ms), DW.E.dat (.int o), DW.E.dat (.int t)] = [DW.E.dat (patD n' ms'), DW.E.dat (.int o'), DW.E.dat (.int t')] ∧ r = .bool (decide ((t' - o') % n' ∈ ms'))) : r = .bool (sndB (n, ms) o t) := by
  obtain ⟨n', ms', o', t', e, h⟩ := h
  obtain ⟨e1, e2, e3⟩ := es3 e
  obtain ⟨rfl, rfl⟩ := patD_inj e1
  have e4 := int_inj e2
  have e5 := int_inj e3
  subst e4 e5
  exact h
end DW
namespace DW
open PySem PySem.Spec PyProof.Rows L2
variable [Tabl]
/-! ### where a number stands in a list; list(range(a, b)) -/
section
variable {K : PySem.W.Frag} {δ : Nm} {to te tf : TE} {ar : TA} {R : Dt → Prop}
theorem w_index (h : W K to δ fun d => ∃ ns : List Int, d = .list (ns.map .int) ∧ WA K ar δ fun es => ∃ (k : Int) (j : Nat), es = [.dat (.int k)] ∧ ns[j]? = some k ∧ (∀ m, m < j → ns[m]? ≠ some k) ∧ R (.int (j : Nat))) : W K (tBM K "list" (rIndex K) to ar) δ R := fun ω σ G H Q e k q => h ω σ G H _ e k fun v d G1 H1 g1 k1 r1 ⟨ns, e1, h2⟩ => by
  subst e1
  obtain ⟨a, xs, rfl, hs, ra⟩ := r1.list_inv
  obtain rfl := ra.ints
  refine ⟨.inl ⟨rfl, _, .inl (.inl (k1.1 _ _ hs))⟩, h2 ω σ G1 H1 _ (e.mono g1) k1 fun vs es G2 H2 g2 k2 r2 ⟨c, j, e2, hj, hno, rc⟩ => ?_⟩
  subst e2
  obtain ⟨u, rfl, ru⟩ := rel1 r2
  obtain rfl := ru.int_inv
  refine ⟨a, ns.map V.int, .int c, j, .int c, rfl, rfl, .inl (.inl (k2.1 _ _ (g2 _ _ hs))), rfl, flat_ints ns, by rw [List.getElem?_map, hj]; rfl, beq_self_eq_true c, fun m z hm hz => ?_, q _ _ G2 H2 (g1.trans g2) k2 (.int _) rc⟩
  rw [List.getElem?_map] at hz
  cases hx : ns[m]? with
  | none => rw [hx] at hz; cases hz
  | some x =>
    rw [hx] at hz
    cases hz
    show (x == c) = false
    exact beq_eq_false_iff_ne.mpr fun e => hno m hm (e ▸ hx)
theorem w_listRg2 (h : W K te δ fun d => W K tf δ fun f => ∃ i j : Int, d = .int i ∧ f = .int j ∧ RgOk i j ∧ R (.list ((upI i (j - i).toNat).map .int))) : W K (tLstRg (tRg2 te tf)) δ R := fun ω σ G H Q e k q => h ω σ G H _ e k fun v d G1 H1 g1 k1 r1 h2 => h2 ω σ G1 H1 _ (e.mono g1) k1 fun u f G2 H2 g2 k2 r2 ⟨i, j, e1, e2, ok, hr⟩ => by
  subst e1 e2
  obtain rfl := r1.int_inv
  obtain rfl := r2.int_inv
  refine ⟨i, j, rfl, rfl, ok, fun p hp => ?_⟩
  have e : rgV i j = (upI i (j - i).toNat).map V.int := by
    unfold rgV upI
    rw [List.map_map]
    rfl
  rw [e]
  exact q_lst k2 (RpAll.of_ints _) (fun v d G' H' g k' r rr => q v d G' H' ((g1.trans g2).trans g) k' r rr) hr p hp
end
/-! ### means -/
theorem low_parts {a b : Int} (hb : 0 < b) : ∃ x y g : Int, lowD a b = .tuple [.int x, .int y] ∧ 0 < g ∧ x * g = a ∧ y * g = b := by
  have p : 0 < Nat.gcd a.natAbs b.natAbs := Nat.gcd_pos_of_pos_right _ (by omega)
  refine ⟨_, _, ((Nat.gcd a.natAbs b.natAbs : Nat) : Int), rfl, by omega, Int.ediv_mul_cancel ?_, Int.ediv_mul_cancel ?_⟩
  · exact Int.natAbs_dvd_natAbs.mp (by rw [Int.natAbs_natCast]; exact Nat.gcd_dvd_left _ _)
  · exact Int.natAbs_dvd_natAbs.mp (by rw [Int.natAbs_natCast]; exact Nat.gcd_dvd_right _ _)
theorem mean_eq {n top P C a b g : Int} (g0 : 0 < g) (ha : a * g = n * top) (hb : b * g = P) (hc : C * n = P) : a * C = top * b := by
  refine Int.eq_of_mul_eq_mul_right (show g ≠ 0 by omega) ?_
  have e1 : a * C * g = a * g * C := by ac_rfl
  have e2 : top * b * g = top * (b * g) := by ac_rfl
  rw [e1, e2, ha, hb, ← hc]
  ac_rfl
theorem mean_lo {n top P C a b g lo : Int} (n0 : 0 ≤ n) (g0 : 0 < g) (ha : a * g = n * top) (hb : b * g = P) (hc : C * n = P) (h : lo * C ≤ top) : lo * b ≤ a := by
  refine Int.le_of_mul_le_mul_right (a := g) ?_ g0
  have e1 : lo * b * g = lo * (b * g) := by ac_rfl
  have e2 : lo * (C * n) = n * (lo * C) := by ac_rfl
  rw [e1, hb, ha, ← hc, e2]
  exact Int.mul_le_mul_of_nonneg_left h n0
theorem mean_hi {n top P C a b g hi : Int} (n0 : 0 ≤ n) (g0 : 0 < g) (ha : a * g = n * top) (hb : b * g = P) (hc : C * n = P) (h : top ≤ hi * C) : a ≤ hi * b := by
  refine Int.le_of_mul_le_mul_right (a := g) ?_ g0
  have e1 : hi * b * g = hi * (b * g) := by ac_rfl
  have e2 : hi * (C * n) = n * (hi * C) := by ac_rfl
  rw [e1, hb, ha, ← hc, e2]
  exact Int.mul_le_mul_of_nonneg_left h n0
theorem sum_castI {α : Type} (f : α → Nat) : ∀ L : List α, (L.map fun c => ((f c : Nat) : Int)).sum = (((L.map f).sum : Nat) : Int)
  | [] => rfl
  | c :: L => by
    rw [List.map_cons, List.map_cons, List.sum_cons, List.sum_cons, sum_castI f L]
    omega
theorem sum_between {α : Type} {f : α → Nat} {lo hi : Nat} : ∀ {L : List α}, (∀ c ∈ L, lo ≤ f c ∧ f c ≤ hi) → lo * L.length ≤ (L.map f).sum ∧ (L.map f).sum ≤ hi * L.length
  | [], _ => ⟨Nat.le_refl _, Nat.le_refl _⟩
  | c :: L, h => by
    obtain ⟨a, b⟩ := sum_between (L := L) fun d hd => h d (List.mem_cons_of_mem _ hd)
    have := h c List.mem_cons_self
    rw [List.map_cons, List.sum_cons, List.length_cons, Nat.mul_succ, Nat.mul_succ]
    omega
theorem sum_scale {α : Type} {u T : α → Int} {P c : Int} : ∀ {L : List α}, (∀ k ∈ L, u k * P = T k * c) → (L.map u).sum * P = (L.map T).sum * c
  | [], _ => by show (0 : Int) * P = 0 * c; rw [Int.zero_mul, Int.zero_mul]
  | k :: L, h => by
    rw [List.map_cons, List.map_cons, List.sum_cons, List.sum_cons, Int.add_mul, Int.add_mul, h k List.mem_cons_self, sum_scale fun d hd => h d (List.mem_cons_of_mem _ hd)]
theorem top_all (ps : List Pt) : ((upI (-2) (ps.length + 2)).map (topI ps)).sum = prodQ ps := by
  rw [upI_cons, List.map_cons, List.sum_cons]
  have e : (upI (-2 + 1) (ps.length + 1)).map (topI ps) = (upI (-1) (ps.length + 1)).map fun a => chF a 0 ps := by
    refine List.map_congr_left fun a ha => ?_
    have := mem_upI.mp ha
    unfold topI
    rw [if_neg (by omega)]
  rw [e]
  have e2 : topI ps (-2) = prodQ ps - ((upI (-1) (ps.length + 1)).map fun a => chF a 0 ps).sum := by
    unfold topI
    rw [if_pos rfl]
  rw [e2]
  omega
def prodK (f : Int → Int) : List Int → Int
  | [] => 1
  | k :: L => f k * prodK f L
theorem prodK_snoc (f : Int → Int) (k : Int) : ∀ L : List Int, prodK f (L ++ [k]) = prodK f L * f k
  | [] => by show f k * 1 = 1 * f k; rw [Int.mul_one, Int.one_mul]
  | x :: L => by
    show f x * prodK f (L ++ [k]) = f x * prodK f L * f k
    rw [prodK_snoc f k L, Int.mul_assoc]
theorem prodK_dvd {f : Int → Int} : ∀ {L : List Int} {k : Int}, k ∈ L → f k ∣ prodK f L
  | x :: L, k, h => by
    rcases List.mem_cons.mp h with rfl | h
    · exact Int.dvd_mul_right _ _
    · exact Int.dvd_trans (prodK_dvd h) (Int.dvd_mul_left _ _)
/-- the means add up to the span -/
theorem means_sum {L : List Int} {a b T : Int → Int} {n P B : Int} (P0 : 0 < P) (hB : B = prodK b L) (b0 : ∀ k ∈ L, b k ≠ 0) (h : ∀ k ∈ L, a k * P = n * T k * b k) (hT : (L.map T).sum = P) : (L.map fun k => a k * (B / b k)).sum = n * B := by
  refine Int.eq_of_mul_eq_mul_right (show P ≠ 0 by omega) ?_
  rw [sum_scale (T := T) (c := n * B) fun k hk => ?_, hT]
  · ac_rfl
  · have d : B / b k * b k = B := Int.ediv_mul_cancel (hB ▸ prodK_dvd hk)
    have e1 : a k * (B / b k) * P = a k * P * (B / b k) := by ac_rfl
    rw [e1, h k hk]
    have e2 : n * T k * b k * (B / b k) = T k * n * (B / b k * b k) := by ac_rfl
    rw [e2, d]
    ac_rfl
theorem first_at {L : List Int} {k : Int} (h : k ∈ L) : ∃ j : Nat, L[j]? = some k ∧ ∀ m, m < j → L[m]? ≠ some k := by
  induction L with
  | nil => exact absurd h List.not_mem_nil
  | cons x L ih =>
    by_cases e : x = k
    · exact ⟨0, by rw [e]; rfl, fun m hm => absurd hm (Nat.not_lt_zero m)⟩
    · rcases List.mem_cons.mp h with z | z
      · exact absurd z.symm e
      · obtain ⟨j, a, b⟩ := ih z
        refine ⟨j + 1, a, fun m hm => ?_⟩
        cases m with
        | zero => exact fun y => e (Option.some.inj y)
        | succ m => exact b m (by omega)
end DW
namespace DW
open PySem PySem.Spec PyProof.Rows L2
variable [Tabl]
/-! ### numbers over several spans -/
theorem count_spans {f : Int → Bool} {n : Nat} (hf : ∀ t, f (t + (n : Int)) = f t) : ∀ k : Nat, (upI 0 (k * n)).countP f = k * (upI 0 n).countP f
  | 0 => by rw [Nat.zero_mul, Nat.zero_mul]; rfl
  | k + 1 => by
    rw [Nat.succ_mul, upI_app, List.countP_append, count_spans hf k, Nat.succ_mul, count_shift hf (0 + ((k * n : Nat) : Int))]
theorem kind_nil {v : List Int} (h : ∀ x ∈ v, 0 ≤ x) : kindI v = -1 ↔ v = [] := by
  match v, h with
  | [], _ => exact ⟨fun _ => rfl, fun _ => rfl⟩
  | [x], h =>
    have := h x List.mem_cons_self
    exact ⟨fun e => by have e : x = -1 := e; omega, fun e => nomatch e⟩
  | x :: y :: r, _ => exact ⟨fun e => by have e : (-2 : Int) = -1 := e; omega, fun e => nomatch e⟩
theorem quiet_by {ps : List Pt} {os : List Int} (hl : os.length = ps.length) (t : Int) : heardI ps os t = -1 ↔ ∀ j, j < ps.length → sndJ ps os j t = false := by
  unfold heardI
  rw [kind_nil fun x hx => by have := voicesF_bounds hx; omega, voices_filter hl, List.filter_eq_nil_iff]
  constructor
  · intro h j hj
    have := h (j : Int) (mem_upI.mpr ⟨by omega, by omega⟩)
    rw [Int.toNat_natCast] at this
    cases e : sndJ ps os j t with
    | false => rfl
    | true => exact absurd e this
  · intro h w hw
    obtain ⟨a, b⟩ := mem_upI.mp hw
    rw [h w.toNat (by omega)]
    exact Bool.false_ne_true
theorem quiet_less {ps : List Pt} {os : List Int} {g : Nat} {p : Pt} {o t : Int} (hl : os.length = ps.length) (hp : ps[g]? = some p) (ho : os[g]? = some o) :
    decide (heardI ps os t = -1) = (decide (heardI (ps.eraseIdx g) (os.eraseIdx g) t = -1) && !sndB p o t) := by
  have gl := (List.getElem?_eq_some_iff.mp hp).1
  have l1 : (ps.eraseIdx g).length = ps.length - 1 := List.length_eraseIdx_of_lt gl
  have l2 : (os.eraseIdx g).length = os.length - 1 := List.length_eraseIdx_of_lt (by omega)
  have own : sndJ ps os g t = sndB p o t := by
    unfold sndJ
    rw [hp, ho]
  have a := quiet_by hl t
  have b := quiet_by (ps := ps.eraseIdx g) (os := os.eraseIdx g) (by omega) t
  have key : heardI ps os t = -1 ↔ heardI (ps.eraseIdx g) (os.eraseIdx g) t = -1 ∧ sndB p o t = false := by
    rw [a, b]
    constructor
    · intro h
      refine ⟨fun j hj => ?_, by rw [← own]; exact h g gl⟩
      rw [snd_less]
      split
      · exact h j (by omega)
      · exact h (j + 1) (by omega)
    · rintro ⟨h, h2⟩ j hj
      rcases Nat.lt_trichotomy j g with c | c | c
      · have := h j (by omega)
        rw [snd_less, if_pos c] at this
        exact this
      · rw [c, own]
        exact h2
      · have := h (j - 1) (by omega)
        rw [snd_less, if_neg (by omega), show j - 1 + 1 = j by omega] at this
        exact this
  by_cases z : sndB p o t = false
  · rw [z]
    simp [key, z]
  · have z2 : sndB p o t = true := by
      cases h : sndB p o t with
      | false => exact absurd h z
      | true => rfl
    rw [z2, decide_eq_false (fun e => z (key.mp e).2)]
    simp
/-! ### offsets put in -/
def insA : Nat → Int → List Int → List Int
  | 0, o, qs => o :: qs
  | _ + 1, o, [] => [o]
  | g + 1, o, q :: qs => q :: insA g o qs
theorem ins_is : ∀ (g : Nat) (o : Int) (qs : List Int), g ≤ qs.length → (insA g o qs).length = qs.length + 1 ∧ (insA g o qs).eraseIdx g = qs ∧ (insA g o qs)[g]? = some o
  | 0, o, qs, _ => ⟨rfl, rfl, rfl⟩
  | g + 1, o, [], h => by cases h
  | g + 1, o, q :: qs, h => by
    obtain ⟨a, b, c⟩ := ins_is g o qs (by simpa using h)
    refine ⟨by show (insA g o qs).length + 1 = _; rw [a]; rfl, ?_, c⟩
    show q :: (insA g o qs).eraseIdx g = q :: qs
    rw [b]
theorem ins_offs {ps : List Pt} {g : Nat} {p : Pt} {o : Int} {qs : List Int} (hp : ps[g]? = some p) (hq : Offs (ps.eraseIdx g) qs) (o0 : 0 ≤ o) (o1 : o < p.1) : Offs ps (insA g o qs) := by
  have gl := (List.getElem?_eq_some_iff.mp hp).1
  have l1 : (ps.eraseIdx g).length = ps.length - 1 := List.length_eraseIdx_of_lt gl
  have lq := hq.len
  obtain ⟨a, b, c⟩ := ins_is g o qs (by omega)
  refine offs_of (by omega) fun i q x hi hx => ?_
  by_cases e : i = g
  · subst e
    rw [hp] at hi
    rw [c] at hx
    cases hi
    cases hx
    exact ⟨o0, o1⟩
  · -- the place in the others
    have get : ∀ {α : Type} (xs : List α), xs[i]? = (xs.eraseIdx g)[if i < g then i else i - 1]? := fun xs => by
      rw [List.getElem?_eraseIdx]
      by_cases c : i < g
      · rw [if_pos c, if_pos c]
      · rw [if_neg c, if_neg (by omega), show i - 1 + 1 = i by omega]
    rw [get ps] at hi
    rw [get (insA g o qs), b] at hx
    obtain ⟨x', h1, h2⟩ := hq.at hi
    rw [hx] at h1
    cases h1
    exact h2
/-! ### an even group stays even without one -/
theorem sum_ifs {α : Type} (Q : α → Bool) (c : Nat) : ∀ L : List α, (L.map fun t => if Q t = true then c else 0).sum = c * L.countP Q
  | [] => rfl
  | t :: L => by
    rw [List.map_cons, List.sum_cons, sum_ifs Q c L, List.countP_cons]
    cases Q t with
    | true => rw [if_pos rfl, if_pos rfl, Nat.mul_add, Nat.mul_one, Nat.add_comm]
    | false => rw [if_neg Bool.false_ne_true, if_neg Bool.false_ne_true, Nat.zero_add, Nat.add_zero]
theorem span_less {ps : List Pt} {g : Nat} (hp : ∀ p ∈ ps, 0 < p.1) : ∃ k : Nat, 0 < k ∧ spanN ps = k * spanN (ps.eraseIdx g) := by
  have hp' : ∀ p ∈ ps.eraseIdx g, 0 < p.1 := fun p h => hp p (List.mem_of_mem_eraseIdx h)
  have hW := span_whole ps hp
  have hV := span_whole (ps.eraseIdx g) hp'
  obtain ⟨k, hk⟩ := whole_dvd hV fun p h => hW.dvd p (List.mem_of_mem_eraseIdx h)
  have v1 := hV.pos
  have w1 := hW.pos
  have k0 : 0 < k := by
    rcases Int.lt_trichotomy k 0 with z | z | z
    · have := Int.mul_neg_of_pos_of_neg (show (0 : Int) < ((spanN (ps.eraseIdx g) : Nat) : Int) by omega) z
      omega
    · rw [z, Int.mul_zero] at hk
      omega
    · exact z
  obtain ⟨m, rfl⟩ := Int.eq_ofNat_of_zero_le (Int.le_of_lt k0)
  refine ⟨m, by omega, ?_⟩
  rw [← Int.natCast_mul] at hk
  have : spanN ps = spanN (ps.eraseIdx g) * m := Int.ofNat_inj.mp hk
  rw [this, Nat.mul_comm]
theorem even_less {ps : List Pt} {g : Nat} (hc : Crowd ps) (hg : g < ps.length) (he : EvenQ ps) : EvenQ (ps.eraseIdx g) := by
  have pos := crowd_pos hc
  have hp : ps[g]? = some ps[g] := List.getElem?_eq_getElem hg
  generalize ps[g] = p at hp
  have bp := hc.all p (List.mem_of_getElem? hp)
  have n0 := bp.n0
  have few := bp.few
  have pos' : ∀ p ∈ ps.eraseIdx g, 0 < p.1 := fun p h => pos p (List.mem_of_mem_eraseIdx h)
  have hV := span_whole (ps.eraseIdx g) pos'
  obtain ⟨k, k0, ek⟩ := span_less (g := g) pos
  have l1 : (ps.eraseIdx g).length = ps.length - 1 := List.length_eraseIdx_of_lt hg
  have key : ∀ qs, Offs (ps.eraseIdx g) qs → ((upI 0 p.1.toNat).map fun o => kindN ps (-1) (insA g o qs)).sum = (p.1.toNat - p.2.length) * (k * kindN (ps.eraseIdx g) (-1) qs) := fun qs hq => by
    have lq := hq.len
    have e1 : ((upI 0 p.1.toNat).map fun o => kindN ps (-1) (insA g o qs)) = (upI 0 p.1.toNat).map fun o => (upI 0 (spanN ps)).countP fun t => decide (heardI (ps.eraseIdx g) qs t = -1) && !sndB p o t := by
      refine List.map_congr_left fun o _ => ?_
      obtain ⟨a, b, c⟩ := ins_is g o qs (by omega)
      rw [kindN_eq]
      refine List.countP_congr fun t _ => ?_
      rw [quiet_less (t := t) (by omega) hp c, b]
    rw [e1, sum_swapN (fun o t => decide (heardI (ps.eraseIdx g) qs t = -1) && !sndB p o t)]
    have e2 : ((upI 0 (spanN ps)).map fun t => (upI 0 p.1.toNat).countP fun o => decide (heardI (ps.eraseIdx g) qs t = -1) && !sndB p o t) = (upI 0 (spanN ps)).map fun t => if decide (heardI (ps.eraseIdx g) qs t = -1) = true then p.1.toNat - p.2.length else 0 := by
      refine List.map_congr_left fun t _ => ?_
      cases decide (heardI (ps.eraseIdx g) qs t = -1) with
      | false =>
        rw [if_neg Bool.false_ne_true]
        exact List.countP_eq_zero.mpr fun o _ => by simp
      | true =>
        rw [if_pos rfl]
        have c := count_begins bp t
        have s := List.length_eq_countP_add_countP (fun o => sndB p o t) (l := upI 0 p.1.toNat)
        rw [upI_len, c] at s
        have e : (upI 0 p.1.toNat).countP (fun o => true && !sndB p o t) = (upI 0 p.1.toNat).countP fun o => decide ¬ sndB p o t = true := by
          refine List.countP_congr fun o _ => ?_
          cases sndB p o t <;> simp
        rw [e]
        omega
    rw [e2, sum_ifs (fun t => decide (heardI (ps.eraseIdx g) qs t = -1)), ek, count_spans (fun t => by rw [heard_per hV.dvd]), ← kindN_eq]
  intro os qs ho hq
  have same : ((upI 0 p.1.toNat).map fun o => kindN ps (-1) (insA g o os)).sum = ((upI 0 p.1.toNat).map fun o => kindN ps (-1) (insA g o qs)).sum := by
    congr 1
    refine List.map_congr_left fun o hm => ?_
    obtain ⟨a, b⟩ := mem_upI.mp hm
    exact he _ _ (ins_offs hp ho (by omega) (by omega)) (ins_offs hp hq (by omega) (by omega))
  rw [key os ho, key qs hq] at same
  have c0 : 0 < p.1.toNat - p.2.length := by omega
  exact Nat.eq_of_mul_eq_mul_left k0 (Nat.eq_of_mul_eq_mul_left c0 same)
/-! ### numbers without one sender -/
theorem less_count {ps : List Pt} {os : List Int} {g w k : Nat} (hp : ∀ p ∈ ps, 0 < p.1) (hl : os.length = ps.length) (hw : w < ps.length) (hg : g < ps.length) (ne : g ≠ w) (ek : spanN ps = k * spanN (ps.eraseIdx g)) :
    kindN ps (w : Int) os ≤ k * kindN (ps.eraseIdx g) ((if g < w then w - 1 else w : Nat) : Int) (os.eraseIdx g) := by
  have hp' : ∀ p ∈ ps.eraseIdx g, 0 < p.1 := fun p h => hp p (List.mem_of_mem_eraseIdx h)
  have hV := span_whole (ps.eraseIdx g) hp'
  rw [kindN_eq, kindN_eq, ← count_spans (fun t => by rw [heard_per hV.dvd]), ← ek]
  refine List.countP_mono_left fun t _ h => ?_
  exact decide_eq_true (heard_less hl hw hg ne (of_decide_eq_true h))
/-! ### the sure bound without one sender -/
theorem sure_less {ps : List Pt} {g w : Nat} {p q : Pt} {k : Int} {S S' : Int} (hp : ps[w]? = some p) (hq : ps[g]? = some q) (ne : g ≠ w) (eS : S = k * S') (dp : p.1 ∣ S') (p0 : 0 < p.1) (dl : ∀ r ∈ ps.eraseIdx g, lcmP p r ∣ S' ∧ 0 < lcmP p r) :
    ∀ i : Nat, i ≤ ps.length - 1 → k * sureF (ps.eraseIdx g) p (if g < w then w - 1 else w) S' i = if i < g then sureF ps p w S i else sureF ps p w S (i + 1) + mostP p q * (S / lcmP p q) := by
  have sc : ∀ d : Int, d ∣ S' → 0 < d → k * (S' / d) = S / d := fun d h d0 => by
    rw [eS, Int.mul_ediv_assoc k h]
  have stepg : ∀ i, i = g → sureF ps p w S (i + 1) + mostP p q * (S / lcmP p q) = sureF ps p w S i := fun i hi => by
    have e : sureF ps p w S (i + 1) = sureF ps p w S i - mostP p q * (S / lcmP p q) := by
      conv => lhs; unfold sureF
      rw [hi, hq]
      show (if g = w then _ else _) = _
      rw [if_neg ne]
    rw [e]
    omega
  have gl := (List.getElem?_eq_some_iff.mp hq).1
  intro i
  induction i with
  | zero =>
    intro _
    have e : k * sureF (ps.eraseIdx g) p (if g < w then w - 1 else w) S' 0 = sureF ps p w S 0 := by
      show k * ((p.2.length : Int) * (S' / p.1)) = (p.2.length : Int) * (S / p.1)
      rw [← sc p.1 dp p0]
      ac_rfl
    rw [e]
    by_cases c : 0 < g
    · rw [if_pos c]
    · rw [if_neg c, stepg 0 (by omega)]
  | succ i ih =>
    intro hi
    have ih := ih (by omega)
    have l1 : (ps.eraseIdx g).length = ps.length - 1 := List.length_eraseIdx_of_lt gl
    have hr : (ps.eraseIdx g)[i]? = some ((ps.eraseIdx g)[i]'(by omega)) := List.getElem?_eq_getElem (by omega)
    generalize (ps.eraseIdx g)[i]'(by omega) = r at hr
    obtain ⟨dr, r0⟩ := dl r (List.mem_of_getElem? hr)
    have left : k * sureF (ps.eraseIdx g) p (if g < w then w - 1 else w) S' (i + 1) = if i = (if g < w then w - 1 else w) then k * sureF (ps.eraseIdx g) p (if g < w then w - 1 else w) S' i else k * sureF (ps.eraseIdx g) p (if g < w then w - 1 else w) S' i - mostP p r * (S / lcmP p r) := by
      conv => lhs; rhs; unfold sureF
      rw [hr]
      show k * (if i = (if g < w then w - 1 else w) then _ else _) = _
      by_cases c : i = (if g < w then w - 1 else w)
      · rw [if_pos c, if_pos c]
      · rw [if_neg c, if_neg c, Int.mul_sub, ← sc _ dr r0]
        congr 1
        ac_rfl
    rw [left, ih]
    have gi : (ps.eraseIdx g)[i]? = if i < g then ps[i]? else ps[i + 1]? := List.getElem?_eraseIdx
    rw [hr] at gi
    by_cases c : i < g
    · rw [if_pos c] at gi ⊢
      have right : sureF ps p w S (i + 1) = if i = w then sureF ps p w S i else sureF ps p w S i - mostP p r * (S / lcmP p r) := by
        conv => lhs; unfold sureF
        rw [← gi]
      have cw : (i = (if g < w then w - 1 else w)) ↔ i = w := by
        split <;> omega
      have fin : (if i = (if g < w then w - 1 else w) then sureF ps p w S i else sureF ps p w S i - mostP p r * (S / lcmP p r)) = sureF ps p w S (i + 1) := by
        rw [right]
        by_cases z : i = w
        · rw [if_pos (cw.mpr z), if_pos z]
        · rw [if_neg (fun y => z (cw.mp y)), if_neg z]
      rw [fin]
      by_cases c2 : i + 1 < g
      · rw [if_pos c2]
      · rw [if_neg c2, stepg (i + 1) (by omega)]
    · rw [if_neg c] at gi ⊢
      rw [if_neg (show ¬ i + 1 < g by omega)]
      have right : sureF ps p w S (i + 1 + 1) = if i + 1 = w then sureF ps p w S (i + 1) else sureF ps p w S (i + 1) - mostP p r * (S / lcmP p r) := by
        conv => lhs; unfold sureF
        rw [← gi]
      have cw : (i = (if g < w then w - 1 else w)) ↔ i + 1 = w := by
        split <;> omega
      rw [right]
      by_cases z : i + 1 = w
      · rw [if_pos (cw.mpr z), if_pos z]
      · rw [if_neg (fun y => z (cw.mp y)), if_neg z]
        omega
/-! ### drawn lots -/
def lots3 : List (List Int) := [[2, 3, 4, 6], [2, 4, 8], [3, 5, 6], [6, 9, 12], [4, 6, 10], [5, 7], [2, 3, 5, 7]]
def lots4 : List (List Int) := [[2, 4], [3, 6], [2, 3, 4], [2, 3, 5], [4, 5]]
def lotsM (m : Int) : List (List Int) := if m < 4 then lots3 else lots4
theorem lots_fit : ∀ m : Int, ∀ L ∈ lotsM m, (1 ≤ L.length ∧ L.length ≤ 100) ∧ ∀ n ∈ L, 2 ≤ n ∧ n ≤ 60 := fun m L h => by
  have h3 : ∀ L ∈ lots3, (1 ≤ L.length ∧ L.length ≤ 100) ∧ ∀ n ∈ L, 2 ≤ n ∧ n ≤ 60 := by decide
  have h4 : ∀ L ∈ lots4, (1 ≤ L.length ∧ L.length ≤ 100) ∧ ∀ n ∈ L, 2 ≤ n ∧ n ≤ 60 := by decide
  unfold lotsM at h
  split at h
  · exact h3 L h
  · exact h4 L h
structure LotQ (m : Int) (ps : List Pt) : Prop where
  crowd : Crowd ps
  len : (ps.length : Int) ≤ m
  from' : ∃ L ∈ lotsM m, ∀ p ∈ ps, p.1 ∈ L
abbrev Fit2 (L : List Int) : Prop := ∀ a ∈ L, ∀ b ∈ L, spanN [(a, []), (b, [])] ≤ 420 ∧ prodI (sizesL [(a, []), (b, [])]) ≤ 240
abbrev Fit3 (L : List Int) : Prop := ∀ a ∈ L, ∀ b ∈ L, ∀ c ∈ L, spanN [(a, []), (b, []), (c, [])] ≤ 420 ∧ prodI (sizesL [(a, []), (b, []), (c, [])]) ≤ 240
abbrev Fit4 (L : List Int) : Prop := ∀ a ∈ L, ∀ b ∈ L, ∀ c ∈ L, ∀ d ∈ L, spanN [(a, []), (b, []), (c, []), (d, [])] ≤ 420 ∧ prodI (sizesL [(a, []), (b, []), (c, []), (d, [])]) ≤ 240
theorem fit3 : ∀ L ∈ lots3, Fit2 L ∧ Fit3 L := by decide +kernel
theorem fit4 : ∀ L ∈ lots4, Fit2 L ∧ Fit3 L ∧ Fit4 L := by decide +kernel
theorem LotQ.small {m : Int} {ps : List Pt} (h : LotQ m ps) : spanN ps ≤ 420 ∧ prodI (sizesL ps) ≤ 240 := by
  have l0 := h.crowd.l0
  have l1 := h.crowd.l1
  have hm := h.len
  obtain ⟨L, hL, hp⟩ := h.from'
  clear h
  unfold lotsM at hL
  by_cases c : m < 4
  · rw [if_pos c] at hL
    obtain ⟨f2, f3⟩ := fit3 L hL
    match ps, l0, l1 with
    | [p, q], _, _ => exact f2 p.1 (hp p (by simp)) q.1 (hp q (by simp))
    | [p, q, r], _, _ => exact f3 p.1 (hp p (by simp)) q.1 (hp q (by simp)) r.1 (hp r (by simp))
    | [p, q, r, s], _, _ => exact absurd hm (by show ¬ (4 : Int) ≤ m; omega)
  · rw [if_neg c] at hL
    obtain ⟨f2, f3, f4⟩ := fit4 L hL
    match ps, l0, l1 with
    | [p, q], _, _ => exact f2 p.1 (hp p (by simp)) q.1 (hp q (by simp))
    | [p, q, r], _, _ => exact f3 p.1 (hp p (by simp)) q.1 (hp q (by simp)) r.1 (hp r (by simp))
    | [p, q, r, s], _, _ => exact f4 p.1 (hp p (by simp)) q.1 (hp q (by simp)) r.1 (hp r (by simp)) s.1 (hp s (by simp))
end DW
namespace DW
open PySem PySem.Spec PyProof.Rows L2
variable [Tabl]
/-! ### even groups: in another order, turned, without one -/
abbrev SmallQ (ps : List Pt) : Prop := Crowd ps ∧ spanN ps ≤ 420 ∧ prodI (sizesL ps) ≤ 240
theorem even_any {ps : List Pt} (hc : Crowd ps) (he : EvenQ ps) {os qs : List Int} (ho : os.length = ps.length) (hq : qs.length = ps.length) : kindN ps (-1) os = kindN ps (-1) qs := by
  obtain ⟨a, ha, ea⟩ := class_counts (crowd_pos hc) ho
  obtain ⟨b, hb, eb⟩ := class_counts (crowd_pos hc) hq
  rw [← ea, ← eb]
  exact he a b (class_offs hc ha) (class_offs hc hb)
theorem even_by {ps qs : List Pt} (hc : Crowd ps) (hs : spanN qs = spanN ps) (he : EvenQ ps) (h : ∀ os : List Int, os.length = qs.length → ∃ rs : List Int, rs.length = ps.length ∧ ∀ t, quietZ (os.zip qs) t = quietZ (rs.zip ps) t) : EvenQ qs := fun os os' ho ho' => by
  obtain ⟨rs, l, e⟩ := h os ho.len
  obtain ⟨rs', l', e'⟩ := h os' ho'.len
  have k := even_any hc he l l'
  rw [quiet_count l, quiet_count l'] at k
  rw [quiet_count ho.len, quiet_count ho'.len, hs, show quietZ (os.zip qs) = quietZ (rs.zip ps) from funext e, show quietZ (os'.zip qs) = quietZ (rs'.zip ps) from funext e', k]
theorem prod_perm {xs ys : List Pt} (h : xs.Perm ys) : prodQ xs = prodQ ys := by
  induction h with
  | nil => rfl
  | cons x _ ih =>
    show x.1 * prodQ _ = x.1 * prodQ _
    rw [ih]
  | swap x y l =>
    show y.1 * (x.1 * prodQ l) = x.1 * (y.1 * prodQ l)
    rw [← Int.mul_assoc, ← Int.mul_assoc, Int.mul_comm y.1]
  | trans _ _ i1 i2 => exact i1.trans i2
theorem span_perm {ps qs : List Pt} (hp : ∀ p ∈ ps, 0 < p.1) (h : qs.Perm ps) : spanN qs = spanN ps := by
  have W := span_whole ps hp
  have V := span_whole qs fun p hm => hp p (h.mem_iff.mp hm)
  have := V.unique (V := ((spanN ps : Nat) : Int)) ⟨W.pos, fun p hm => W.dvd p (h.mem_iff.mp hm), fun x x1 hx => W.least x x1 fun p hm => hx p (h.mem_iff.mpr hm)⟩
  omega
theorem small_by {ps qs : List Pt} (hq : Crowd qs) (hs : SmallQ ps) (e : spanN qs = spanN ps) (ep : prodQ qs = prodQ ps) : SmallQ qs := by
  obtain ⟨hc, h1, h2⟩ := hs
  have a := class_number (crowd_pos hc)
  have b := class_number (crowd_pos hq)
  obtain ⟨c1, c2, c3⟩ := span_le_prod (crowd_pos hc)
  have pos := (span_whole ps (crowd_pos hc)).pos
  rw [e, ep, ← a] at b
  have := Int.eq_of_mul_eq_mul_right (show ((spanN ps : Nat) : Int) ≠ 0 by omega) b
  exact ⟨hq, by omega, by omega⟩
theorem small_perm {ps qs : List Pt} (hs : SmallQ ps) (h : qs.Perm ps) : SmallQ qs := small_by ⟨by rw [h.length_eq]; exact hs.1.l0, by rw [h.length_eq]; exact hs.1.l1, fun p hm => hs.1.all p (h.mem_iff.mp hm)⟩ hs (span_perm (crowd_pos hs.1) h) (prod_perm h)
theorem even_perm {ps qs : List Pt} (hc : Crowd ps) (h : qs.Perm ps) (he : EvenQ ps) : EvenQ qs := even_by hc (span_perm (crowd_pos hc) h) he fun os hl => by
  obtain ⟨rs, l, p⟩ := zip_perm h os hl
  exact ⟨rs, l, fun t => quiet_perm p t⟩
/-- every pattern turned by some ticks -/
inductive Turns : List Pt → List Pt → Prop
  | nil : Turns [] []
  | cons {p : Pt} {ps qs : List Pt} (b : Int) (r : Turns qs ps) : Turns ((p.1, turnS p.1 p.2 b) :: qs) (p :: ps)
theorem Turns.snoc {ps qs : List Pt} (h : Turns qs ps) (p : Pt) (b : Int) : Turns (qs ++ [(p.1, turnS p.1 p.2 b)]) (ps ++ [p]) := by
  induction h with
  | nil => exact .cons b .nil
  | cons c r ih => exact .cons c ih
theorem Turns.all (b : Int) : ∀ ps : List Pt, Turns (ps.map fun p => (p.1, turnS p.1 p.2 b)) ps
  | [] => .nil
  | p :: ps => .cons b (Turns.all b ps)
theorem Turns.len {ps qs : List Pt} (h : Turns qs ps) : qs.length = ps.length := by
  induction h with
  | nil => rfl
  | cons c r ih => exact congrArg Nat.succ ih
theorem Turns.beats {ps qs : List Pt} (h : Turns qs ps) (hb : ∀ p ∈ ps, Beat p.1 p.2) : ∀ q ∈ qs, Beat q.1 q.2 := by
  induction h with
  | nil => exact fun q hq => nomatch hq
  | cons c r ih =>
    rename_i p ps qs
    intro q hq
    rcases List.mem_cons.mp hq with z | z
    · rw [z]
      exact turn_beat (hb p List.mem_cons_self) c
    · exact ih (fun p hp => hb p (List.mem_cons_of_mem _ hp)) q z
theorem Turns.spanF {ps qs : List Pt} (h : Turns qs ps) : ∀ s, DW.spanF s qs = DW.spanF s ps := by
  induction h with
  | nil => exact fun s => rfl
  | cons c r ih => exact fun s => ih _
theorem Turns.prod {ps qs : List Pt} (h : Turns qs ps) : prodQ qs = prodQ ps := by
  induction h with
  | nil => rfl
  | cons c r ih =>
    rename_i p ps qs
    show p.1 * prodQ qs = p.1 * prodQ ps
    rw [ih]
theorem Turns.crowd {ps qs : List Pt} (h : Turns qs ps) (hc : Crowd ps) : Crowd qs := ⟨by rw [h.len]; exact hc.l0, by rw [h.len]; exact hc.l1, h.beats hc.all⟩
theorem Turns.small {ps qs : List Pt} (h : Turns qs ps) (hs : SmallQ ps) : SmallQ qs := small_by (h.crowd hs.1) hs (h.spanF 1) h.prod
theorem quiet_cons (o : Int) (os : List Int) (p : Pt) (ps : List Pt) (t : Int) : quietZ ((o :: os).zip (p :: ps)) t = (!sndB p o t && quietZ (os.zip ps) t) := rfl
theorem Turns.quiet {ps qs : List Pt} (h : Turns qs ps) (hp : ∀ p ∈ ps, 0 < p.1) : ∀ os : List Int, os.length = qs.length → ∃ rs : List Int, rs.length = ps.length ∧ ∀ t, quietZ (os.zip qs) t = quietZ (rs.zip ps) t := by
  induction h with
  | nil => exact fun os hl => ⟨os, hl, fun t => rfl⟩
  | cons b r ih =>
    rename_i p ps qs
    intro os hl
    cases os with
    | nil => cases hl
    | cons o os =>
      obtain ⟨rs, l, e⟩ := ih (fun p hm => hp p (List.mem_cons_of_mem _ hm)) os (Nat.succ.inj hl)
      refine ⟨(o + b) :: rs, congrArg Nat.succ l, fun t => ?_⟩
      rw [quiet_cons, quiet_cons, snd_turn (hp p List.mem_cons_self), e]
theorem Turns.back {ps qs : List Pt} (h : Turns qs ps) (hp : ∀ p ∈ ps, 0 < p.1) : ∀ rs : List Int, rs.length = ps.length → ∃ os : List Int, os.length = qs.length ∧ ∀ t, quietZ (rs.zip ps) t = quietZ (os.zip qs) t := by
  induction h with
  | nil => exact fun os hl => ⟨os, hl, fun t => rfl⟩
  | cons b r ih =>
    rename_i p ps qs
    intro rs hl
    cases rs with
    | nil => cases hl
    | cons o rs =>
      obtain ⟨os, l, e⟩ := ih (fun p hm => hp p (List.mem_cons_of_mem _ hm)) rs (Nat.succ.inj hl)
      refine ⟨(o - b) :: os, congrArg Nat.succ l, fun t => ?_⟩
      rw [quiet_cons, quiet_cons, snd_turn (hp p List.mem_cons_self), e, Int.sub_add_cancel]
theorem Turns.even {ps qs : List Pt} (h : Turns qs ps) (hc : Crowd ps) : EvenQ qs ↔ EvenQ ps :=
  ⟨fun he => even_by (h.crowd hc) (h.spanF 1).symm he (h.back (crowd_pos hc)), fun he => even_by hc (h.spanF 1) he (h.quiet (crowd_pos hc))⟩
theorem prod_erase {ps : List Pt} {g : Nat} (hg : g < ps.length) : prodQ ps = ps[g].1 * prodQ (ps.eraseIdx g) := by
  have := prod_perm (erase_perm (List.getElem?_eq_getElem hg))
  rw [← this]
  rfl
theorem small_less {ps : List Pt} {g : Nat} (hs : SmallQ ps) (hg : g < ps.length) (h3 : 2 < ps.length) : SmallQ (ps.eraseIdx g) := by
  obtain ⟨hc, h1, h2⟩ := hs
  have pos := crowd_pos hc
  have l1 : (ps.eraseIdx g).length = ps.length - 1 := List.length_eraseIdx_of_lt hg
  have hc' : Crowd (ps.eraseIdx g) := ⟨by omega, by have := hc.l1; omega, fun p hm => hc.all p (List.mem_of_mem_eraseIdx hm)⟩
  have pos' := crowd_pos hc'
  have W := span_whole ps pos
  have V := span_whole (ps.eraseIdx g) pos'
  have p0 := pos _ (List.getElem_mem hg)
  have le : ((spanN ps : Nat) : Int) ≤ ps[g].1 * ((spanN (ps.eraseIdx g) : Nat) : Int) := by
    have v1 := V.pos
    refine W.least _ (Int.mul_pos p0 v1) fun p hm => ?_
    rcases List.mem_cons.mp ((erase_perm (List.getElem?_eq_getElem hg)).mem_iff.mpr hm) with z | z
    · rw [z]
      exact Int.dvd_mul_right _ _
    · exact Int.dvd_trans (V.dvd p z) (Int.dvd_mul_left _ _)
  obtain ⟨k, k0, ek⟩ := span_less (g := g) pos
  have a := class_number pos
  have b := class_number pos'
  have q := prod_erase hg
  obtain ⟨c1, c2, c3⟩ := span_le_prod pos
  obtain ⟨d1, d2, d3⟩ := span_le_prod pos'
  have v1 := V.pos
  have le2 : spanN (ps.eraseIdx g) ≤ spanN ps := by
    rw [ek]
    exact Nat.le_mul_of_pos_left _ k0
  refine ⟨hc', by omega, ?_⟩
  generalize ps[g].1 = p at *
  generalize hX : prodI (sizesL (ps.eraseIdx g)) = X at *
  generalize hY : prodI (sizesL ps) = Y at *
  generalize ((spanN (ps.eraseIdx g) : Nat) : Int) = v at *
  generalize ((spanN ps : Nat) : Int) = w at *
  rw [q, ← b] at a
  -- Y * w = p * (X * v) and w <= p * v
  have m1 : X * (p * v) = Y * w := by rw [a]; ac_rfl
  have m2 : Y * w ≤ Y * (p * v) := Int.mul_le_mul_of_nonneg_left le (by omega)
  have pv : 0 < p * v := Int.mul_pos p0 v1
  have := Int.le_of_mul_le_mul_right (show X * (p * v) ≤ Y * (p * v) by omega) pv
  omega
theorem even_one {ps : List Pt} (hc : Crowd ps) (h : prodI (sizesL ps) = 1) : EvenQ ps := by
  have cl : ((classL ps).length : Int) = prodI (sizesL ps) := below_len fun m hm => (sizes_pos 1 (crowd_60 hc) m hm).1
  rcases e : classL ps with _ | ⟨c, _ | ⟨d, L⟩⟩
  · exact absurd e (class_ne ps hc)
  · refine even_classes hc (kindN ps (-1) c) fun os hos => ?_
    rw [e] at hos
    rw [List.mem_singleton.mp hos]
  · rw [e, h] at cl
    simp at cl
    omega
theorem counts_sum (ps : List Pt) (os : List Int) : (countsL ps os).sum = ((spanN ps : Nat) : Int) := by
  have k := kinds_sum ps os
  unfold countsL
  have c : ∀ L : List Int, (L.map fun w => ((kindN ps w os : Nat) : Int)).sum = (((L.map fun w => kindN ps w os).sum : Nat) : Int) := fun L => by
    induction L with
    | nil => rfl
    | cons x L ih => rw [List.map_cons, List.sum_cons, List.map_cons, List.sum_cons, ih, Int.natCast_add]
  rw [List.sum_append, List.sum_cons, c, List.sum_cons, List.sum_nil]
  omega
/-- who is told uneven -/
theorem uneven_some {ps : List Pt} {os : List Int} (h : (classL ps).find? (fun os => decide (kindN ps (-1) os ≠ kindN ps (-1) ((classL ps).headD []))) = some os) :
    os ∈ classL ps ∧ (classL ps).headD [] ∈ classL ps ∧ kindN ps (-1) os ≠ kindN ps (-1) ((classL ps).headD []) ∧ ∀ qs ∈ classL ps, qs < os → kindN ps (-1) qs = kindN ps (-1) ((classL ps).headD []) := by
  have asc : (classL ps).Pairwise (· < ·) := below_asc _
  generalize hz : (classL ps).headD [] = z at *
  have hm := List.mem_of_find?_eq_some h
  have hd : z ∈ classL ps := by
    cases hL : classL ps with
    | nil => rw [hL] at hm; cases hm
    | cons y L =>
      rw [hL] at hz
      rw [← hz]
      exact List.mem_cons_self
  obtain ⟨h1, as, bs, h2, h3⟩ := List.find?_eq_some_iff_append.mp h
  refine ⟨hm, hd, by simpa using h1, fun qs hq lt => ?_⟩
  rw [h2] at hq asc
  rcases List.mem_append.mp hq with y | y
  · simpa using h3 qs y
  · rcases List.mem_cons.mp y with y | y
    · rw [y] at lt
      exact absurd lt (List.lt_irrefl _)
    · have := (List.pairwise_cons.mp (List.pairwise_append.mp asc).2.1).1 qs y
      exact absurd (List.lt_trans lt this) (List.lt_irrefl _)
end DW
namespace DW
open PySem PySem.Spec PyProof.Rows L2
variable [Tabl]
/-! ### t[::-1] of a tuple -/
section
variable {prog : Program} {w : World} {A : Around} {E : Value → Shared → Prop} {s : Shared}
theorem back_parts (n : Nat) : Builtin.Slice.sliceAdjust none none (-1) (n : Int) = ((n : Int) - 1, -1) ∧ Builtin.Slice.slicePlaces ((n : Int) - 1) (-1) (-1) = n := by
  refine ⟨rfl, ?_⟩
  unfold Builtin.Slice.slicePlaces
  rw [if_neg (by decide)]
  by_cases h : (n : Int) - 1 > -1
  · rw [if_pos h, show (- -1 : Int) = 1 by decide, Int.ediv_one]
    omega
  · rw [if_neg h]
    omega
theorem back_applied {sl : Addr} {t : Tok} {n : Nat} {Q : Int × Int × Nat → Shared → Prop} (hs : s.heap.IsSliceOf sl .none .none (.int (-1) t)) (h : Q ((n : Int) - 1, -1, n) s) :
    wpAny (model prog w) A (Builtin.Slice.sliceApplied (.ref sl) (pure (n : Int))) Q E s := by
  obtain ⟨o, ho, _, hd⟩ := id hs
  obtain ⟨b1, b2⟩ := back_parts n
  unfold Builtin.Slice.sliceApplied Builtin.Slice.sliceFields
  refine wpAny_bind (wpAny_bind (wpAny_field ho hd (x := .none) rfl (wpAny_bind (wpAny_field ho hd (x := .none) rfl (wpAny_bind (wpAny_field ho hd (x := .int (-1) t) rfl (wpAny_pure ?_)))))))
  refine wpAny_bind (slicePart_int ?_)
  show wpAny _ _ (if ((-1 : Int) == 0) = true then _ else _) _ _ s
  rw [if_neg (by decide)]
  refine wpAny_bind (slicePart_none (wpAny_bind (slicePart_none (wpAny_bind (wpAny_pure ?_)))))
  show wpAny _ _ (match Builtin.Slice.sliceAdjust none none (-1) (n : Int) with | (lo, hi) => pure (lo, (-1 : Int), Builtin.Slice.slicePlaces lo hi (-1))) _ _ s
  rw [b1]
  show wpAny _ _ (pure ((n : Int) - 1, (-1 : Int), Builtin.Slice.slicePlaces ((n : Int) - 1) (-1) (-1))) _ _ s
  rw [b2]
  exact wpAny_pure h
theorem back_pick (xs : Array Value) : ((List.range xs.size).filterMap fun (m : Nat) => xs[(((xs.size : Int) - 1) + (m : Int) * (-1)).toNat]?).toArray = xs.toList.reverse.toArray := by
  have e : ((List.range xs.size).filterMap fun (m : Nat) => xs[(((xs.size : Int) - 1) + (m : Int) * (-1)).toNat]?) = ((List.range xs.size).map fun k => xs.size - 1 - k).filterMap (xs[·]?) := by
    rw [List.filterMap_map]
    congr 1
    funext m
    show xs[(((xs.size : Int) - 1) + (m : Int) * (-1)).toNat]? = xs[xs.size - 1 - m]?
    congr 1
    omega
  rw [e, PySem.W.krv_range, List.filterMap_reverse, PySem.W.krv_all]
theorem back_tuple {t sl : Addr} {items : Array Value} {k : Tok} {Q : Value → Shared → Prop} (ht : IsTup s.heap t items) (hs : s.heap.IsSliceOf sl .none .none (.int (-1) k)) (hz : items.size ≤ sizeLine)
    (h : Q (.ref s.heap.objs.size) { s with heap := s.heap.push { cls := .type "tuple", data := .seq items.toList.reverse.toArray } }) : wpAny (model prog w) A (getItem (.ref t) (.ref sl)) Q E s := by
  have fits : sizeOk (.seq items.toList.reverse.toArray) := by
    show items.toList.reverse.toArray.size ≤ sizeLine
    rw [List.size_toArray, List.length_reverse, Array.length_toList]
    exact hz
  obtain ⟨o, ho, hc, _⟩ := id hs
  have hT : s.TypeIs (.ref sl) "slice" := ⟨o, ho, hc⟩
  unfold getItem
  try with_reducible refine wpAny_holding ?_
  first | refine wpAny_bind (wpAny_pure ?_) | skip
  refine wpAny_bind (wpAny_sequenceKey ht.typeIs (by decide) ?_)
  refine wpAny_bind (wpAny_callSpecial?_slot (name := Str.ofString "__getitem__") ht.typeIs PyProof.Rows.slot_tuple_getitem
    (wpAny_call_entry PyProof.Rows.slot_tuple_getitem ht.typeIs entry_tuple_getitem ?_ (args_tuple_getitem _ _)))
  refine wpAny_bind (m := Builtin.Tuple.tupleItemsOf (.ref t)) (tupleItemsOf_ ht ?_)
  refine wpAny_bind (wpAny_typeOf hT ?_)
  rw [if_pos (by decide)]
  refine wpAny_bind (back_applied hs ?_)
  show wpAny _ _ (if (((items.size : Int) - 1) == 0 && (-1 : Int) == 1 && items.size == items.size) = true then _ else _) _ _ s
  rw [if_neg (by simp), back_pick]
  first
    | exact wpAny_bind (m := Builtin.Tuple.tupleExact _) (wpAny_newObj_type (wpAny_pure ⟨_, rfl, wpAny_pure h⟩) fits)
    | exact wpAny_bind (m := Builtin.Tuple.tupleExact _) (wpAny_newObj_type (wpAny_bind (wpAny_pure (wpAny_pure ⟨_, rfl, wpAny_pure h⟩))) fits)
    | exact wpAny_bind (wpAny_bind (m := Builtin.Tuple.tupleExact _) (wpAny_newObj_type (wpAny_pure (wpAny_pure ⟨_, rfl, wpAny_pure h⟩)) fits))
    | exact wpAny_bind (wpAny_bind (m := Builtin.Tuple.tupleExact _) (wpAny_newObj_type (wpAny_pure ⟨_, rfl, wpAny_pure h⟩) fits))
end
section
variable {X : Cx}
def tBack (K : PySem.W.Frag) (te : TE) : TE := fun σ H Q => te σ H fun x H1 => ∃ a xs, x = .ref a ∧ SqT K H1 a xs ∧ ∀ p, H1 p = none → Q (.ref p) (upd H1 p (.tup xs.reverse))
theorem pe_back {e : Expr} {te : TE} {k : Nat} {p1 p2 p3 pos : Pos} (he : PE X e te) : PE X (.Subscript e (.Slice none none (some (.UnaryOp .USub (.Constant (.int 1) k p1) p2)) p3) pos) (tBack X.K te) := by
  refine ⟨fun pins s σ H Q I h => Subscript_ (thn (he.run pins s σ H _ I h) fun v s1 ⟨x, H1, I1, r1, a, xs, ex, hx, q⟩ => ?_)⟩
  subst ex
  cases r1
  have step : PO X (some (.UnaryOp .USub (.Constant (.int 1) k p1) p2)) (tPart (tUn (rU fun i => .int (-i)) (tC (.int 1)))) := po_some (pe_un un_neg pe_int)
  refine wpAny_Slice (thn (po_none.run pins s1 σ H1 (fun o H2 => o = none ∧ H2 = H1) I1 ⟨rfl, rfl⟩) fun vl s2 ⟨l, H2, I2, pl, el, e2⟩ => thn (po_none.run pins s2 σ H2 (fun o H3 => o = none ∧ H3 = H2) I2 ⟨rfl, rfl⟩) fun vu s3 ⟨u, H3, I3, pu, eu, e3⟩ =>
    thn (step.run pins s3 σ H3 (fun o H4 => o = some (-1) ∧ H4 = H3) I3 ⟨1, rfl, -1, rfl, rfl, rfl⟩) fun vs s4 ⟨o, H4, I4, ps, eo, e4⟩ => ?_)
  subst el e2 eu e3 eo e4
  cases pl
  cases pu
  cases ps with
  | int i tk =>
    have I5 : Inv X pins σ H4 { s4 with heap := s4.heap.push { cls := .type "slice", data := .fields #[.none, .none, .int (-1) tk] } } := I4.kept (t' := s4.toks) fun b ob q => Heap.get?_push_of_some _ q
    obtain ⟨its, r, ht, hz⟩ := I5.tuple hx
    have hlen := r.length
    show wpAny (model X.prog X.w) X.A (subscriptTail e (.Slice none none (some (.UnaryOp .USub (.Constant (.int 1) k p1) p2)) p3) (.ref a) (.ref s4.heap.objs.size)) (EP X pins σ Q) X.xe { s4 with heap := s4.heap.push { cls := .type "slice", data := .fields #[.none, .none, .int (-1) tk] } }
    refine tail_any (ops := [.ref a, .ref s4.heap.objs.size]) ht.typeIs PyProof.Rows.slot_tuple_getitem.lookup ?_ (by with_unfolding_all rfl)
    refine back_tuple ht (Heap.IsSliceOf.new _ .none .none (.int (-1) tk)) (by rw [List.size_toArray]; omega) ?_
    refine ⟨.ref _, _, I5.laid (t' := s4.toks) (o := .tup xs.reverse) (fun b ob q => Heap.get?_push_of_some _ q) (Nat.le_refl _) ?_, rfl, q _ (I5.hok.fresh (Nat.le_refl _))⟩
    exact ⟨by rw [List.length_reverse]; omega, _, r.reverse, IsTup.new _ _⟩
end
section
variable {K : PySem.W.Frag} {δ : Nm} {te : TE} {R : Dt → Prop}
theorem rp_back {G : Hp} : ∀ {vs : List V} {ds : List Dt}, RpAll K G vs ds → RpAll K G vs.reverse ds.reverse
  | _, _, .nil => .nil
  | _, _, .cons r t => by
    rw [List.reverse_cons, List.reverse_cons]
    exact (rp_back t).append (.cons r .nil)
theorem w_back (h : W K te δ fun d => ∃ ds, d = .tuple ds ∧ R (.tuple ds.reverse)) : W K (tBack K te) δ R := fun ω σ G H Q e k q => h ω σ G H _ e k fun v d G1 H1 g1 k1 r1 ⟨ds, e1, hr⟩ => by
  subst e1
  obtain ⟨a, xs, rfl, hs, ra⟩ := r1.tuple_inv
  exact ⟨a, xs, rfl, same_t k1.1 hs, q_tup k1 (rp_back ra) (fun w d G' H' g k' r rr => q w d G' H' (g1.trans g) k' r rr) hr⟩
end
/-! ### before, in an order of tuples of ints -/
section
variable {X : Cx} {K : PySem.W.Frag} {R : Dt → Prop}
def rLtK (K : PySem.W.Frag) : R2 := fun x y H Q => rI0 (fun i j => .bl (decide (i < j))) x y H Q ∨ rLtT K x y H Q
theorem op_ltK (hu : X.A.units + 1 < cLine) : OpR X (compareOp .Lt) (rLtK X.K) := op_lt.or (op_ltT (by omega))
theorem lex_lt : ∀ ns ms : List Int, HT.lexLt ns ms = decide (ns < ms)
  | [], [] => by simp [HT.lexLt]
  | [], _ :: _ => by simp [HT.lexLt]
  | _ :: _, [] => by simp [HT.lexLt]
  | n :: ns, m :: ms => by
    unfold HT.lexLt
    rw [lex_lt ns ms]
    have c : (n :: ns < m :: ms) ↔ (n < m ∨ n = m ∧ ns < ms) := List.cons_lt_cons_iff
    by_cases e : n = m
    · subst e
      rw [if_pos rfl, decide_eq_decide, c]
      exact ⟨fun h => .inr ⟨rfl, h⟩, fun h => h.elim (fun z => absurd z (Int.lt_irrefl _)) fun z => z.2⟩
    · rw [if_neg e, decide_eq_decide, c]
      exact ⟨fun h => .inl h, fun h => h.elim id fun z => absurd z.1 e⟩
theorem k_ltT {ns ms : List Int} (r : R (.bool (decide (ns < ms)))) : OpD K (rLtK K) (offsD ns) (offsD ms) R := fun ω G H v u Q k h1 h2 q => by
  obtain ⟨a, xs, rfl, hs, ra⟩ := h1.tuple_inv
  obtain rfl := ra.ints
  obtain ⟨b, ys, rfl, ht, rb⟩ := h2.tuple_inv
  obtain rfl := rb.ints
  exact .inr ⟨a, b, ns, ms, rfl, rfl, same_t k.1 hs, same_t k.1 ht, q _ _ G H (Same.refl G) k (by rw [lex_lt]; exact .bl _) r⟩
/-! ### in a tuple, by data -/
def rInT (K : PySem.W.Frag) (neg : Bool) : R2 := fun x y H Q => ∃ d ds, Dp K H x d ∧ Dp K H y (.tuple ds) ∧ SeqAt.shaped d = true ∧ SeqAt.shaped (.tuple ds) = true ∧ Q (.bl (if neg then !(ds.any fun z => PyData.eqv z d) else ds.any fun z => PyData.eqv z d)) H
theorem room_inT {A : Around} {d : PyData} {ds : List PyData} (sd : SeqAt.shaped d = true) (hu : A.units + 65 < cLine) : A.units + 1 + min (PyData.depthAll ds) d.depth < cLine := by
  have h : d.depth ≤ 64 := by
    unfold SeqAt.shaped at sd
    simp at sd
    omega
  have := Nat.min_le_right (PyData.depthAll ds) d.depth
  omega
theorem op_inT (hu : X.A.units + 70 < cLine) : OpR X (compareOp .In) (rInT X.K false) := by
  intro pins s σ H x y v u Q I rx ry h
  obtain ⟨d, ds, hd, he, sd, se, q⟩ := h
  obtain ⟨as, r1⟩ := Dp.reads I d x v hd rx
  obtain ⟨bs, r2⟩ := Dp.reads I (.tuple ds) y u he ry
  exact SeqAt.in_tuple_reads r2 r1 (SeqAt.canLay_of_shaped se) (SeqAt.canLay_of_shaped sd) (room_inT sd (by omega)) ⟨.bl _, H, I, rfl, q⟩
theorem op_niT (hu : X.A.units + 70 < cLine) : OpR X (compareOp .NotIn) (rInT X.K true) := by
  intro pins s σ H x y v u Q I rx ry h
  obtain ⟨d, ds, hd, he, sd, se, q⟩ := h
  obtain ⟨as, r1⟩ := Dp.reads I d x v hd rx
  obtain ⟨bs, r2⟩ := Dp.reads I (.tuple ds) y u he ry
  exact SeqAt.notIn_tuple_reads r2 r1 (SeqAt.canLay_of_shaped se) (SeqAt.canLay_of_shaped sd) (room_inT sd (by omega)) ⟨.bl _, H, I, rfl, q⟩
theorem o_inD {x : Dt} {ds : List Dt} (sx : SeqAt.shaped x = true) (sy : SeqAt.shaped (.tuple ds) = true) (r : R (.bool (ds.any fun z => PyData.eqv z x))) : OpD K (rInT K false) x (.tuple ds) R := fun ω G H v u Q k h1 h2 q =>
  ⟨x, ds, (h1.mono k.1).dp (shaped_lay sx), (h2.mono k.1).dp (shaped_lay sy), sx, sy, q _ _ G H (Same.refl G) k (.bl _) r⟩
theorem o_niD {x : Dt} {ds : List Dt} (sx : SeqAt.shaped x = true) (sy : SeqAt.shaped (.tuple ds) = true) (r : R (.bool (!ds.any fun z => PyData.eqv z x))) : OpD K (rInT K true) x (.tuple ds) R := fun ω G H v u Q k h1 h2 q =>
  ⟨x, ds, (h1.mono k.1).dp (shaped_lay sx), (h2.mono k.1).dp (shaped_lay sy), sx, sy, q _ _ G H (Same.refl G) k (.bl _) r⟩
end
/-! ### list(range(n)) as a value -/
theorem w_listRg1 {K : PySem.W.Frag} {δ : Nm} {te : TE} {R : Dt → Prop} (h : W K te δ fun d => ∃ n : Int, d = .int n ∧ 0 ≤ n ∧ n ≤ 1000000 ∧ R (.list ((upI 0 n.toNat).map .int))) : W K (tLstRg (tRg1 te)) δ R := fun ω σ G H Q e k q => h ω σ G H _ e k fun v d G1 H1 g1 k1 r1 ⟨m, e1, m0, m1, hr⟩ => by
  subst e1
  obtain rfl := r1.int_inv
  refine ⟨m, rfl, RgOk.of_le (Int.le_refl 0) (by omega) (by omega) m0, fun p hp => ?_⟩
  have e : rgV 0 m = (upI 0 m.toNat).map V.int := by
    unfold rgV upI
    rw [Int.sub_zero, List.map_map]
    rfl
  rw [e]
  exact q_lst k1 (RpAll.of_ints _) (fun v d G' H' g k' r rr => q v d G' H' (g1.trans g) k' r rr) hr p hp
/-! ### averages of an even group -/
theorem low_whole {c P : Int} (hP : 0 < P) : lowD (c * P) P = .tuple [.int c, .int 1] := by
  have e : ((Nat.gcd (c * P).natAbs P.natAbs : Nat) : Int) = P := by
    rw [Int.natAbs_mul, Nat.gcd_mul_left_left]
    omega
  unfold lowD
  rw [e, Int.mul_ediv_cancel _ (by omega), Int.ediv_self (by omega)]
theorem even_mean {ps : List Pt} {os : List Int} {k : Int} (hc : Crowd ps) (he : EvenQ ps) (ho : Offs ps os) (k0 : -2 ≤ k) (k1 : k < (ps.length : Int)) :
    lowD (((spanN ps : Nat) : Int) * topI ps k) (prodQ ps) = .tuple [.int ((kindN ps k os : Nat) : Int), .int 1] := by
  have pos := crowd_pos hc
  have c1 := class_sum hc k0 k1
  rw [sum_const (fun os => kindN ps k os) (kindN ps k os) (classL ps) fun q hq => even_all hc he q os (class_offs hc hq) ho k k0 k1] at c1
  have cl : ((classL ps).length : Int) = prodI (sizesL ps) := below_len fun m hm => (sizes_pos 1 (crowd_60 hc) m hm).1
  have num := class_number pos
  obtain ⟨a, b, c⟩ := span_le_prod pos
  have e : ((spanN ps : Nat) : Int) * topI ps k = ((kindN ps k os : Nat) : Int) * prodQ ps := by
    rw [← c1, Int.natCast_mul, cl, ← num]
    ac_rfl
  rw [e, low_whole (by omega)]
theorem classes_shaped {ps : List Pt} (hc : Crowd ps) : SeqAt.shaped (.tuple ((classL ps).map offsD)) = true :=
  (tidy_tup (tidyAll_of (ds := (classL ps).map offsD) (p := 1) (w := 164) fun d hd => by
    obtain ⟨os, ho, rfl⟩ := List.mem_map.mp hd
    exact offs_tidy hc (class_offs hc ho))).shaped (by decide)
theorem class_in {ps : List Pt} {os : List Int} : ((classL ps).map offsD).any (fun z => PyData.eqv z (offsD os)) = decide (os ∈ classL ps) := by
  rw [Bool.eq_iff_iff, List.any_eq_true, decide_eq_true_iff]
  constructor
  · rintro ⟨z, hz, e⟩
    obtain ⟨qs, hq, rfl⟩ := List.mem_map.mp hz
    have e : PyData.eqv (.tuple (qs.map .int)) (.tuple (os.map .int)) = true := e
    rw [eqv_ints] at e
    rw [← of_decide_eq_true e]
    exact hq
  · intro h
    refine ⟨offsD os, List.mem_map.mpr ⟨os, h, rfl⟩, ?_⟩
    show PyData.eqv (.tuple (os.map .int)) (.tuple (os.map .int)) = true
    rw [eqv_ints, decide_eq_true rfl]
end DW
namespace DW
open PySem PySem.Spec PyProof.Rows L2
variable [Tabl]
/-! ### the counts of all classes of a turned group -/
def turnA : List Pt → List Int → List Pt
  | p :: ps, b :: bs => (p.1, turnS p.1 p.2 b) :: turnA ps bs
  | _, _ => []
def shiftL : List Pt → List Int → List Int → List Int
  | p :: ps, b :: bs, o :: os => (o + b) % p.1 :: shiftL ps bs os
  | _, _, _ => []
theorem Turns.ex {ps qs : List Pt} (h : Turns qs ps) : ∃ bs : List Int, bs.length = ps.length ∧ qs = turnA ps bs := by
  induction h with
  | nil => exact ⟨[], rfl, rfl⟩
  | cons b r ih =>
    obtain ⟨bs, h1, h2⟩ := ih
    exact ⟨b :: bs, congrArg Nat.succ h1, by rw [h2]; rfl⟩
theorem turnA_turns : ∀ {ps : List Pt} {bs : List Int}, bs.length = ps.length → Turns (turnA ps bs) ps
  | [], [], _ => .nil
  | p :: ps, b :: bs, h => .cons b (turnA_turns (Nat.succ.inj h))
  | [], _ :: _, h => nomatch h
  | _ :: _, [], h => nomatch h
theorem shift_len : ∀ {ps : List Pt} {bs os : List Int}, bs.length = ps.length → os.length = ps.length → (shiftL ps bs os).length = ps.length
  | [], [], [], _, _ => rfl
  | p :: ps, b :: bs, o :: os, h, h' => congrArg Nat.succ (shift_len (Nat.succ.inj h) (Nat.succ.inj h'))
  | [], _ :: _, _, h, _ => nomatch h
  | [], [], _ :: _, _, h => nomatch h
  | _ :: _, [], _, h, _ => nomatch h
  | _ :: _, _ :: _, [], _, h => nomatch h
theorem voices_turn : ∀ {ps : List Pt} {bs os : List Int} (k t : Int), (∀ p ∈ ps, 0 < p.1) → bs.length = ps.length → os.length = ps.length → voicesF k (turnA ps bs) os t = voicesF k ps (shiftL ps bs os) t
  | [], [], [], _, _, _, _, _ => rfl
  | p :: ps, b :: bs, o :: os, k, t, hp, h, h' => by
    have ih := voices_turn (k + 1) t (fun q hq => hp q (List.mem_cons_of_mem _ hq)) (Nat.succ.inj h) (Nat.succ.inj h')
    show (if sndB (p.1, turnS p.1 p.2 b) o t = true then k :: voicesF (k + 1) (turnA ps bs) os t else voicesF (k + 1) (turnA ps bs) os t) = if sndB p ((o + b) % p.1) t = true then k :: voicesF (k + 1) ps (shiftL ps bs os) t else voicesF (k + 1) ps (shiftL ps bs os) t
    rw [ih, snd_turn (hp p List.mem_cons_self), snd_mod]
  | [], _ :: _, _, _, _, _, h, _ => nomatch h
  | [], [], _ :: _, _, _, _, _, h => nomatch h
  | _ :: _, [], _, _, _, _, h, _ => nomatch h
  | _ :: _, _ :: _, [], _, _, _, _, h => nomatch h
theorem kind_turn {ps : List Pt} {bs os : List Int} (hp : ∀ p ∈ ps, 0 < p.1) (hb : bs.length = ps.length) (ho : os.length = ps.length) (k : Int) : kindN (turnA ps bs) k os = kindN ps k (shiftL ps bs os) := by
  rw [kindN_eq, kindN_eq, show spanN (turnA ps bs) = spanN ps from (turnA_turns hb).spanF 1]
  refine List.countP_congr fun t _ => ?_
  have e : heardI (turnA ps bs) os t = heardI ps (shiftL ps bs os) t := congrArg kindI (voices_turn 0 t hp hb ho)
  rw [e]
theorem counts_turn {ps : List Pt} {bs os : List Int} (hp : ∀ p ∈ ps, 0 < p.1) (hb : bs.length = ps.length) (ho : os.length = ps.length) : countsL (turnA ps bs) os = countsL ps (shiftL ps bs os) := by
  have l := (turnA_turns hb).len
  unfold countsL
  rw [l, kind_turn hp hb ho, kind_turn hp hb ho]
  congr 2
  refine List.map_congr_left fun w _ => ?_
  rw [kind_turn hp hb ho]
theorem box_shift : ∀ {ps : List Pt} {bs os : List Int}, (∀ p ∈ ps, 0 < p.1) → bs.length = ps.length → os.length = ps.length → Box (shiftL ps bs os) (ps.map (·.1))
  | [], [], [], _, _, _ => trivial
  | p :: ps, b :: bs, o :: os, hp, h, h' => by
    have p0 := hp p List.mem_cons_self
    exact ⟨⟨Int.emod_nonneg _ (by omega), Int.emod_lt_of_pos _ p0⟩, box_shift (fun q hq => hp q (List.mem_cons_of_mem _ hq)) (Nat.succ.inj h) (Nat.succ.inj h')⟩
  | [], _ :: _, _, _, h, _ => nomatch h
  | [], [], _ :: _, _, _, h => nomatch h
  | _ :: _, [], _, _, h, _ => nomatch h
  | _ :: _, _ :: _, [], _, _, h => nomatch h
theorem shift_back : ∀ {ps : List Pt} {bs os : List Int}, (∀ p ∈ ps, 0 < p.1) → bs.length = ps.length → Box os (ps.map (·.1)) → shiftL ps bs (shiftL ps (bs.map (- ·)) os) = os
  | [], [], [], _, _, _ => rfl
  | p :: ps, b :: bs, o :: os, hp, h, hb => by
    have ih := shift_back (fun q hq => hp q (List.mem_cons_of_mem _ hq)) (Nat.succ.inj h) hb.2
    show ((o + -b) % p.1 + b) % p.1 :: shiftL ps bs (shiftL ps (bs.map (- ·)) os) = o :: os
    rw [ih, em_add, show o + -b + b = o by omega, Int.emod_eq_of_lt hb.1.1 hb.1.2]
  | [], [], _ :: _, _, _, h => h.elim
  | [], _ :: _, _, _, h, _ => nomatch h
  | _ :: _, [], _, _, h, _ => nomatch h
  | _ :: _, _ :: _, [], _, _, h => h.elim
theorem below_nodup (ns : List Int) : (belowL ns).Nodup := List.Pairwise.imp (R := (· < ·)) (S := (· ≠ ·)) (fun {a b} hab e => by
  rw [e] at hab
  exact llt_irrefl _ hab) (below_asc ns)
theorem shift_perm {ps : List Pt} {bs : List Int} (hp : ∀ p ∈ ps, 0 < p.1) (hb : bs.length = ps.length) : ((belowL (ps.map (·.1))).map (shiftL ps bs)).Perm (belowL (ps.map (·.1))) := by
  obtain ⟨R, hR⟩ := perm_rest (M := (belowL (ps.map (·.1))).map (shiftL ps bs)) (below_nodup (ps.map (·.1))) fun o ho => by
    have hB := mem_below.mp ho
    have hl := hB.len
    rw [List.length_map] at hl
    exact List.mem_map.mpr ⟨shiftL ps (bs.map (- ·)) o, mem_below.mpr (box_shift hp (by rw [List.length_map]; exact hb) hl), shift_back hp hb hB⟩
  have l := hR.length_eq
  rw [List.length_append, List.length_map] at l
  have r0 : R = [] := List.length_eq_zero_iff.mp (by omega)
  rw [r0, List.append_nil] at hR
  exact hR
theorem puts_count {ps : List Pt} {f : List Int → List Int} (hf : ∀ c t, f (putL ps c t) = f c) (n : Nat) (x : List Int) : ∀ L : List (List Int), ((L.flatMap fun c => (upI 0 n).map fun t => putL ps c (-t)).map f).count x = n * (L.map f).count x
  | [] => by simp
  | c :: L => by
    rw [List.flatMap_cons, List.map_append, List.count_append, puts_count hf n x L, List.map_map, List.map_cons, List.count_cons]
    have e : (upI 0 n).map (f ∘ fun t => putL ps c (-t)) = List.replicate n (f c) := by
      rw [List.eq_replicate_iff]
      refine ⟨by rw [List.length_map, upI_len], fun y hy => ?_⟩
      obtain ⟨t, _, rfl⟩ := List.mem_map.mp hy
      exact hf c (-t)
    rw [e, List.count_replicate, Nat.mul_add, Nat.add_comm]
    split <;> simp_all
theorem below_count {ps : List Pt} {f : List Int → List Int} (hp : ∀ p ∈ ps, 0 < p.1) (hf : ∀ c t, f (putL ps c t) = f c) (x : List Int) : ((belowL (ps.map (·.1))).map f).count x = spanN ps * ((classL ps).map f).count x := by
  rw [← ((puts_perm hp).map f).count_eq x]
  exact puts_count hf (spanN ps) x (classL ps)
theorem counts_put {ps : List Pt} (hp : ∀ p ∈ ps, 0 < p.1) (c : List Int) (t : Int) : countsL ps (putL ps c t) = countsL ps c := by
  unfold countsL
  rw [kind_put hp, kind_put hp]
  congr 2
  exact List.map_congr_left fun w _ => by rw [kind_put hp]
theorem Turns.counts {ps qs : List Pt} (h : Turns qs ps) (hc : Crowd ps) : ((classL qs).map (countsL qs)).Perm ((classL ps).map (countsL ps)) := by
  have hp := crowd_pos hc
  have hq := crowd_pos (h.crowd hc)
  have W := span_whole ps hp
  have es : spanN qs = spanN ps := h.spanF 1
  obtain ⟨bs, hb, rfl⟩ := h.ex
  have em : (turnA ps bs).map (·.1) = ps.map (·.1) := by
    clear W es hq h hc
    induction ps generalizing bs with
    | nil => cases bs with
      | nil => rfl
      | cons b bs => cases hb
    | cons p ps ih => cases bs with
      | nil => cases hb
      | cons b bs =>
        show p.1 :: (turnA ps bs).map (·.1) = p.1 :: ps.map (·.1)
        rw [ih (fun q hq => hp q (List.mem_cons_of_mem _ hq)) bs (Nat.succ.inj hb)]
  refine List.perm_iff_count.mpr fun x => ?_
  have a := below_count hq (counts_put hq) x
  have b := below_count hp (counts_put hp) x
  rw [em] at a
  have e : (belowL (ps.map (·.1))).map (countsL (turnA ps bs)) = ((belowL (ps.map (·.1))).map (shiftL ps bs)).map (countsL ps) := by
    rw [List.map_map]
    refine List.map_congr_left fun o ho => ?_
    have hl := (mem_below.mp ho).len
    rw [List.length_map] at hl
    exact counts_turn hp hb hl
  rw [e, ((shift_perm hp hb).map _).count_eq x, b, es] at a
  have pos := W.pos
  exact (Nat.eq_of_mul_eq_mul_left (by omega) a).symm
/-- two sorted lists of the same -/
theorem sorted_same {xs ys : List (List Int)} (h : xs.Perm ys) (hx : xs.Pairwise fun a b => ¬ b < a) (hy : ys.Pairwise fun a b => ¬ b < a) : xs = ys :=
  h.eq_of_pairwise (fun a b _ _ h1 h2 => by
    exact List.le_antisymm h1 h2) hx hy
end DW
namespace DW
open PySem PySem.Spec PyProof.Rows L2
variable [Tabl]
/-! ### by putting in and leaving out -/
def subsN : Nat → List (List Int)
  | 0 => [[]]
  | n + 1 => subsN n ++ (subsN n).map fun S => S ++ [(n : Int)]
def signS (S : List Int) : Int := if S.length % 2 = 0 then 1 else -1
theorem sign_snoc (S : List Int) (x : Int) : signS (S ++ [x]) = -signS S := by
  unfold signS
  rw [List.length_append]
  show (if (S.length + 1) % 2 = 0 then (1 : Int) else -1) = -(if S.length % 2 = 0 then 1 else -1)
  by_cases h : S.length % 2 = 0
  · rw [if_pos h, if_neg (by omega)]
  · rw [if_neg h, if_pos (by omega)]
    rfl
theorem count_two {α : Type} (A b : α → Bool) : ∀ T : List α, T.countP A = T.countP (fun t => A t && b t) + T.countP fun t => A t && !b t
  | [] => rfl
  | t :: T => by
    rw [List.countP_cons, List.countP_cons, List.countP_cons, count_two A b T]
    cases A t <;> cases b t <;> simp <;> omega
theorem sum_negs {α : Type} (f : α → Int) : ∀ L : List α, (L.map fun x => -f x).sum = -(L.map f).sum
  | [] => rfl
  | x :: L => by
    rw [List.map_cons, List.sum_cons, List.map_cons, List.sum_cons, sum_negs f L]
    omega
theorem put_leave (send : Int → Int → Bool) (T : List Int) : ∀ (n : Nat) (P : Int → Bool), ((subsN n).map fun S => signS S * ((T.countP fun t => P t && S.all fun j => send t j : Nat) : Int)).sum = ((T.countP fun t => P t && (upI 0 n).all fun j => !send t j : Nat) : Int)
  | 0, P => by
    show signS [] * ((T.countP fun t => P t && true : Nat) : Int) + 0 = ((T.countP fun t => P t && true : Nat) : Int)
    rw [show signS [] = 1 from rfl]
    omega
  | n + 1, P => by
    rw [subsN, List.map_append, List.sum_append, put_leave send T n P, List.map_map]
    have e1 : (subsN n).map ((fun S : List Int => signS S * ((T.countP fun t => P t && S.all fun j => send t j : Nat) : Int)) ∘ fun S => S ++ [(n : Int)]) = (subsN n).map fun S => -(signS S * ((T.countP fun t => (P t && send t (n : Int)) && S.all fun j => send t j : Nat) : Int)) := by
      refine List.map_congr_left fun S _ => ?_
      show signS (S ++ [(n : Int)]) * ((T.countP fun t => P t && (S ++ [(n : Int)]).all fun j => send t j : Nat) : Int) = _
      have e : (T.countP fun t => P t && (S ++ [(n : Int)]).all fun j => send t j) = T.countP fun t => (P t && send t (n : Int)) && S.all fun j => send t j := by
        refine List.countP_congr fun t _ => ?_
        rw [List.all_append]
        show (P t && ((S.all fun j => send t j) && (send t (n : Int) && true))) = true ↔ _
        cases P t <;> cases send t (n : Int) <;> cases (S.all fun j => send t j) <;> simp
      rw [sign_snoc, e, Int.neg_mul]
    rw [e1, sum_negs, put_leave send T n fun t => P t && send t (n : Int)]
    have sp := count_two (fun t => P t && (upI 0 n).all fun j => !send t j) (fun t => send t (n : Int)) T
    have e2 : (T.countP fun t => (P t && send t (n : Int)) && (upI 0 n).all fun j => !send t j) = T.countP fun t => (P t && (upI 0 n).all fun j => !send t j) && send t (n : Int) := by
      refine List.countP_congr fun t _ => ?_
      cases P t <;> cases send t (n : Int) <;> simp
    have e3 : (T.countP fun t => P t && (upI 0 (n + 1)).all fun j => !send t j) = T.countP fun t => (P t && (upI 0 n).all fun j => !send t j) && !send t (n : Int) := by
      refine List.countP_congr fun t _ => ?_
      rw [upI_snoc, List.all_append, Int.zero_add]
      show (P t && (((upI 0 n).all fun j => !send t j) && (!send t (n : Int) && true))) = true ↔ _
      cases P t <;> cases send t (n : Int) <;> simp
    rw [e2, e3]
    omega
/-! ### in the other order -/
theorem voices_rev : ∀ {ps : List Pt} {os : List Int} (k t : Int), os.length = ps.length → voicesF 0 ps.reverse os.reverse t = (voicesF k ps os t).reverse.map fun i => (ps.length : Int) - 1 - (i - k)
  | [], [], _, _, _ => rfl
  | p :: ps, o :: os, k, t, h => by
    have ih := voices_rev (ps := ps) (os := os) (k + 1) t (Nat.succ.inj h)
    rw [List.reverse_cons, List.reverse_cons, voicesF_snoc (by rw [List.length_reverse, List.length_reverse]; exact Nat.succ.inj h), ih, List.length_reverse]
    have ef : ((voicesF (k + 1) ps os t).reverse.map fun i => (ps.length : Int) - 1 - (i - (k + 1))) = (voicesF (k + 1) ps os t).reverse.map fun i => ((p :: ps).length : Int) - 1 - (i - k) := by
      refine List.map_congr_left fun i _ => ?_
      rw [List.length_cons]
      omega
    rw [ef]
    show _ = (if sndB p o t = true then k :: voicesF (k + 1) ps os t else voicesF (k + 1) ps os t).reverse.map fun i => ((p :: ps).length : Int) - 1 - (i - k)
    by_cases c : sndB p o t = true
    · rw [if_pos c, if_pos c, List.reverse_cons, List.map_append]
      congr 1
      show [0 + (ps.length : Int)] = [((p :: ps).length : Int) - 1 - (k - k)]
      rw [List.length_cons]
      congr 1
      omega
    · rw [if_neg c, if_neg c, List.append_nil]
  | [], _ :: _, _, _, h => nomatch h
  | _ :: _, [], _, _, h => nomatch h
def mirI (n : Nat) (k : Int) : Int := if k < 0 then k else (n : Int) - 1 - k
theorem kind_mir {n : Nat} : ∀ {v : List Int}, (∀ x ∈ v, 0 ≤ x) → kindI (v.reverse.map fun i => (n : Int) - 1 - (i - 0)) = mirI n (kindI v)
  | [], _ => rfl
  | [x], h => by
    have x0 := h x List.mem_cons_self
    show (n : Int) - 1 - (x - 0) = if x < 0 then x else (n : Int) - 1 - x
    rw [if_neg (by omega)]
    omega
  | x :: y :: r, _ => by
    have two : ∀ {u : List Int}, 2 ≤ u.length → kindI u = -2 := fun {u} hu => by
      match u, hu with
      | _ :: _ :: _, _ => rfl
    rw [two (by rw [List.length_map, List.length_reverse]; show 2 ≤ r.length + 1 + 1; omega), two (u := x :: y :: r) (by show 2 ≤ r.length + 1 + 1; omega)]
    rfl
theorem heard_rev {ps : List Pt} {os : List Int} (hl : os.length = ps.length) (t : Int) : heardI ps.reverse os.reverse t = mirI ps.length (heardI ps os t) := by
  unfold heardI voicesL
  rw [voices_rev 0 t hl]
  exact kind_mir fun x hx => by have := voicesF_bounds hx; omega
theorem kind_rev {ps : List Pt} {os : List Int} (hp : ∀ p ∈ ps, 0 < p.1) (hl : os.length = ps.length) {k : Int} (k1 : k < (ps.length : Int)) : kindN ps.reverse k os.reverse = kindN ps (mirI ps.length k) os := by
  rw [kindN_eq, kindN_eq, span_perm hp (List.reverse_perm ps)]
  refine List.countP_congr fun t _ => ?_
  rw [decide_eq_true_iff, decide_eq_true_iff, heard_rev hl]
  have b := (heard_bounds ps os t).2
  generalize heardI ps os t = h at b
  unfold mirI
  constructor
  · intro e
    by_cases c : h < 0
    · rw [if_pos c] at e
      rw [if_pos (by omega)]
      exact e
    · rw [if_neg c] at e
      rw [if_neg (by omega)]
      omega
  · intro e
    by_cases c : k < 0
    · rw [if_pos c] at e
      rw [if_pos (by omega)]
      exact e
    · rw [if_neg c] at e
      rw [if_neg (by omega)]
      omega
/-! ### x, y = a, f(..) with a def that hands back a plain tuple -/
section
variable {K : PySem.W.Frag} {δ : Nm}
theorem ws_parP {α : Type} {args : α → List E} {ok : α → Prop} {post : α → List Dt → Prop} {X : XK} {i j : Nat} {ta : TE} {ar : TA} {nx bk ct : Nm → Prop} {rt : Dt → Prop}
    (h : W K ta δ fun d1 => WA K ar δ fun es => ∃ a, es = args a ∧ ok a ∧ ∀ ds, post a ds → nx ((δ.set i (.dat d1)).set j (.pl ds))) :
    WS K (tPar i j (tCons ta (tCons (tCall (spP K args ok post) [] X ar) tNil))) δ nx rt bk ct := fun ω σ G H D s n r b c =>
  run_wg (Rel := fun G (vs : List V) (p : Dt × List Dt) => ∃ u v, vs = [u, v] ∧ Rp K G u p.1 ∧ PlT K G v p.2) (R := fun p => nx ((δ.set i (.dat p.1)).set j (.pl p.2))) (t := fun σ H Q => (tCons ta (tCons (tCall (spP K args ok post) [] X ar) tNil)) σ H Q)
    (fun ω σ G H Q e k q => h ω σ G H _ e k fun x d1 G1 H1 g1 k1 r1 h2 => h2 ω σ G1 H1 _ (e.mono g1) k1 fun vs es G2 H2 g2 k2 r2 ⟨a, e1, o, p⟩ => by
      rw [List.append_nil]
      subst e1
      exact ⟨ω, G2, a, k2, r2, o, fun v ds G3 H3 g3 k3 r3 p3 => q [x, v] (d1, ds) G3 H3 ((g1.trans g2).trans g3) k3 ⟨x, v, rfl, r1.mono (g2.trans g3), r3⟩ (p ds p3)⟩) s fun vs p G1 H1 g1 s1 ⟨u, v, e1, r1, r2⟩ q => ⟨u, v, e1, n _ _ G1 H1 g1 ((s1.set r1).setP r2) q⟩
end
end DW
/-! sets of ints made by a comprehension with one for, with two: sorted at once. -/
namespace ScI
open PySem PySem.Spec PyProof.Rows L2
/-- a heap in which a code object of that name lies at c -/
def codeHp (c : Addr) (q : Str) : Heap := ⟨Array.replicate (c + 1) { cls := .none, dict := none, data := .fields #[.none, .str q default] }, {}⟩
theorem codeHp_at {c a : Addr} {q : Str} {o : Obj} (h : (codeHp c q).get? a = some o) : o.data = .fields #[.none, .str q default] := by
  unfold codeHp Heap.get? at h
  dsimp only at h
  rw [Array.getElem?_replicate] at h
  by_cases z : a < c + 1
  · rw [if_pos z] at h
    cases h
    rfl
  · rw [if_neg z] at h
    cases h
theorem set_not_code {w : World} {a : Addr} {S : Int → Bool} {n : Nat} (c : Addr) (q : Str) : SetO w a S n ≠ LamX.CodeO c q := fun e => by
  have e' : (fun h => SetR w h a S n) = fun h => ∃ (oc : Obj) (vs : Array Value) (t : Tok), h.get? c = some oc ∧ oc.data = .fields vs ∧ vs[1]? = some (.str q t) := by
    injection e
  have yes : ∃ (oc : Obj) (vs : Array Value) (t : Tok), (codeHp c q).get? c = some oc ∧ oc.data = .fields vs ∧ vs[1]? = some (.str q t) := by
    refine ⟨{ cls := .none, dict := none, data := .fields #[.none, .str q default] }, _, default, ?_, rfl, rfl⟩
    unfold codeHp Heap.get?
    dsimp only
    rw [Array.getElem?_replicate, if_pos (Nat.lt_succ_self c)]
  rw [← congrFun e' (codeHp c q)] at yes
  obtain ⟨o, es, ep, t, ho, _, hd, _⟩ := yes
  have z := codeHp_at ho
  rw [hd] at z
  cases z

section
variable {X : Cx}
/-- one int more -/
theorem plus_ok {pins : List (Addr × Obj)} {σ : L2.St} {H : Hp} {s : Shared} {E : Value → Shared → Prop} {D : Addr} {S : Int → Bool} {n : Nat} {m : Int} {t : Tok} {Q : Value → Shared → Prop} (I : Inv X pins σ H s) (at_ : H D = some (SetO X.w D S n)) (few : n + 1 < scanBound)
    (q : ∀ s', Inv X pins σ (upd H D (SetO X.w D (fun j => S j || decide (j = m)) (if S m = true then n else n + 1))) s' → Q .none s') : wpAny (model X.prog X.w) X.A (call (.builtin "set.add") [.ref D, .int m t]) Q E s :=
  setR_add (setO_get I at_) few fun h' sb new => q _ <|
    I.write (e := D) (t' := s.toks + 1) (by rw [at_]; trivial) (.inl rfl) (fun b u hb hu => (sb.2 b hb).trans hu) (by obtain ⟨o, _, _, _, ho, _⟩ := new; exact ⟨o, ho⟩) (setO_new new)
/-- what goes into the set at D, and what then holds -/
def putsI (w : World) (D : Addr) (Nx : Hp → Prop) : V → Hp → Prop := fun y H => ∃ (m : Int) (S : Int → Bool) (n : Nat), y = .int m ∧ H D = some (SetO w D S n) ∧ n + 1 < scanBound ∧ Nx (upd H D (SetO w D (fun j => S j || decide (j = m)) (if S m = true then n else n + 1)))
abbrev emptyI (w : World) (H : Hp) (D : Addr) : Hp := upd H D (SetO w D (fun _ => false) 0)
/-- {e for g in .. if tt} -/
def tSt1 (w : World) (wi : TI) (g : TG) (tt : TT) (te : TE) (vs : List Nat) : TE := fun σ H Q => wi σ H fun J H1 => ∀ D, H1 D = none → ∃ W : Nat → Nat → Hp → Prop, (∃ m, W 0 m (emptyI w H1 D)) ∧ ∀ i m H, W i m H →
  (J.stop i H ∧ Q (.ref D) H) ∨ (J.go i H ∧ ∃ Nx : Hp → Prop, (∀ H', Nx H' → ∃ m', m' < m ∧ W (i + 1) m' H') ∧ ∀ x H', J.yld i H x H' → g x (wipe σ vs) H' fun σ2 H2 => wipe σ2 vs = wipe σ vs ∧ tt σ2 H2 fun b H3 =>
    if b = true then te σ2 H3 (putsI w D Nx) else Nx H3)
/-- {e for g in .. if tt for g1 in .. if tt1} -/
def tSt2 (w : World) (wi : TI) (g : TG) (tt : TT) (wi1 : TI) (g1 : TG) (tt1 : TT) (te : TE) (vs vs1 : List Nat) : TE := fun σ H Q => wi σ H fun J H1 => ∀ D, H1 D = none → ∃ W : Nat → Nat → Hp → Prop, (∃ m, W 0 m (emptyI w H1 D)) ∧ ∀ i m H, W i m H →
  (J.stop i H ∧ Q (.ref D) H) ∨ (J.go i H ∧ ∃ Nx : Hp → Prop, (∀ H', Nx H' → ∃ m', m' < m ∧ W (i + 1) m' H') ∧ ∀ x H', J.yld i H x H' → g x (wipe σ vs) H' fun σ2 H2 => wipe σ2 vs = wipe σ vs ∧ tt σ2 H2 fun b H3 =>
    if b = true then wi1 σ2 H3 fun J1 H4 => ∃ W1 : Nat → Nat → Hp → Prop, (∃ m, W1 0 m H4) ∧ ∀ j k H, W1 j k H →
      (J1.stop j H ∧ Nx H) ∨ (J1.go j H ∧ ∃ Nx1 : Hp → Prop, (∀ H', Nx1 H' → ∃ k', k' < k ∧ W1 (j + 1) k' H') ∧ ∀ x H', J1.yld j H x H' → g1 x (wipe σ2 vs1) H' fun σ3 H5 => wipe σ3 vs1 = wipe σ2 vs1 ∧ tt1 σ3 H5 fun b H6 =>
        if b = true then te σ3 H6 (putsI w D Nx1) else Nx1 H6)
    else Nx H3)
end

/-! the machine's steps of a set comprehension with two fors -/
abbrev two (elt t0 i0 : Expr) (c0 : List Expr) (t1 i1 : Expr) (c1 : List Expr) (scope : Scope) (pos : Pos) : Expr := .SetComp elt [⟨t0, i0, c0, 0⟩, ⟨t1, i1, c1, 0⟩] scope pos
theorem step0 (elt t0 i0 t1 i1 : Expr) (c0 c1 : List Expr) (scope : Scope) (pos : Pos) (it acc : Value) (env : Env) :
    compTurn (two elt t0 i0 c0 t1 i1 c1 scope pos) 0 it acc env = (do
      standAt i0.pos
      match ← pyNext it with
      | none => pure (.done .next)
      | some z =>
        letOwnedTupleGo t0 it z
        assign t0 env z
        let mut good := true
        for c in c0 do
          if good then good ← isTrue c env (eval c env)
        if good then
          let y ← eval i1 env
          standAt i1.pos
          let y ← foldedSetIterable i1 env y
          let _ ← runOwn (.compStart (two elt t0 i0 c0 t1 i1 c1 scope pos) 1 (← holding [y] (pyIter y)) acc env) env
        again (.compLoop (two elt t0 i0 c0 t1 i1 c1 scope pos) 0 it acc env)) := by rfl
theorem step1 (elt t0 i0 t1 i1 : Expr) (c0 c1 : List Expr) (scope : Scope) (pos : Pos) (it acc : Value) (env : Env) :
    compTurn (two elt t0 i0 c0 t1 i1 c1 scope pos) 1 it acc env = (do
      standAt i1.pos
      match ← pyNext it with
      | none => pure (.done .next)
      | some z =>
        letOwnedTupleGo t1 it z
        assign t1 env z
        let mut good := true
        for c in c1 do
          if good then good ← isTrue c env (eval c env)
        if good then
          (do let y ← eval elt env; standAt elt.pos; let _ ← call (.builtin "set.add") [acc, y])
        again (.compLoop (two elt t0 i0 c0 t1 i1 c1 scope pos) 1 it acc env)) := by rfl
/-- a clause's tests, as the machine walks them -/
abbrev testsOf (cs : List Expr) (env : Env) : Sem Bool := forIn cs true fun c r => if r = true then do let ok ← isTrue c env (eval c env); pure (ForInStep.yield ok) else pure (ForInStep.yield r)
section
variable {prog : Program} {w : World} {A : Around} {R : Result → Shared → Prop} {s : Shared} {elt t0 i0 t1 i1 : Expr} {c0 c1 : List Expr} {scope : Scope} {pos : Pos} {it acc : Value} {env : Env}
abbrev bad (prog : Program) (w : World) (A : Around) (R : Result → Shared → Prop) (env : Env) : Value → Shared → Prop := notedBy (model prog w) A env fun e s' => R (.error e) s'
theorem loop0 (hs : ∀ x, foldedSetIterable i1 env x = pure x) (I : Nat → Shared → Prop)
    (turn : ∀ n s, I n s → wpAny (model prog w) A (pyNext it) (fun r s₁ => match r with
      | none => R (.ok .next) s₁
      | some z => wpAny (model prog w) A (letOwnedTupleGo t0 it z) (fun _ s₂ => wpAny (model prog w) A (assign t0 env z) (fun _ s₃ => wpAny (model prog w) A (testsOf c0 env) (fun good s₄ =>
          if good = true then wpAny (model prog w) A (eval i1 env) (fun y s₅ => wpAny (model prog w) A (pyIter y) (fun jt s₆ =>
              codeAny (model prog w) A (.compStart (two elt t0 i0 c0 t1 i1 c1 scope pos) 1 jt acc env) (fun r s' => match r with
                | .ok _ => ∃ m, m < n ∧ I m s'
                | .error _ => False) s₆) (bad prog w A R env) s₅) (bad prog w A R env) s₄
          else ∃ m, m < n ∧ I m s₄) (bad prog w A R env) s₃) (bad prog w A R env) s₂) (bad prog w A R env) s₁) (bad prog w A R env) s) (n : Nat) (h : I n s) :
    codeAny (model prog w) A (.compLoop (two elt t0 i0 c0 t1 i1 c1 scope pos) 0 it acc env) R s := by
  refine codeAny_loop rfl I (fun n s at_ => ?_) n h
  show wpAny _ A ((compTurn (two elt t0 i0 c0 t1 i1 c1 scope pos) 0 it acc env).onRaise (fun x => do noteFrame x env; theTreesLotGoes x)) _ _ s
  refine wpAny_noted ?_
  rw [step0]
  refine wpAny_bind (wpAny_standAt (wpAny_bind (wpAny_mono (turn n s at_) (fun r s₁ g₁ => ?_) fun _ _ z => z)))
  match r, g₁ with
  | none, g₁ => exact wpAny_pure g₁
  | some z, g₁ =>
    refine wpAny_bind (wpAny_mono g₁ (fun _ s₂ g₂ => wpAny_bind (wpAny_mono g₂ (fun _ s₃ g₃ => wpAny_bind (wpAny_mono g₃ (fun good s₄ g₄ => ?_) fun _ _ z => z)) fun _ _ z => z)) fun _ _ z => z)
    match good, g₄ with
    | false, g₄ => exact wpAny_pure ⟨rfl, g₄⟩
    | true, g₄ =>
      refine wpAny_bind (wpAny_mono g₄ (fun y s₅ g₅ => wpAny_bind (wpAny_standAt (wpAny_bind (wpAny_of_eq (hs y) (wpAny_bind (wpAny_holding (wpAny_mono g₅ (fun jt s₆ g₆ => ?_) fun _ _ z => z))))))) fun _ _ z => z)
      refine wpAny_bind (wpAny_runOwn ?_)
      rw [Around.mark_none]
      refine codeAny_mono g₆ fun r s' hr => ?_
      match r, hr with
      | .ok f, hr => first
        | exact wpAny_pure ⟨rfl, hr⟩
        | exact wpAny_bind (wpAny_pure (wpAny_pure ⟨rfl, hr⟩))
theorem loop1 (I : Nat → Shared → Prop)
    (turn : ∀ n s, I n s → wpAny (model prog w) A (pyNext it) (fun r s₁ => match r with
      | none => R (.ok .next) s₁
      | some z => wpAny (model prog w) A (letOwnedTupleGo t1 it z) (fun _ s₂ => wpAny (model prog w) A (assign t1 env z) (fun _ s₃ => wpAny (model prog w) A (testsOf c1 env) (fun good s₄ =>
          if good = true then wpAny (model prog w) A (eval elt env) (fun y s₅ => wpAny (model prog w) A (call (.builtin "set.add") [acc, y]) (fun _ s₆ => ∃ m, m < n ∧ I m s₆) (bad prog w A R env) s₅) (bad prog w A R env) s₄
          else ∃ m, m < n ∧ I m s₄) (bad prog w A R env) s₃) (bad prog w A R env) s₂) (bad prog w A R env) s₁) (bad prog w A R env) s) (n : Nat) (h : I n s) :
    codeAny (model prog w) A (.compLoop (two elt t0 i0 c0 t1 i1 c1 scope pos) 1 it acc env) R s := by
  refine codeAny_loop rfl I (fun n s at_ => ?_) n h
  show wpAny _ A ((compTurn (two elt t0 i0 c0 t1 i1 c1 scope pos) 1 it acc env).onRaise (fun x => do noteFrame x env; theTreesLotGoes x)) _ _ s
  refine wpAny_noted ?_
  rw [step1]
  refine wpAny_bind (wpAny_standAt (wpAny_bind (wpAny_mono (turn n s at_) (fun r s₁ g₁ => ?_) fun _ _ z => z)))
  match r, g₁ with
  | none, g₁ => exact wpAny_pure g₁
  | some z, g₁ =>
    refine wpAny_bind (wpAny_mono g₁ (fun _ s₂ g₂ => wpAny_bind (wpAny_mono g₂ (fun _ s₃ g₃ => wpAny_bind (wpAny_mono g₃ (fun good s₄ g₄ => ?_) fun _ _ z => z)) fun _ _ z => z)) fun _ _ z => z)
    match good, g₄ with
    | false, g₄ => exact wpAny_pure ⟨rfl, g₄⟩
    | true, g₄ => exact wpAny_bind (wpAny_bind (wpAny_mono g₄ (fun y s₅ g₅ => wpAny_bind (wpAny_standAt (wpAny_bind (wpAny_mono g₅ (fun _ s₆ g₆ => wpAny_pure (wpAny_pure ⟨rfl, g₆⟩)) fun _ _ z => z)))) fun _ _ z => z))
theorem start1 (h0 : codeAny (model prog w) A (.compLoop (two elt t0 i0 c0 t1 i1 c1 scope pos) 1 it acc env) R s)
    (h : wpAny (model prog w) A (pyIter it) (fun jt s' => codeAny (model prog w) A (.compLoop (two elt t0 i0 c0 t1 i1 c1 scope pos) 1 jt acc env) R s') (bad prog w A R env) s) :
    codeAny (model prog w) A (.compStart (two elt t0 i0 c0 t1 i1 c1 scope pos) 1 it acc env) R s := by
  refine codeAny_of_tree ?_
  show wpAny _ _ ((compStart (two elt t0 i0 c0 t1 i1 c1 scope pos) 1 it acc env).onRaise (fun x => do noteFrame x env; standAt theWindowsPlace)) _ _ s
  refine wpAny_notedAt ?_
  unfold compStart
  show wpAny _ _ (ask >>= _) _ _ s
  refine wpAny_bind (wpAny_askSetting (wpAny_ite ?_))
  split
  · first
      | exact wpAny_bind (wpAny_pure (wpAny_pure (And.intro rfl h0)))
      | exact wpAny_pure (And.intro rfl h0)
  · first
      | exact wpAny_bind (wpAny_rule (wpAny_bind (wpAny_standAt (wpAny_bind (wpAny_mono h (fun _ _ z => wpAny_pure (And.intro rfl z)) fun _ _ x => x)))))
      | (refine wpAny_bind (wpAny_rule ?_); show wpAny _ _ (standAt i1.pos >>= _) _ _ s; exact wpAny_bind (wpAny_standAt (wpAny_bind (wpAny_mono h (fun _ _ z => wpAny_pure (And.intro rfl z)) fun _ _ x => x))))
end

/-- in each block that the comprehension opens -/
abbrev InB (X : Cx) (scope : Scope) (T : Cx → Prop) : Prop := ∀ (s : Shared) (H : Hp) (C : Addr) (cl : List (Str × Addr)) (fp : List Addr), T (X.blk s H scope (compEnvC scope cl C X.env) fp)
section
variable {X : Cx} {pins : List (Addr × Obj)} {s : Shared} {σ : L2.St} {H : Hp} {Q : VK} {elt t0 i0 t1 i1 : Expr} {c0 c1 : List Expr} {scope : Scope} {own : List (Str × Nat)} {vs1 : List Nat} {pos pos' : Pos} {wi wi1 : TI} {g g1 : TG} {tt tt1 : TT} {te : TE} {Qf : Value → Shared → Prop}
theorem both_core (calm : X.calm = true) (nd : X.N.Nodup) (I : Inv X pins σ H s) (pi : PI X t0 i0 wi) (ok : BlkOk X.N X.env.scope scope own) (sub : ∀ i ∈ vs1, i ∈ own.map (·.2))
    (hg : InB X scope fun Y => PG Y t0 g) (ht : InB X scope fun Y => PTs Y c0 tt) (he : InB X scope fun Y => PE Y elt te) (hi1 : InB X scope fun Y => PI Y t1 i1 wi1) (hg1 : InB X scope fun Y => PG Y t1 g1) (ht1 : InB X scope fun Y => PTs Y c1 tt1)
    (hs : ∀ x, foldedSetIterable i0 X.env x = pure x) (hs1 : ∀ env x, foldedSetIterable i1 env x = pure x) (h : tSt2 X.w wi g tt wi1 g1 tt1 te (own.map (·.2)) vs1 σ H Q)
    (done : ∀ D C s' m H', Inv X pins σ H' s' → Q (.ref D) H' → s'.heap.Ns C m → FpOk X pins H' C → compPost (model X.prog X.w) X.A X.xe none Qf (.ref D) C (.ok .next) s') :
    wpAny (model X.prog X.w) X.A (comprehension (two elt t0 i0 c0 t1 i1 c1 scope pos) scope X.env pos' (newSet (.type "set")) false (eval i0 X.env) none) Qf X.xe s := by
  have cells : ∀ y ∈ scope.names, y.2 = .free → ∃ c, X.env.cells.lookup y.1 = some c := fun y hy e => (ok.free y hy e).elim (fun k => I.ok.has _ (.inl k)) (fun k => I.ok.has _ (.inr k))
  refine wpAny_comprehension_free (use := none) rfl hs (closure_ok cells) ok.kind (fun y hy e => by rw [ok.uniq y hy, e]) (thn (pi.run pins s σ H _ I h) fun xv sA zA => thn zA fun jv sB zB => ?_)
  obtain ⟨it, fp, tn, J, H2, rfl, I2, T, st2, f2, q⟩ := zB
  refine PpSet.newSet_ok (newEnv_comp ?_)
  generalize hD : sB.heap.objs.size = D
  obtain ⟨W, ⟨m0, w0⟩, turn⟩ := q D (I2.hok.fresh (Nat.le_of_eq hD))
  -- the set, empty
  generalize hsC : ({ sB with heap := sB.heap.push { cls := .type "set", dict := none, data := .set #[] 0 (.fresh 0 0 (!X.w.params.followText "set-order")) } } : Shared) = sC
  have IC : Inv X pins σ (emptyI X.w H2 D) sC := by
    rw [← hsC]
    refine I2.laid (t' := sB.toks) (fun b o e => Heap.get?_push_of_some _ e) (Nat.le_of_eq hD) ?_
    rw [← hD]
    exact setO_new (setR_fresh X.w)
  have heapC : sC.heap = sB.heap.push { cls := .type "set", dict := none, data := .set #[] 0 (.fresh 0 0 (!X.w.params.followText "set-order")) } := by rw [← hsC]
  have fpC : ∀ b ∈ fp, FpOk X pins (emptyI X.w H2 D) b ∧ b < sC.heap.objs.size := fun b hb => by
    obtain ⟨o, e, _⟩ := T.obj _ _ st2 b hb
    have lt : b < sB.heap.objs.size := Heap.lt_size e
    refine ⟨⟨?_, (f2 b hb).2⟩, by rw [heapC, Heap.size_push]; exact Nat.lt_succ_of_lt lt⟩
    rw [emptyI, upd_ne (by rw [← hD]; exact Nat.ne_of_lt lt)]
    exact (f2 b hb).1
  have stC : tn 0 sC.heap := T.keep _ _ _ st2 fun b _ o e => by rw [heapC]; exact Heap.get?_push_of_some _ e
  have ID := block_start IC ok nd fpC
  have at_ {Z : Cx → Prop} (z : InB X scope Z) := z sC (emptyI X.w H2 D) sC.heap.objs.size (cellsFrom (sC.heap.objs.size + 1) scope.names (cloFrom X.env.cells scope.names [])) fp
  have pg := at_ hg
  have pt := at_ ht
  have pe := at_ he
  have pi1 := at_ hi1
  have pg1 := at_ hg1
  have pt1 := at_ ht1
  show codeAny _ _ (.compStart (two elt t0 i0 c0 t1 i1 c1 scope pos) 0 (.ref it) (.ref D) (compEnvC scope (cellsFrom (sC.heap.objs.size + 1) scope.names (cloFrom X.env.cells scope.names [])) sC.heap.objs.size X.env)) (compPost (model X.prog X.w) X.A X.xe none Qf (.ref D) sC.heap.objs.size) { sC with heap := pushCells (sC.heap.push { cls := .type "dict", data := .dict #[] }) scope.names }
  generalize hce : compEnvC scope (cellsFrom (sC.heap.objs.size + 1) scope.names (cloFrom X.env.cells scope.names [])) sC.heap.objs.size X.env = ce at ID pg pt pe pi1 pg1 pt1 ⊢
  have ceL : ce.locals = sC.heap.objs.size := by subst hce; rfl
  generalize hHC : emptyI X.w H2 D = HC at IC ID pg pt pe pi1 pg1 pt1 w0 fpC
  generalize hsD : ({ sC with heap := pushCells (sC.heap.push { cls := .type "dict", data := .dict #[] }) scope.names } : Shared) = sD at ID ⊢
  have stD : tn 0 sD.heap := T.keep _ _ _ stC fun b _ o e => by rw [← hsD]; exact pushCells_keeps _ _ _ _ (Heap.get?_push_of_some _ e)
  have still : ∀ {σ' : L2.St} {H' : Hp} {s' : Shared}, Inv (X.blk sC HC scope ce fp) [] σ' H' s' → (∀ b ∈ fp, H' b = none) → ∀ b ∈ fp, FpOk (X.blk sC HC scope ce fp) [] H' b := fun {σ' H' s'} I' none' b hb =>
    ⟨none' b hb, (I'.ok.exf b hb).1, I'.ok.exfs b hb, .inl hb, fun x c e => (I'.ok.exf b hb).2 x c e, fun p hp => absurd (show p ∈ ([] : List (Addr × Obj)) ++ [] from hp) (by simp)⟩
  have outer : codeAny (model X.prog X.w) X.A (.compLoop (two elt t0 i0 c0 t1 i1 c1 scope pos) 0 (.ref it) (.ref D) ce) (compPost (model X.prog X.w) X.A X.xe none Qf (.ref D) sC.heap.objs.size) sD := by
    refine loop0 (hs1 ce) (fun n s' => ∃ i H', Inv (X.blk sC HC scope ce fp) [] (wipe σ (own.map (·.2))) H' s' ∧ tn i s'.heap ∧ (∀ b ∈ fp, H' b = none) ∧ W i n H') ?_ m0 ⟨0, HC, ID, stD, fun b hb => (fpC b hb).1.1, w0⟩
    rintro n s5 ⟨i, H5, I5, st5, n5, w5⟩
    rcases turn i n H5 w5 with ⟨stop, fin⟩ | ⟨go, Nx, less, step⟩
    · refine thnF (T.done (X.blk sC HC scope ce fp) rfl rfl rfl calm i [] s5 _ H5 (fun _ _ => False) I5 (still I5 n5) st5 stop) fun r s6 ⟨hr, I6⟩ => ?_
      subst hr
      have I7 : Inv X pins σ H5 s6 := IC.call' (ch := fp) I6.os I6.base I6.hok I6.bare fun b hb => ⟨(fpC b hb).1.2.2.2.1, (fpC b hb).1.2.1, (fpC b hb).1.2.2.2.2.1, (fpC b hb).1.2.2.2.2.2⟩
      have free6 : H5 ce.locals = none := I6.free
      rw [ceL] at free6
      obtain ⟨m, names, _⟩ := I6.loc
      have names : s6.heap.Ns ce.locals m := names
      rw [ceL] at names
      exact done D sC.heap.objs.size s6 m H5 I7 fin names (IC.fpOk (Nat.le_refl _) free6)
    · refine thnF (T.item (X.blk sC HC scope ce fp) rfl rfl rfl calm i [] s5 _ H5 (fun _ _ => False) I5 (still I5 n5) st5 go) fun r s6 ⟨u, hr, h6⟩ => ?_
      subst hr
      refine thnF h6 fun _ s7 ⟨x, H7, I7, r7, y7, st7, n7⟩ => ?_
      refine thnF (pg.run _ s7 _ H7 x u _ (I7.pinned (still I7 n7) (T.obj _ _ st7)) r7 (step x H7 y7)) fun _ s8 ⟨σ8, H8, I8, w8, q8⟩ => ?_
      refine thnF (pt.run _ s8 σ8 H8 _ I8 q8) fun b s9 ⟨H9, I9, q9⟩ => ?_
      have again : ∀ {σ9 : L2.St} {s' : Shared} {H' : Hp}, Inv (X.blk sC HC scope ce fp) ([] ++ pinsAt fp s7.heap) σ9 H' s' → (wipe σ (own.map (·.2))).length = σ9.length → (∀ (j : Nat) v, (wipe σ (own.map (·.2)))[j]? = some (some v) → σ9[j]? = some (some v)) → Nx H' →
          ∃ m, m < n ∧ ∃ i H', Inv (X.blk sC HC scope ce fp) [] (wipe σ (own.map (·.2))) H' s' ∧ tn i s'.heap ∧ (∀ b ∈ fp, H' b = none) ∧ W i m H' := fun {σ9 s' H'} I' len keep nx => by
        obtain ⟨m', lt, w'⟩ := less H' nx
        have pinned' : ∀ b ∈ fp, ∀ o, s7.heap.get? b = some o → s'.heap.get? b = some o ∧ H' b = none := fun b hb o e =>
          have z := I'.pin (b, o) (List.mem_append_right _ (List.mem_append_right _ (mem_pinsAt hb e)))
          ⟨z.1, z.2.1⟩
        refine ⟨m', lt, i + 1, H', (I'.unpinned (pins := [])).weak len keep, T.keep _ _ _ st7 fun b hb o e => (pinned' b hb o e).1, fun b hb => ?_, w'⟩
        obtain ⟨o, e, _⟩ := T.obj _ _ st7 b hb
        exact (pinned' b hb o e).2
      have len8 : (wipe σ (own.map (·.2))).length = σ8.length := by rw [← w8, wipe_length]
      have keep8 : ∀ (j : Nat) v, (wipe σ (own.map (·.2)))[j]? = some (some v) → σ8[j]? = some (some v) := fun j v e => by
        rw [← w8] at e
        exact (wipe_some e).1
      have keep9 : ∀ (j : Nat) v, (wipe σ (own.map (·.2)))[j]? = some (some v) → (wipe σ8 vs1)[j]? = some (some v) := fun j v e => by
        rw [← w8] at e
        obtain ⟨e1, e2⟩ := wipe_some e
        rw [wipe_out fun z => e2 (sub j z)]
        exact e1
      match b, q9 with
      | false, q9 => exact again I9 len8 keep8 (by rwa [if_neg Bool.false_ne_true] at q9)
      | true, q9 =>
        rw [if_pos rfl] at q9
        rw [if_pos rfl]
        refine thnF (pi1.run _ s9 σ8 H9 _ I9 q9) fun xv sE hx => thnF hx fun jv sF zF => ?_
        obtain ⟨jt, fp1, tn1, J1, HF, rfl, IF, T1, stF, fF, W1, ⟨m1, w1⟩, turn1⟩ := zF
        have still1 : ∀ {H' : Hp}, (∀ b ∈ fp1, H' b = none) → ∀ b ∈ fp1, FpOk (X.blk sC HC scope ce fp) ([] ++ pinsAt fp s7.heap) H' b := fun none' b hb => ⟨none' b hb, (fF b hb).2⟩
        have inner : codeAny (model X.prog X.w) X.A (.compLoop (two elt t0 i0 c0 t1 i1 c1 scope pos) 1 (.ref jt) (.ref D) ce)
            (fun r s' => match r with
              | .ok _ => ∃ m, m < n ∧ ∃ i H', Inv (X.blk sC HC scope ce fp) [] (wipe σ (own.map (·.2))) H' s' ∧ tn i s'.heap ∧ (∀ b ∈ fp, H' b = none) ∧ W i m H'
              | .error _ => False) sF := by
          refine loop1 (fun k s' => ∃ j H', Inv (X.blk sC HC scope ce fp) ([] ++ pinsAt fp s7.heap) (wipe σ8 vs1) H' s' ∧ tn1 j s'.heap ∧ (∀ b ∈ fp1, H' b = none) ∧ W1 j k H') ?_ m1 ⟨0, HF, IF.weak (wipe_length _ _) (fun j v e => (wipe_some e).1), stF, fun b hb => (fF b hb).1, w1⟩
          rintro k sG ⟨j, HG, IG, stG, nG, wG⟩
          rcases turn1 j k HG wG with ⟨stop1, nx1⟩ | ⟨go1, Nx1, less1, step1⟩
          · refine thnF (T1.done (X.blk sC HC scope ce fp) rfl rfl rfl calm j _ sG (wipe σ8 vs1) HG (fun _ _ => False) IG (still1 nG) stG stop1) fun r sK ⟨hr, IK⟩ => ?_
            subst hr
            exact again IK (len8.trans (wipe_length σ8 vs1).symm) keep9 nx1
          · refine thnF (T1.item (X.blk sC HC scope ce fp) rfl rfl rfl calm j _ sG (wipe σ8 vs1) HG (fun _ _ => False) IG (still1 nG) stG go1) fun r sK ⟨u1, hr, zK⟩ => ?_
            subst hr
            refine thnF zK fun _ sL ⟨x1, HL, IL, rL, yL, stL, nL⟩ => ?_
            refine thnF (pg1.run _ sL (wipe σ8 vs1) HL x1 u1 _ (IL.pinned (still1 nL) (T1.obj _ _ stL)) rL (step1 x1 HL yL)) fun _ sM ⟨σM, HM, IM, wM, qM⟩ => ?_
            refine thnF (pt1.run _ sM σM HM _ IM qM) fun b1 sN ⟨HN, IN, qN⟩ => ?_
            have again1 : ∀ {s' : Shared} {H' : Hp}, Inv (X.blk sC HC scope ce fp) (([] ++ pinsAt fp s7.heap) ++ pinsAt fp1 sL.heap) σM H' s' → Nx1 H' → ∃ m, m < k ∧ ∃ j H', Inv (X.blk sC HC scope ce fp) ([] ++ pinsAt fp s7.heap) (wipe σ8 vs1) H' s' ∧ tn1 j s'.heap ∧ (∀ b ∈ fp1, H' b = none) ∧ W1 j m H' := fun {s' H'} I' nx => by
              obtain ⟨m', lt, w'⟩ := less1 H' nx
              have pinned' : ∀ b ∈ fp1, ∀ o, sL.heap.get? b = some o → s'.heap.get? b = some o ∧ H' b = none := fun b hb o e =>
                have z := I'.pin (b, o) (List.mem_append_right _ (List.mem_append_right _ (mem_pinsAt hb e)))
                ⟨z.1, z.2.1⟩
              refine ⟨m', lt, j + 1, H', I'.unpinned.weak (by rw [← wM, wipe_length]) (fun j v e => by rw [← wM] at e; exact (wipe_some e).1), T1.keep _ _ _ stL fun b hb o e => (pinned' b hb o e).1, fun b hb => ?_, w'⟩
              obtain ⟨o, e, _⟩ := T1.obj _ _ stL b hb
              exact (pinned' b hb o e).2
            match b1, qN with
            | false, qN => exact again1 IN (by rwa [if_neg Bool.false_ne_true] at qN)
            | true, qN =>
              rw [if_pos rfl] at qN
              rw [if_pos rfl]
              refine thnF (pe.run _ sN σM HN _ IN qN) fun z sO ⟨yv, HO, IO, rO, mm, S, cnt, ey, atD, room, nx⟩ => ?_
              subst ey
              obtain ⟨t, rfl⟩ := rO
              exact plus_ok (X := X.blk sC HC scope ce fp) IO atD room fun sP IP => again1 IP nx
        exact start1 inner (T1.self X.A 0 _ _ _ stF inner)
  exact PpSet.codeAny_compStart_set outer (T.self X.A 0 _ _ _ stD outer)
theorem one_core (calm : X.calm = true) (nd : X.N.Nodup) (I : Inv X pins σ H s) (pi : PI X t0 i0 wi) (ok : BlkOk X.N X.env.scope scope own) (hg : InB X scope fun Y => PG Y t0 g) (ht : InB X scope fun Y => PTs Y c0 tt) (he : InB X scope fun Y => PE Y elt te)
    (hs : ∀ x, foldedSetIterable i0 X.env x = pure x) (h : tSt1 X.w wi g tt te (own.map (·.2)) σ H Q)
    (done : ∀ D C s' m H', Inv X pins σ H' s' → Q (.ref D) H' → s'.heap.Ns C m → FpOk X pins H' C → compPost (model X.prog X.w) X.A X.xe none Qf (.ref D) C (.ok .next) s') :
    wpAny (model X.prog X.w) X.A (comprehension (.SetComp elt [⟨t0, i0, c0, 0⟩] scope pos) scope X.env pos' (newSet (.type "set")) false (eval i0 X.env) none) Qf X.xe s := by
  have cells : ∀ y ∈ scope.names, y.2 = .free → ∃ c, X.env.cells.lookup y.1 = some c := fun y hy e => (ok.free y hy e).elim (fun k => I.ok.has _ (.inl k)) (fun k => I.ok.has _ (.inr k))
  refine wpAny_comprehension_free (use := none) rfl hs (closure_ok cells) ok.kind (fun y hy e => by rw [ok.uniq y hy, e]) (thn (pi.run pins s σ H _ I h) fun xv sA zA => thn zA fun jv sB zB => ?_)
  obtain ⟨it, fp, tn, J, H2, rfl, I2, T, st2, f2, q⟩ := zB
  refine PpSet.newSet_ok (newEnv_comp ?_)
  generalize hD : sB.heap.objs.size = D
  obtain ⟨W, ⟨m0, w0⟩, turn⟩ := q D (I2.hok.fresh (Nat.le_of_eq hD))
  generalize hsC : ({ sB with heap := sB.heap.push { cls := .type "set", dict := none, data := .set #[] 0 (.fresh 0 0 (!X.w.params.followText "set-order")) } } : Shared) = sC
  have IC : Inv X pins σ (emptyI X.w H2 D) sC := by
    rw [← hsC]
    refine I2.laid (t' := sB.toks) (fun b o e => Heap.get?_push_of_some _ e) (Nat.le_of_eq hD) ?_
    rw [← hD]
    exact setO_new (setR_fresh X.w)
  have heapC : sC.heap = sB.heap.push { cls := .type "set", dict := none, data := .set #[] 0 (.fresh 0 0 (!X.w.params.followText "set-order")) } := by rw [← hsC]
  have fpC : ∀ b ∈ fp, FpOk X pins (emptyI X.w H2 D) b ∧ b < sC.heap.objs.size := fun b hb => by
    obtain ⟨o, e, _⟩ := T.obj _ _ st2 b hb
    have lt : b < sB.heap.objs.size := Heap.lt_size e
    refine ⟨⟨?_, (f2 b hb).2⟩, by rw [heapC, Heap.size_push]; exact Nat.lt_succ_of_lt lt⟩
    rw [emptyI, upd_ne (by rw [← hD]; exact Nat.ne_of_lt lt)]
    exact (f2 b hb).1
  have stC : tn 0 sC.heap := T.keep _ _ _ st2 fun b _ o e => by rw [heapC]; exact Heap.get?_push_of_some _ e
  have ID := block_start IC ok nd fpC
  have at_ {Z : Cx → Prop} (z : InB X scope Z) := z sC (emptyI X.w H2 D) sC.heap.objs.size (cellsFrom (sC.heap.objs.size + 1) scope.names (cloFrom X.env.cells scope.names [])) fp
  have pg := at_ hg
  have pt := at_ ht
  have pe := at_ he
  show codeAny _ _ (.compStart (.SetComp elt [⟨t0, i0, c0, 0⟩] scope pos) 0 (.ref it) (.ref D) (compEnvC scope (cellsFrom (sC.heap.objs.size + 1) scope.names (cloFrom X.env.cells scope.names [])) sC.heap.objs.size X.env)) (compPost (model X.prog X.w) X.A X.xe none Qf (.ref D) sC.heap.objs.size) { sC with heap := pushCells (sC.heap.push { cls := .type "dict", data := .dict #[] }) scope.names }
  generalize hce : compEnvC scope (cellsFrom (sC.heap.objs.size + 1) scope.names (cloFrom X.env.cells scope.names [])) sC.heap.objs.size X.env = ce at ID pg pt pe ⊢
  have ceL : ce.locals = sC.heap.objs.size := by subst hce; rfl
  generalize hHC : emptyI X.w H2 D = HC at IC ID pg pt pe w0 fpC
  generalize hsD : ({ sC with heap := pushCells (sC.heap.push { cls := .type "dict", data := .dict #[] }) scope.names } : Shared) = sD at ID ⊢
  have stD : tn 0 sD.heap := T.keep _ _ _ stC fun b _ o e => by rw [← hsD]; exact pushCells_keeps _ _ _ _ (Heap.get?_push_of_some _ e)
  have still : ∀ {σ' : L2.St} {H' : Hp} {s' : Shared}, Inv (X.blk sC HC scope ce fp) [] σ' H' s' → (∀ b ∈ fp, H' b = none) → ∀ b ∈ fp, FpOk (X.blk sC HC scope ce fp) [] H' b := fun {σ' H' s'} I' none' b hb =>
    ⟨none' b hb, (I'.ok.exf b hb).1, I'.ok.exfs b hb, .inl hb, fun x c e => (I'.ok.exf b hb).2 x c e, fun p hp => absurd (show p ∈ ([] : List (Addr × Obj)) ++ [] from hp) (by simp)⟩
  have only : codeAny (model X.prog X.w) X.A (.compLoop (.SetComp elt [⟨t0, i0, c0, 0⟩] scope pos) 0 (.ref it) (.ref D) ce) (compPost (model X.prog X.w) X.A X.xe none Qf (.ref D) sC.heap.objs.size) sD := by
    refine PpSet.compLoopS_any (fun n s' => ∃ i H', Inv (X.blk sC HC scope ce fp) [] (wipe σ (own.map (·.2))) H' s' ∧ tn i s'.heap ∧ (∀ b ∈ fp, H' b = none) ∧ W i n H') ?_ m0 ⟨0, HC, ID, stD, fun b hb => (fpC b hb).1.1, w0⟩
    rintro n s5 ⟨i, H5, I5, st5, n5, w5⟩
    rcases turn i n H5 w5 with ⟨stop, fin⟩ | ⟨go, Nx, less, step⟩
    · refine thnF (T.done (X.blk sC HC scope ce fp) rfl rfl rfl calm i [] s5 _ H5 (fun _ _ => False) I5 (still I5 n5) st5 stop) fun r s6 ⟨hr, I6⟩ => ?_
      subst hr
      have I7 : Inv X pins σ H5 s6 := IC.call' (ch := fp) I6.os I6.base I6.hok I6.bare fun b hb => ⟨(fpC b hb).1.2.2.2.1, (fpC b hb).1.2.1, (fpC b hb).1.2.2.2.2.1, (fpC b hb).1.2.2.2.2.2⟩
      have free6 : H5 ce.locals = none := I6.free
      rw [ceL] at free6
      obtain ⟨m, names, _⟩ := I6.loc
      have names : s6.heap.Ns ce.locals m := names
      rw [ceL] at names
      exact done D sC.heap.objs.size s6 m H5 I7 fin names (IC.fpOk (Nat.le_refl _) free6)
    · refine thnF (T.item (X.blk sC HC scope ce fp) rfl rfl rfl calm i [] s5 _ H5 (fun _ _ => False) I5 (still I5 n5) st5 go) fun r s6 ⟨u, hr, h6⟩ => ?_
      subst hr
      refine thnF h6 fun _ s7 ⟨x, H7, I7, r7, y7, st7, n7⟩ => ?_
      refine thnF (pg.run _ s7 _ H7 x u _ (I7.pinned (still I7 n7) (T.obj _ _ st7)) r7 (step x H7 y7)) fun _ s8 ⟨σ8, H8, I8, w8, q8⟩ => ?_
      refine thnF (pt.run _ s8 σ8 H8 _ I8 q8) fun b s9 ⟨H9, I9, q9⟩ => ?_
      have again : ∀ {s' : Shared} {H' : Hp}, Inv (X.blk sC HC scope ce fp) ([] ++ pinsAt fp s7.heap) σ8 H' s' → Nx H' → ∃ m, m < n ∧ ∃ i H', Inv (X.blk sC HC scope ce fp) [] (wipe σ (own.map (·.2))) H' s' ∧ tn i s'.heap ∧ (∀ b ∈ fp, H' b = none) ∧ W i m H' := fun {s' H'} I' nx => by
        obtain ⟨m', lt, w'⟩ := less H' nx
        have pinned' : ∀ b ∈ fp, ∀ o, s7.heap.get? b = some o → s'.heap.get? b = some o ∧ H' b = none := fun b hb o e =>
          have z := I'.pin (b, o) (List.mem_append_right _ (List.mem_append_right _ (mem_pinsAt hb e)))
          ⟨z.1, z.2.1⟩
        refine ⟨m', lt, i + 1, H', (I'.unpinned (pins := [])).weak (by rw [← w8, wipe_length]) (fun j v e => by rw [← w8] at e; exact (wipe_some e).1), T.keep _ _ _ st7 fun b hb o e => (pinned' b hb o e).1, fun b hb => ?_, w'⟩
        obtain ⟨o, e, _⟩ := T.obj _ _ st7 b hb
        exact (pinned' b hb o e).2
      match b, q9 with
      | false, q9 => exact again I9 (by rwa [if_neg Bool.false_ne_true] at q9)
      | true, q9 =>
        rw [if_pos rfl] at q9
        rw [if_pos rfl]
        refine thnF (pe.run _ s9 σ8 H9 _ I9 q9) fun z sO ⟨yv, HO, IO, rO, mm, S, cnt, ey, atD, room, nx⟩ => ?_
        subst ey
        obtain ⟨t, rfl⟩ := rO
        exact plus_ok (X := X.blk sC HC scope ce fp) IO atD room fun sP IP => again IP nx
  exact PpSet.codeAny_compStart_set only (T.self X.A 0 _ _ _ stD only)
theorem pe_st2 (calm : X.calm = true) (nd : X.N.Nodup) (pi : PI X t0 i0 wi) (ok : BlkOk X.N X.env.scope scope own) (sub : ∀ i ∈ vs1, i ∈ own.map (·.2))
    (hg : InB X scope fun Y => PG Y t0 g) (ht : InB X scope fun Y => PTs Y c0 tt) (hi1 : InB X scope fun Y => PI Y t1 i1 wi1) (hg1 : InB X scope fun Y => PG Y t1 g1) (ht1 : InB X scope fun Y => PTs Y c1 tt1) (he : InB X scope fun Y => PE Y elt te)
    (hs : ∀ x, foldedSetIterable i0 X.env x = pure x := by intro _; rfl) (hs1 : ∀ env x, foldedSetIterable i1 env x = pure x := by intro _ _; rfl) :
    PE X (.SetComp elt [⟨t0, i0, c0, 0⟩, ⟨t1, i1, c1, 0⟩] scope pos) (tSt2 X.w wi g tt wi1 g1 tt1 te (own.map (·.2)) vs1) := by
  refine ⟨fun pins s σ H Q I h => ?_⟩
  rw [PpSet.eval_SetComp]
  refine both_core calm nd I pi ok sub hg ht he hi1 hg1 ht1 hs hs1 h fun D C s' m H' I' q names ⟨f0, f1, f2, f3, f4, f5⟩ => ⟨m, names, fun h'' sb => ?_⟩
  exact ⟨.ref D, H', I'.turned (t' := s'.toks) (fun b o hb e => (sb.2 b hb).trans e) f0 f1 f3 f4 f5, rfl, q⟩
theorem pe_st1 (calm : X.calm = true) (nd : X.N.Nodup) (pi : PI X t0 i0 wi) (ok : BlkOk X.N X.env.scope scope own) (hg : InB X scope fun Y => PG Y t0 g) (ht : InB X scope fun Y => PTs Y c0 tt) (he : InB X scope fun Y => PE Y elt te)
    (hs : ∀ x, foldedSetIterable i0 X.env x = pure x := by intro _; rfl) : PE X (.SetComp elt [⟨t0, i0, c0, 0⟩] scope pos) (tSt1 X.w wi g tt te (own.map (·.2))) := by
  refine ⟨fun pins s σ H Q I h => ?_⟩
  rw [PpSet.eval_SetComp]
  refine one_core calm nd I pi ok hg ht he hs h fun D C s' m H' I' q names ⟨f0, f1, f2, f3, f4, f5⟩ => ⟨m, names, fun h'' sb => ?_⟩
  exact ⟨.ref D, H', I'.turned (t' := s'.toks) (fun b o hb e => (sb.2 b hb).trans e) f0 f1 f3 f4 f5, rfl, q⟩
end
end ScI
namespace DW
open PySem PySem.Spec PyProof.Rows L2
variable [Tabl]
/-! ### sorted({e for .. if ..}), sorted({e for .. for .. if ..}) of ints -/
def putI (m : Int) (acc : List Int) : List Int := if m ∈ acc then acc else acc ++ [m]
theorem mem_putI {m j : Int} {acc : List Int} : j ∈ putI m acc ↔ j ∈ acc ∨ j = m := by
  unfold putI
  by_cases h : m ∈ acc
  · rw [if_pos h]
    exact ⟨.inl, fun z => z.elim id fun e => e ▸ h⟩
  · rw [if_neg h, List.mem_append, List.mem_singleton]
theorem putI_nodup {m : Int} {acc : List Int} (h : acc.Nodup) : (putI m acc).Nodup := by
  unfold putI
  by_cases z : m ∈ acc
  · rw [if_pos z]
    exact h
  · rw [if_neg z, List.nodup_append]
    refine ⟨h, List.pairwise_singleton _ _, fun a ha b hb => ?_⟩
    rw [List.mem_singleton] at hb
    subst hb
    exact fun e => z (e ▸ ha)
theorem pl_setO {w : World} {a : Addr} {S : Int → Bool} {n : Nat} : Pl (SetO w a S n) := fun c q => ScI.set_not_code c q
/-- the set at D, of these ints -/
abbrev SetL (w : World) (D : Addr) (acc : List Int) : HO := SetO w D (fun j => decide (j ∈ acc)) acc.length
theorem set_put {w : World} {D : Addr} {m : Int} {acc : List Int} : SetO w D (fun j => decide (j ∈ acc) || decide (j = m)) (if decide (m ∈ acc) = true then acc.length else acc.length + 1) = SetL w D (putI m acc) := by
  have e1 : (fun j => decide (j ∈ acc) || decide (j = m)) = fun j => decide (j ∈ putI m acc) := by
    funext j
    by_cases a : j ∈ acc <;> by_cases b : j = m <;> simp [mem_putI, a, b]
  have e2 : (if decide (m ∈ acc) = true then acc.length else acc.length + 1) = (putI m acc).length := by
    unfold putI
    by_cases h : m ∈ acc <;> simp [h]
  unfold SetL
  rw [e1, e2]
theorem set_nil {w : World} {D : Addr} : SetO w D (fun _ => false) 0 = SetL w D [] := by
  unfold SetL
  have e : (fun (_ : Int) => false) = fun j => decide (j ∈ ([] : List Int)) := by
    funext j
    simp
  rw [← e]
  rfl
section
variable {K : PySem.W.Frag} {δ : Nm} {te : TE} {w : World} {R : Dt → Prop} {tt : TT}
/-- the sorted list of a set that lies at D -/
theorem q_sortedSet {ω : Wd} {G H : Hp} {Q : VK} {D : Addr} {acc : List Int} (k : Ok ω G H) (h : H D = some (SetL w D acc)) (few : acc.length < 64) (q : ∀ v d G' H', Same G G' → Ok ω G' H' → Rp K G' v d → R d → Q v H')
    (r : ∀ ms : List Int, ms.Pairwise (· < ·) → (∀ j, j ∈ ms ↔ j ∈ acc) → R (.list (ms.map .int))) : rSortedSet w [V.ref D] H Q :=
  ⟨D, _, _, rfl, h, few, fun ms p pw mem _ hp => q_lst k (RpAll.of_ints ms) q (r ms pw fun j => by rw [mem j]; exact decide_eq_true_iff) p hp⟩
theorem w_sortedSt1 {wi : TI} {g : TG} {vs : List Nat} (gin : GIn g vs) (gm : GMono g)
    (h : WI K wi δ fun xs => xs.length ≤ 4000 ∧ ∃ P : Nat → List Int → Prop, P 0 [] ∧
      (∀ i x acc, xs[i]? = some x → P i acc → WGt K g x (wipeE (δ.map blind) vs) fun δ2 => WT K tt δ2 fun b => if b = true then W K te δ2 (fun y => ∃ m, y = .int m ∧ P (i + 1) (putI m acc)) else P (i + 1) acc) ∧
      ∀ acc, acc.Nodup → P xs.length acc → acc.length < 64 ∧ ∀ ms : List Int, ms.Pairwise (· < ·) → (∀ j, j ∈ ms ↔ j ∈ acc) → R (.list (ms.map .int))) :
    W K (tCB (rSortedSet w) (tCons (ScI.tSt1 w wi g tt te vs) tNil)) δ R := fun ω σ G H Q e k q => h ω σ G H _ e k fun J xs G1 H1 g1 k1 gv ⟨hz, P, p0, turn, done⟩ D hD => by
  have hg := k1.1.free hD
  have ap := k1.apart hD
  refine ⟨fun i m H' => m = xs.length - i ∧ i ≤ xs.length ∧ ∃ G' acc, Same G1 G' ∧ Ok ω G' H' ∧ G' D = none ∧ H' D = some (SetL w D acc) ∧ acc.Nodup ∧ acc.length ≤ i ∧ P i acc,
    ⟨_, rfl, Nat.zero_le _, G1, [], Same.refl _, k1.put hg ap, hg, by rw [ScI.emptyI, upd_same, set_nil], List.nodup_nil, Nat.zero_le _, p0⟩, ?_⟩
  rintro i m H' ⟨rfl, hi, G', acc, g', k', d1, d2, nd, hl, p⟩
  by_cases hlt : i < xs.length
  · have hx : xs[i]? = some xs[i] := List.getElem?_eq_getElem hlt
    have kD : Ok ((D, fun o => o = SetL w D acc) :: ω) G' H' := k'.push d1 d2 rfl ap (pl := pl_setO)
    obtain ⟨go, yl⟩ := (gv _ G' H' i g' kD).2 _ hx
    refine .inr ⟨go, fun H2 => ∃ G2 acc, Same G1 G2 ∧ Ok ω G2 H2 ∧ G2 D = none ∧ H2 D = some (SetL w D acc) ∧ acc.Nodup ∧ acc.length ≤ i + 1 ∧ P (i + 1) acc, fun H2 ⟨G2, acc2, z⟩ => ⟨xs.length - (i + 1), by omega, rfl, hlt, G2, acc2, z⟩, fun v H3 y => ?_⟩
    obtain ⟨G3, g3, k3, rv⟩ := yl v H3 y
    have e3 : EnvE K ((D, fun o => o = SetL w D acc) :: ω) G3 (wipeE (δ.map blind) vs) (wipe σ vs) := (((env_blind (e.mono ((g1.trans g').trans g3))).wipe vs).more fun q hq => List.mem_cons_of_mem _ hq)
    have s3 : Std K ((D, fun o => o = SetL w D acc) :: ω) G3 H3 (wipeE (δ.map blind) vs) (wipe σ vs) := ⟨e3, k3, fun j ds hj => (blind_own hj).elim, fun j l ds es hj _ => (blind_own hj).elim⟩
    refine gm v _ H3 _ _ (gin v _ H3 _ (turn i _ acc hx p _ (wipe σ vs) G3 H3 v (fun σ2 H2 => H2 = H3 ∧ ∃ δ2, Std K ((D, fun o => o = SetL w D acc) :: ω) G3 H3 δ2 σ2 ∧ WT K tt δ2 fun b => if b = true then W K te δ2 (fun y => ∃ m, y = .int m ∧ P (i + 1) (putI m acc)) else P (i + 1) acc) s3 rv fun σ2 δ2 s2 h2 => ⟨rfl, δ2, s2, h2⟩)) fun σ2 H2 ⟨w2, e2, δ2, s2, h2⟩ => ⟨w2.trans (wipe2 σ vs), ?_⟩
    subst e2
    refine h2 _ σ2 G3 H2 _ s2.env s2.ok fun b b' G4 H4 g4 k4 eb h4 => ?_
    subst eb
    cases b with
    | true =>
      rw [if_pos rfl] at h4 ⊢
      refine h4 _ σ2 G4 H4 _ (s2.env.mono g4) k4 fun y d G5 H5 g5 k5 r5 ⟨mm, ed, p5⟩ => ?_
      subst ed
      obtain ⟨k6, f1, ⟨o, f2, f3⟩, f4⟩ := k5.pop
      have f3' : o = SetL w D acc := f3
      subst f3'
      refine ⟨mm, _, _, r5.int_inv, f2, by unfold scanBound; omega, G5, putI mm acc, (((g'.trans g3).trans g4).trans g5), k6.put f1 f4 (hp := pl_at f2 pl_setO), f1, by rw [upd_same, set_put], putI_nodup nd, ?_, p5⟩
      unfold putI
      split
      · omega
      · rw [List.length_append]
        show acc.length + 1 ≤ _
        omega
    | false =>
      rw [if_neg Bool.false_ne_true] at h4 ⊢
      obtain ⟨k6, f1, ⟨o, f2, f3⟩, f4⟩ := k4.pop
      have f3' : o = SetL w D acc := f3
      subst f3'
      exact ⟨G4, acc, ((g'.trans g3).trans g4), k6, f1, f2, nd, by omega, h4⟩
  · have e1 : i = xs.length := by omega
    subst e1
    obtain ⟨few, r⟩ := done acc nd p
    exact .inl ⟨(gv ω G' H' _ g' k').1 rfl, q_sortedSet k' d2 few (fun v d G2 H2 g2 => q v d G2 H2 ((g1.trans g').trans g2)) r⟩
theorem w_sortedSt2 {wi wi1 : TI} {g : TG} {vs vs1 : List Nat} {l : Nat} (gin : GIn g vs) (gm : GMono g) (hl1 : l ∈ vs1)
    (h : WI K wi δ fun xs => xs.length ≤ 60 ∧ ∃ P : Nat → List Int → Prop, P 0 [] ∧
      (∀ i x acc, xs[i]? = some x → P i acc → WGt K g x (wipeE (δ.map blind) vs) fun δ2 => WI K wi1 δ2 fun ys => ys.length ≤ 60 ∧ ∃ P1 : Nat → List Int → Prop, P1 0 acc ∧
        (∀ k y a, ys[k]? = some y → P1 k a → WT K tt ((wipeE δ2 vs1).set l (.dat y)) fun b => if b = true then W K te ((wipeE δ2 vs1).set l (.dat y)) (fun z => ∃ m, z = .int m ∧ P1 (k + 1) (putI m a)) else P1 (k + 1) a) ∧ ∀ a, P1 ys.length a → P (i + 1) a) ∧
      ∀ acc, acc.Nodup → P xs.length acc → acc.length < 64 ∧ ∀ ms : List Int, ms.Pairwise (· < ·) → (∀ j, j ∈ ms ↔ j ∈ acc) → R (.list (ms.map .int))) :
    W K (tCB (rSortedSet w) (tCons (ScI.tSt2 w wi g tYes wi1 (gName l) tt te vs vs1) tNil)) δ R := fun ω σ G H Q e k q => h ω σ G H _ e k fun J xs G1 H1 g1 k1 gv ⟨hz, P, p0, turn, done⟩ D hD => by
  have hg := k1.1.free hD
  have ap := k1.apart hD
  refine ⟨fun i m H' => m = xs.length - i ∧ i ≤ xs.length ∧ ∃ G' acc, Same G1 G' ∧ Ok ω G' H' ∧ G' D = none ∧ H' D = some (SetL w D acc) ∧ acc.Nodup ∧ acc.length ≤ i * 60 ∧ P i acc,
    ⟨_, rfl, Nat.zero_le _, G1, [], Same.refl _, k1.put hg ap, hg, by rw [ScI.emptyI, upd_same, set_nil], List.nodup_nil, Nat.zero_le _, p0⟩, ?_⟩
  rintro i m H' ⟨rfl, hi, G', acc, g', k', d1, d2, nd, hl, p⟩
  by_cases hlt : i < xs.length
  · have hx : xs[i]? = some xs[i] := List.getElem?_eq_getElem hlt
    have kD : Ok ((D, fun o => o = SetL w D acc) :: ω) G' H' := k'.push d1 d2 rfl ap (pl := pl_setO)
    obtain ⟨go, yl⟩ := (gv _ G' H' i g' kD).2 _ hx
    refine .inr ⟨go, fun H2 => ∃ G2 acc, Same G1 G2 ∧ Ok ω G2 H2 ∧ G2 D = none ∧ H2 D = some (SetL w D acc) ∧ acc.Nodup ∧ acc.length ≤ (i + 1) * 60 ∧ P (i + 1) acc, fun H2 ⟨G2, acc2, z⟩ => ⟨xs.length - (i + 1), by omega, rfl, hlt, G2, acc2, z⟩, fun v H3 y => ?_⟩
    obtain ⟨G3, g3, k3, rv⟩ := yl v H3 y
    have k3' : Ok ω G3 H3 := k3.pop.1
    have e3 : EnvE K ω G3 (wipeE (δ.map blind) vs) (wipe σ vs) := (env_blind (e.mono ((g1.trans g').trans g3))).wipe vs
    have s3 : Std K ω G3 H3 (wipeE (δ.map blind) vs) (wipe σ vs) := ⟨e3, k3', fun j ds hj => (blind_own hj).elim, fun j l ds es hj _ => (blind_own hj).elim⟩
    refine gm v _ H3 _ _ (gin v _ H3 _ (turn i _ acc hx p _ (wipe σ vs) G3 H3 v (fun σ2 H2 => H2 = H3 ∧ ∃ δ2, Std K ω G3 H3 δ2 σ2 ∧ WI K wi1 δ2 fun ys => ys.length ≤ 60 ∧ ∃ P1 : Nat → List Int → Prop, P1 0 acc ∧
        (∀ k y a, ys[k]? = some y → P1 k a → WT K tt ((wipeE δ2 vs1).set l (.dat y)) fun b => if b = true then W K te ((wipeE δ2 vs1).set l (.dat y)) (fun z => ∃ m, z = .int m ∧ P1 (k + 1) (putI m a)) else P1 (k + 1) a) ∧ ∀ a, P1 ys.length a → P (i + 1) a) s3 rv fun σ2 δ2 s2 h2 => ⟨rfl, δ2, s2, h2⟩)) fun σ2 H2 ⟨w2, e2, δ2, s2, h2⟩ => ⟨w2.trans (wipe2 σ vs), ?_⟩
    subst e2
    dsimp only [tYes]
    rw [if_pos rfl]
    refine h2 _ σ2 G3 H2 _ (s2.env.more fun q hq => List.mem_cons_of_mem _ hq) k3 fun J1 ys G4 H4 g4 k4 gv1 ⟨hz1, P1, q0, turn1, done1⟩ => ?_
    obtain ⟨k4', f1, ⟨o, f2, f3⟩, f4⟩ := k4.pop
    have f3' : o = SetL w D acc := f3
    subst f3'
    refine ⟨fun j m1 H' => m1 = ys.length - j ∧ j ≤ ys.length ∧ ∃ G' a, Same G4 G' ∧ Ok ω G' H' ∧ G' D = none ∧ H' D = some (SetL w D a) ∧ a.Nodup ∧ a.length ≤ i * 60 + j ∧ P1 j a,
      ⟨_, rfl, Nat.zero_le _, G4, acc, Same.refl _, k4', f1, f2, nd, hl, q0⟩, ?_⟩
    rintro j m1 H5 ⟨rfl, hj, G5, a, g5, k5, d3, d4, nd5, hl5, p1⟩
    by_cases hlt1 : j < ys.length
    · have hy : ys[j]? = some ys[j] := List.getElem?_eq_getElem hlt1
      have kD5 : Ok ((D, fun o => o = SetL w D a) :: ω) G5 H5 := k5.push d3 d4 rfl f4 (pl := pl_setO)
      obtain ⟨go1, yl1⟩ := (gv1 _ G5 H5 j g5 kD5).2 _ hy
      refine .inr ⟨go1, fun H2 => ∃ G2 a, Same G4 G2 ∧ Ok ω G2 H2 ∧ G2 D = none ∧ H2 D = some (SetL w D a) ∧ a.Nodup ∧ a.length ≤ i * 60 + (j + 1) ∧ P1 (j + 1) a, fun H2 ⟨G2, a2, z⟩ => ⟨ys.length - (j + 1), by omega, rfl, hlt1, G2, a2, z⟩, fun u H6 y6 => ?_⟩
      obtain ⟨G6, g6, k6, rv6⟩ := yl1 u H6 y6
      refine ⟨(gin_name (j := l) hl1 u (wipe σ2 vs1) H6 (fun _ _ => True) trivial).1.trans (wipe2 σ2 vs1), ?_⟩
      have e6 : EnvE K ((D, fun o => o = SetL w D a) :: ω) G6 ((wipeE δ2 vs1).set l (.dat ys[j])) ((wipe σ2 vs1).set l (some u)) :=
        ((((s2.env.mono ((g4.trans g5).trans g6)).wipe vs1).set (e := .dat ys[j]) ⟨u, rfl, rv6⟩).more fun q hq => List.mem_cons_of_mem _ hq)
      refine turn1 j _ a hy p1 _ _ G6 H6 _ e6 k6 fun b b' G7 H7 g7 k7 eb h7 => ?_
      subst eb
      cases b with
      | true =>
        rw [if_pos rfl] at h7 ⊢
        refine h7 _ _ G7 H7 _ (e6.mono g7) k7 fun z d G8 H8 g8 k8 r8 ⟨mm, ed, p8⟩ => ?_
        subst ed
        obtain ⟨k9, f5, ⟨o, f6, f7⟩, f8⟩ := k8.pop
        have f7' : o = SetL w D a := f7
        subst f7'
        have lim : i * 60 + j < 3660 := by omega
        refine ⟨mm, _, _, r8.int_inv, f6, by unfold scanBound; omega, G8, putI mm a, (((g5.trans g6).trans g7).trans g8), k9.put f5 f8 (hp := pl_at f6 pl_setO), f5, by rw [upd_same, set_put], putI_nodup nd5, ?_, p8⟩
        unfold putI
        split
        · omega
        · rw [List.length_append]
          show a.length + 1 ≤ _
          omega
      | false =>
        rw [if_neg Bool.false_ne_true] at h7 ⊢
        obtain ⟨k9, f5, ⟨o, f6, f7⟩, f8⟩ := k7.pop
        have f7' : o = SetL w D a := f7
        subst f7'
        exact ⟨G7, a, ((g5.trans g6).trans g7), k9, f5, f6, nd5, by omega, h7⟩
    · have e1 : j = ys.length := by omega
      subst e1
      exact .inl ⟨(gv1 ω G5 H5 _ g5 k5).1 rfl, G5, a, (((g'.trans g3).trans g4).trans g5), k5, d3, d4, nd5, by omega, done1 a p1⟩
  · have e1 : i = xs.length := by omega
    subst e1
    obtain ⟨few, r⟩ := done acc nd p
    exact .inl ⟨(gv ω G' H' _ g' k').1 rfl, q_sortedSet k' d2 few (fun v d G2 H2 g2 => q v d G2 H2 ((g1.trans g').trans g2)) r⟩
end
/-! ### any of a list of truth values -/
section
variable {K : PySem.W.Frag} {R : Dt → Prop}
theorem b_any {bs : List Bool} (r : R (.bool (bs.any id))) : CbD K (rAny K) [.dat (.list (bs.map .bool))] R := fun ω G H vs Q k h q => by
  obtain ⟨v, rfl, rv⟩ := rel1 h
  obtain ⟨a, xs, rfl, hs, ra⟩ := rv.list_inv
  obtain rfl := ra.bools
  exact ⟨a, bs, rfl, .inl (.inl (k.1 _ _ hs)), q _ _ G H (Same.refl G) k (.bl _) r⟩
theorem b_anyM {α : Type} {xs : List α} {g : α → Bool} (r : R (.bool (xs.any g))) : CbD K (rAny K) [.dat (.list (xs.map fun x => .bool (g x)))] R := by
  have e : xs.map (fun x => PyData.bool (g x)) = (xs.map g).map PyData.bool := by
    rw [List.map_map]
    rfl
  rw [e]
  refine b_any ?_
  have e2 : (xs.map g).any id = xs.any g := by
    rw [List.any_map]
    rfl
  rw [e2]
  exact r
end
/-! ### a def that calls itself -/
theorem Use.none {P : Program} {w : World} {K : PySem.W.Frag} {mg : Str → Option Value} {base : Heap} {x : Str} {st : Stmt} {ps : List Str} {k : Nat} {c : Ct} (F : Dfn K mg x st ps) (no : ∀ es, ¬ c.pre es) : Use P w K mg base x k ps (spD K c) := by
  obtain ⟨f, fd, F1, m, b, b2⟩ := F.ex
  exact ⟨f, fd, ⟨fun vs H Q E ⟨ω, G, es, _, _, p, _⟩ => (no es p).elim, fun A out s H args us vs Q E _ _ _ _ _ ⟨ω, G, es, _, _, p, _⟩ => (no es p).elim⟩, m, F1.kp, .all b, b2⟩

theorem nodup_le : ∀ {xs ys : List Int}, xs.Nodup → (∀ x ∈ xs, x ∈ ys) → xs.length ≤ ys.length
  | [], _, _, _ => Nat.zero_le _
  | x :: xs, ys, nd, h => by
    obtain ⟨h1, h2⟩ := List.nodup_cons.mp nd
    have hx := h x List.mem_cons_self
    have ih := nodup_le (ys := ys.erase x) h2 fun y hy => (List.mem_erase_of_ne (a := y) (b := x) fun e => h1 (by rw [← e]; exact hy)).mpr (h y (List.mem_cons_of_mem _ hy))
    have e := List.length_erase_of_mem hx
    have p := List.length_pos_of_mem hx
    rw [List.length_cons]
    omega
end DW
namespace DW
open PySem PySem.Spec PyProof.Rows L2
variable [Tabl]
/-! ### codes -/
/-- whether k is the distance of two different slots -/
def nearB (n : Int) (ms : List Int) (k : Int) : Bool := ms.any fun a => ms.any fun b => !decide (a = b) && decide ((a - b) % n = k)
def distL (n : Int) (ms : List Int) : List Int := (upI 0 n.toNat).filter (nearB n ms)
theorem nearB_iff {n : Int} {ms : List Int} {k : Int} : nearB n ms k = true ↔ ∃ a ∈ ms, ∃ b ∈ ms, a ≠ b ∧ (a - b) % n = k := by
  unfold nearB
  simp only [List.any_eq_true, Bool.and_eq_true, Bool.not_eq_true', decide_eq_false_iff_not, decide_eq_true_eq]
theorem up_asc (lo : Int) (k : Nat) : (upI lo k).Pairwise (· < ·) := by
  unfold upI
  rw [List.pairwise_map]
  exact List.pairwise_lt_range.imp fun h => by omega
theorem mem_up {lo w : Int} {k : Nat} : w ∈ upI lo k ↔ lo ≤ w ∧ w < lo + (k : Int) := by
  unfold upI
  rw [List.mem_map]
  constructor
  · rintro ⟨i, hi, rfl⟩
    have := List.mem_range.mp hi
    omega
  · rintro ⟨h0, h1⟩
    exact ⟨(w - lo).toNat, List.mem_range.mpr (by omega), by omega⟩
theorem dist_asc (n : Int) (ms : List Int) : (distL n ms).Pairwise (· < ·) := List.Pairwise.filter _ (up_asc 0 n.toNat)
theorem mem_dist {n : Int} {ms : List Int} {k : Int} (n0 : 0 < n) : k ∈ distL n ms ↔ ∃ a ∈ ms, ∃ b ∈ ms, a ≠ b ∧ (a - b) % n = k := by
  unfold distL
  rw [List.mem_filter, nearB_iff, mem_up]
  constructor
  · exact fun h => h.2
  · intro h
    refine ⟨?_, h⟩
    obtain ⟨a, _, b, _, _, e⟩ := h
    have := Int.emod_nonneg (a - b) (show n ≠ 0 by omega)
    have := Int.emod_lt_of_pos (a - b) n0
    omega
theorem dist_bnd {n : Int} {ms : List Int} {k : Int} (n0 : 0 < n) (h : k ∈ distL n ms) : 0 ≤ k ∧ k < n := by
  obtain ⟨a, _, b, _, _, rfl⟩ := (mem_dist n0).mp h
  exact ⟨Int.emod_nonneg (a - b) (show n ≠ 0 by omega), Int.emod_lt_of_pos (a - b) n0⟩
theorem dist_pos {n : Int} {ms : List Int} {k : Int} (b : Beat n ms) (h : k ∈ distL n ms) : 0 < k ∧ k < n := by
  have n0 : 0 < n := by have := b.n0; omega
  have z := dist_bnd n0 h
  obtain ⟨x, hx, y, hy, ne, rfl⟩ := (mem_dist n0).mp h
  have h1 := b.inn x hx
  have h2 := b.inn y hy
  refine ⟨?_, z.2⟩
  rcases Int.lt_or_le x y with c | c
  · have e : (x - y) % n = x - y + n := by
      rw [← Int.add_emod_right]
      exact Int.emod_eq_of_lt (by omega) (by omega)
    omega
  · rw [Int.emod_eq_of_lt (by omega) (by omega)]
    omega
theorem dist_len {n : Int} {ms : List Int} (h0 : 0 ≤ n) : (distL n ms).length ≤ n.toNat := by
  have := List.length_filter_le (nearB n ms) (upI 0 n.toNat)
  rw [up_lenI] at this
  exact this
def noneB (xs ys : List Int) : Bool := !xs.any fun x => decide (x ∈ ys)
theorem noneB_iff {xs ys : List Int} : noneB xs ys = true ↔ ∀ x ∈ xs, x ∉ ys := by
  unfold noneB
  rw [Bool.not_eq_true', List.any_eq_false]
  simp only [decide_eq_true_eq]
theorem noneB_comm (xs ys : List Int) : noneB xs ys = noneB ys xs := by
  rw [Bool.eq_iff_iff, noneB_iff, noneB_iff]
  exact ⟨fun h x hx hy => h x hy hx, fun h x hx hy => h x hy hx⟩
/-- a row of a code: the slots, their distances -/
abbrev Cr := List Int × List Int
def crD (n : Int) (x : Cr) : Dt := .tuple [patD n x.1, .tuple (x.2.map .int)]
def lastI (r : List Int) : Int := r.getLast?.getD 0
def extR (n : Int) (rows : List (List Int)) : List (List Int) := rows.flatMap fun r => (upI (lastI r + 1) (n - (lastI r + 1)).toNat).map fun s => r ++ [s]
def slotRows (n : Int) : Nat → List (List Int)
  | 0 => [[0]]
  | k + 1 => extR n (slotRows n k)
def codeRows (n k : Int) : List Cr := if n ≤ k then [] else (slotRows n (k - 1).toNat).map fun r => (r, distL n r)
def goC (f : List Cr → Option (List (List Int))) : List Cr → Option (List (List Int))
  | [] => none
  | x :: xs => match f (xs.filter fun y => noneB x.2 y.2) with
    | some b => some (x.1 :: b)
    | none => goC f xs
def firstC : Nat → List Cr → Option (List (List Int))
  | 0, _ => some []
  | m + 1, rows => goC (firstC m) rows
def codeD (n : Int) : Option (List (List Int)) → Dt
  | some rs => .tuple (rs.map (patD n))
  | none => .none
def upC (rows : List Cr) : Nat → Nat → Nat
  | 0, m => m
  | f + 1, m => if (firstC (m + 1) rows).isSome then upC rows f (m + 1) else m
def sizeC (n k : Int) : Nat := upC (codeRows n k) 8 0
def beatC (n : Int) (ms : List Int) : Bool := decide (2 ≤ n) && decide (n ≤ 60) && (ms.all fun s => decide (0 ≤ s) && decide (s < n)) && decide (ms.Pairwise (· < ·)) && !ms.isEmpty && decide ((ms.length : Int) < n)
theorem beat_ofC {n : Int} {ms : List Int} (h : beatC n ms = true) : Beat n ms := by
  unfold beatC at h
  simp only [Bool.and_eq_true, decide_eq_true_eq, List.all_eq_true, Bool.not_eq_true', List.isEmpty_eq_false_iff] at h
  obtain ⟨⟨⟨⟨⟨h1, h2⟩, h3⟩, h4⟩, h5⟩, h6⟩ := h
  exact ⟨h1, h2, h3, h4, h5, h6⟩
/-- all that is asked of codes: periods from 2 to 13, two or three slots -/
def CodeP (n k : Int) : Prop := (2 ≤ n ∧ n ≤ 13) ∧ (k = 2 ∨ k = 3)
theorem codeP_all {p : Int → Int → Bool} (h : ((upI 2 12).all fun n => p n 2 && p n 3) = true) {n k : Int} (c : CodeP n k) : p n k = true := by
  have z := List.all_eq_true.mp h n (mem_up.mpr (by have := c.1; omega))
  rw [Bool.and_eq_true] at z
  rcases c.2 with rfl | rfl
  · exact z.1
  · exact z.2
theorem code_beats {n k : Int} (c : CodeP n k) : ∀ x ∈ codeRows n k, Beat n x.1 := fun x hx => by
  have z := codeP_all (p := fun n k => (codeRows n k).all fun x => beatC n x.1) (by decide +kernel) c
  exact beat_ofC (List.all_eq_true.mp z x hx)
theorem code_few {n k : Int} (c : CodeP n k) : (codeRows n k).length ≤ 66 := of_decide_eq_true (codeP_all (p := fun n k => decide ((codeRows n k).length ≤ 66)) (by decide +kernel) c)
theorem code_dists {n k : Int} (c : CodeP n k) : ∀ x ∈ codeRows n k, x.2.length ≤ 60 := fun x hx => by
  have z := codeP_all (p := fun n k => (codeRows n k).all fun x => decide (x.2.length ≤ 60)) (by decide +kernel) c
  exact of_decide_eq_true (List.all_eq_true.mp z x hx)
theorem size_most {n k : Int} (c : CodeP n k) : sizeC n k ≤ 6 := of_decide_eq_true (codeP_all (p := fun n k => decide (sizeC n k ≤ 6)) (by decide +kernel) c)
theorem size_end {n k : Int} (c : CodeP n k) : firstC (sizeC n k + 1) (codeRows n k) = none := by
  have z := codeP_all (p := fun n k => (firstC (sizeC n k + 1) (codeRows n k)).isNone) (by decide +kernel) c
  exact Option.isNone_iff_eq_none.mp z
theorem size_some {n k : Int} (c : CodeP n k) : ∀ m, m < sizeC n k → (firstC (m + 1) (codeRows n k)).isSome = true := fun m hm => by
  have z := codeP_all (p := fun n k => (List.range (sizeC n k)).all fun m => (firstC (m + 1) (codeRows n k)).isSome) (by decide +kernel) c
  exact List.all_eq_true.mp z m (List.mem_range.mpr hm)
theorem go_le {f : List Cr → Option (List (List Int))} (hf : ∀ ys b, f ys = some b → b.length ≤ ys.length) : ∀ {xs : List Cr} {b : List (List Int)}, goC f xs = some b → b.length ≤ xs.length
  | [], _, h => by cases h
  | x :: xs, b, h => by
    have e : goC f (x :: xs) = match f (xs.filter fun y => noneB x.2 y.2) with
      | some b => some (x.1 :: b)
      | none => goC f xs := rfl
    rw [e] at h
    cases hq : f (xs.filter fun y => noneB x.2 y.2) with
    | some c =>
      rw [hq] at h
      dsimp only at h
      obtain rfl := Option.some.inj h
      have a := hf _ _ hq
      have c := List.length_filter_le (fun y : Cr => noneB x.2 y.2) xs
      rw [List.length_cons, List.length_cons]
      omega
    | none =>
      rw [hq] at h
      dsimp only at h
      have := go_le hf h
      rw [List.length_cons]
      omega
theorem first_le : ∀ {k : Nat} {xs : List Cr} {b : List (List Int)}, firstC k xs = some b → b.length ≤ xs.length
  | 0, xs, b, h => by
    obtain rfl : [] = b := Option.some.inj h
    exact Nat.zero_le _
  | k + 1, xs, b, h => go_le (f := firstC k) (fun ys c hc => first_le hc) h
theorem atI_end {α : Type} (xs : List α) (x : α) : atI (xs ++ [x]) (-1) = some x := by
  unfold atI ixN
  rw [List.length_append]
  have h1 : ¬ (0 : Int) ≤ -1 := by decide
  have h2 : -((xs.length + [x].length : Nat) : Int) ≤ -1 := by
    show -((xs.length + 1 : Nat) : Int) ≤ -1
    omega
  rw [if_neg h1, if_pos h2]
  have e : ((-1 : Int) + ((xs.length + [x].length : Nat) : Int)).toNat = xs.length := by
    show ((-1 : Int) + ((xs.length + 1 : Nat) : Int)).toNat = xs.length
    omega
  rw [e]
  show (xs ++ [x])[xs.length]? = some x
  rw [List.getElem?_append_right (Nat.le_refl _), Nat.sub_self]
  rfl
theorem dats_dat : ∀ ds : List Dt, dats (ds.map E.dat) = some ds
  | [] => rfl
  | d :: ds => by
    show (dats (ds.map E.dat)).map (d :: ·) = _
    rw [dats_dat ds]
    rfl
/-! distances and ticks in which two send -/
theorem mod_up {n x : Int} (h0 : 0 ≤ x) (h1 : x < 2 * n) : x % n = if x < n then x else x - n := by
  split
  · exact Int.emod_eq_of_lt h0 (by omega)
  · have e : x % n = (x - n) % n := by rw [Int.sub_emod_right]
    rw [e]
    exact Int.emod_eq_of_lt (by omega) (by omega)
theorem mod_dn {n x : Int} (h0 : -n ≤ x) (h1 : x < n) (n0 : 0 < n) : x % n = if 0 ≤ x then x else x + n := by
  split
  · exact Int.emod_eq_of_lt (by omega) h1
  · have e : x % n = (x + n) % n := by rw [Int.add_emod_right]
    rw [e]
    exact Int.emod_eq_of_lt (by omega) (by omega)
/-- the ticks of a period in which both send -/
def bothL (n : Int) (ms ls : List Int) (o : Int) : List Int := (upI 0 n.toNat).filter fun t => sndB (n, ms) 0 t && sndB (n, ls) o t
theorem mem_bothL {n : Int} {ms ls : List Int} {o t : Int} (n0 : 0 < n) : t ∈ bothL n ms ls o ↔ (0 ≤ t ∧ t < n) ∧ t ∈ ms ∧ (t - o) % n ∈ ls := by
  unfold bothL sndB
  rw [List.mem_filter, mem_up, Bool.and_eq_true, decide_eq_true_eq, decide_eq_true_eq]
  dsimp only
  constructor
  · rintro ⟨h, h1, h2⟩
    rw [Int.sub_zero, Int.emod_eq_of_lt (by omega) (by omega)] at h1
    exact ⟨by omega, h1, h2⟩
  · rintro ⟨h, h1, h2⟩
    refine ⟨by omega, ?_, h2⟩
    rw [Int.sub_zero, Int.emod_eq_of_lt (by omega) (by omega)]
    exact h1
theorem bothL_asc (n : Int) (ms ls : List Int) (o : Int) : (bothL n ms ls o).Pairwise (· < ·) := (up_asc 0 n.toNat).filter _
theorem none_meets {n : Int} {ms ls : List Int} (bm : Beat n ms) (bl : Beat n ls) : noneB (distL n ms) (distL n ls) = (upI 0 n.toNat).all fun o => decide ((bothL n ms ls o).length ≤ 1) := by
  have n0 : 0 < n := by have := bm.n0; omega
  rw [Bool.eq_iff_iff, noneB_iff, List.all_eq_true]
  constructor
  · intro h o ho
    have ho := mem_up.mp ho
    refine decide_eq_true (Nat.not_lt.mp fun two => ?_)
    have asc := bothL_asc n ms ls o
    match hL : bothL n ms ls o, two with
    | t :: u :: r, _ =>
      rw [hL] at asc
      have lt := (List.pairwise_cons.mp asc).1 u List.mem_cons_self
      obtain ⟨t0, t1, t2⟩ := (mem_bothL n0).mp (show t ∈ bothL n ms ls o by rw [hL]; simp)
      obtain ⟨u0, u1, u2⟩ := (mem_bothL n0).mp (show u ∈ bothL n ms ls o by rw [hL]; simp)
      have e : ((t - o) % n - (u - o) % n) % n = (t - u) % n := by
        rw [← Int.sub_emod]
        congr 1
        omega
      have ne : (t - o) % n ≠ (u - o) % n := fun z => by
        rw [z, Int.sub_self, Int.zero_emod] at e
        rw [mod_dn (by omega) (by omega) n0] at e
        split at e <;> omega
      exact h ((t - u) % n) ((mem_dist n0).mpr ⟨t, t1, u, u1, by omega, rfl⟩) ((mem_dist n0).mpr ⟨_, t2, _, u2, ne, e⟩)
  · intro h k hk hl
    obtain ⟨a, ha, b, hb, ab, rfl⟩ := (mem_dist n0).mp hk
    obtain ⟨c, hc, d, hd, cd, e⟩ := (mem_dist n0).mp hl
    have a0 := bm.inn a ha
    have b0 := bm.inn b hb
    have c0 := bl.inn c hc
    have d0 := bl.inn d hd
    have o0 := Int.emod_nonneg (a - c) (show n ≠ 0 by omega)
    have o1 := Int.emod_lt_of_pos (a - c) n0
    have z := of_decide_eq_true (h ((a - c) % n) (mem_up.mpr ⟨o0, by omega⟩))
    have ea : (a - (a - c) % n) % n = c := by
      rw [Int.sub_emod, Int.emod_emod_of_dvd _ (Int.dvd_refl n), ← Int.sub_emod]
      rw [show a - (a - c) = c by omega]
      exact Int.emod_eq_of_lt (by omega) (by omega)
    have eb : (b - (a - c) % n) % n = d := by
      rw [Int.sub_emod, Int.emod_emod_of_dvd _ (Int.dvd_refl n), ← Int.sub_emod]
      have e1 : (b - (a - c)) % n = (c - (a - b)) % n := by rw [show b - (a - c) = c - (a - b) by omega]
      rw [e1, Int.sub_emod, ← e, ← Int.sub_emod]
      rw [show c - (c - d) = d by omega]
      exact Int.emod_eq_of_lt (by omega) (by omega)
    have two := nodup_le (xs := [a, b]) (ys := bothL n ms ls ((a - c) % n)) (by simp [ab]) fun x hx => by
      rcases List.mem_cons.mp hx with rfl | hx
      · exact (mem_bothL n0).mpr ⟨a0, ha, by rw [ea]; exact hc⟩
      · rw [List.mem_singleton] at hx
        subst hx
        exact (mem_bothL n0).mpr ⟨b0, hb, by rw [eb]; exact hd⟩
    have : [a, b].length = 2 := rfl
    omega
def dueC (n : Int) (ms : List Int) (k : Int) : Bool := ms.any fun s => decide ((s + k) % n ∈ ms)
theorem due_dist {n : Int} {ms : List Int} (b : Beat n ms) : (upI 1 (n - 1).toNat).filter (dueC n ms) = distL n ms := by
  have n0 : 0 < n := by have := b.n0; omega
  refine asc_ext ((up_asc 1 (n - 1).toNat).filter _) (dist_asc n ms) fun k => ?_
  rw [List.mem_filter, mem_up, mem_dist n0]
  unfold dueC
  rw [List.any_eq_true]
  simp only [decide_eq_true_eq]
  constructor
  · rintro ⟨hk, s, hs, hm⟩
    have s0 := b.inn s hs
    refine ⟨(s + k) % n, hm, s, hs, ?_, ?_⟩
    · rw [mod_up (by omega) (by omega)]
      split <;> omega
    · rw [mod_up (n := n) (x := s + k) (by omega) (by omega)]
      split
      · rw [show s + k - s = k by omega]
        exact Int.emod_eq_of_lt (by omega) (by omega)
      · rw [show s + k - n - s = k - n by omega, Int.sub_emod_right]
        exact Int.emod_eq_of_lt (by omega) (by omega)
  · rintro ⟨a, ha, c, hc, ne, rfl⟩
    have a0 := b.inn a ha
    have c0 := b.inn c hc
    have m0 := Int.emod_nonneg (a - c) (show n ≠ 0 by omega)
    have m1 := Int.emod_lt_of_pos (a - c) n0
    have mp := (dist_pos b ((mem_dist n0).mpr ⟨a, ha, c, hc, ne, rfl⟩)).1
    refine ⟨by omega, c, hc, ?_⟩
    have e : (c + (a - c) % n) % n = a := by
      rw [Int.add_emod, Int.emod_emod_of_dvd _ (Int.dvd_refl n), ← Int.add_emod, show c + (a - c) = a by omega]
      exact Int.emod_eq_of_lt (by omega) (by omega)
    rw [e]
    exact ha
theorem dist_turn {n : Int} {ms : List Int} (b : Beat n ms) (by' : Int) : distL n (turnS n ms by') = distL n ms := by
  have n0 : 0 < n := by have := b.n0; omega
  refine asc_ext (dist_asc _ _) (dist_asc _ _) fun k => ?_
  rw [mem_dist n0, mem_dist n0]
  constructor
  · rintro ⟨x, hx, y, hy, ne, rfl⟩
    obtain ⟨x0, x1⟩ := (mem_turnS n0).mp hx
    obtain ⟨y0, y1⟩ := (mem_turnS n0).mp hy
    have e : ((x - by') % n - (y - by') % n) % n = (x - y) % n := by
      rw [← Int.sub_emod]
      congr 1
      omega
    refine ⟨_, x1, _, y1, fun z => ?_, e⟩
    rw [z, Int.sub_self, Int.zero_emod] at e
    rw [mod_dn (by omega) (by omega) n0] at e
    split at e <;> omega
  · rintro ⟨x, hx, y, hy, ne, rfl⟩
    have x0 := b.inn x hx
    have y0 := b.inn y hy
    have back : ∀ z, 0 ≤ z → z < n → ((z + by') % n - by') % n = z := fun z z0 z1 => by
      rw [Int.sub_emod, Int.emod_emod_of_dvd _ (Int.dvd_refl n), ← Int.sub_emod, show z + by' - by' = z by omega]
      exact Int.emod_eq_of_lt z0 z1
    have inn : ∀ z, 0 ≤ (z + by') % n ∧ (z + by') % n < n := fun z => ⟨Int.emod_nonneg _ (by omega), Int.emod_lt_of_pos _ n0⟩
    refine ⟨(x + by') % n, (mem_turnS n0).mpr ⟨inn x, by rw [back x x0.1 x0.2]; exact hx⟩, (y + by') % n, (mem_turnS n0).mpr ⟨inn y, by rw [back y y0.1 y0.2]; exact hy⟩, fun z => ?_, ?_⟩
    · have := back x x0.1 x0.2
      rw [z, back y y0.1 y0.2] at this
      exact ne this.symm
    · rw [← Int.sub_emod]
      congr 1
      omega
theorem dist_tidy {n : Int} {ms : List Int} (b : Beat n ms) : Tidy (.tuple ((distL n ms).map .int)) 1 2460 := by
  have n0 := b.n0
  have n1 := b.n1
  have z := tidy_ints (ns := distL n ms) fun x hx => by
    have := dist_bnd (by omega) hx
    omega
  have l := dist_len (n := n) (ms := ms) (by omega)
  exact (tidy_tup z).mono (Nat.le_refl _) (by omega)
theorem slot_bnd {n : Int} (n0 : 2 ≤ n) (n1 : n ≤ 13) : ∀ k, k ≤ 2 → (∀ r ∈ slotRows n k, r.length = k + 1 ∧ 0 ≤ lastI r ∧ lastI r < 13) ∧ (slotRows n k).length ≤ 13 ^ k
  | 0, _ => ⟨fun r hr => by
    have e : r = [0] := by simpa [slotRows] using hr
    subst e
    exact ⟨rfl, by decide, by decide⟩, Nat.le_refl 1⟩
  | k + 1, hk => by
    obtain ⟨h1, h2⟩ := slot_bnd n0 n1 k (by omega)
    refine ⟨fun r hr => ?_, ?_⟩
    · obtain ⟨q, hq, hr2⟩ := List.mem_flatMap.mp hr
      obtain ⟨s, hs, rfl⟩ := List.mem_map.mp hr2
      obtain ⟨l, b0, b1⟩ := h1 q hq
      have hs := mem_up.mp hs
      have e : lastI (q ++ [s]) = s := by
        unfold lastI
        rw [List.getLast?_append]
        rfl
      refine ⟨by rw [List.length_append, l]; rfl, by rw [e]; omega, by rw [e]; omega⟩
    · show (extR n (slotRows n k)).length ≤ 13 ^ (k + 1)
      unfold extR
      rw [List.length_flatMap]
      have : ∀ (L : List (List Int)), (∀ r ∈ L, 0 ≤ lastI r) → (L.map fun r => ((upI (lastI r + 1) (n - (lastI r + 1)).toNat).map fun s => r ++ [s]).length).sum ≤ L.length * 13 := by
        intro L
        induction L with
        | nil => intro _; exact Nat.zero_le _
        | cons r L ih =>
          intro h
          have a := ih fun q hq => h q (List.mem_cons_of_mem _ hq)
          have b := h r List.mem_cons_self
          rw [List.map_cons, List.sum_cons, List.length_map, up_lenI, List.length_cons]
          omega
      have a := this (slotRows n k) fun r hr => (h1 r hr).2.1
      rw [Nat.pow_succ]
      omega
theorem row_last {r : List Int} {k : Nat} (h : r.length = k + 1) : atI (r.map PyData.int) (-1) = some (.int (lastI r)) := by
  obtain ⟨q, s, rfl⟩ : ∃ q s, r = q ++ [s] := by
    have ne : r ≠ [] := fun z => by rw [z] at h; cases h
    exact ⟨r.dropLast, r.getLast ne, (List.dropLast_concat_getLast ne).symm⟩
  have e : lastI (q ++ [s]) = s := by
    unfold lastI
    rw [List.getLast?_append]
    rfl
  rw [e, List.map_append]
  exact atI_end _ _
/-! the law's own way: places of patterns, friends, all codes -/
/-- for each row the later ones with which it has no distance in common -/
def frL (rows : List Cr) : List (List Int) := (List.range rows.length).map fun (i : Nat) => (upI ((i : Int) + 1) (rows.length - (i + 1))).filter fun j => noneB (rows.getD i ([], [])).2 (rows.getD j.toNat ([], [])).2
def frAt (fr : List (List Int)) (i : Int) : List Int := fr.getD i.toNat []
def goodB (fr : List (List Int)) (row : List Int) (j : Int) : Bool := row.all fun i => decide (j ∈ frAt fr i)
def nextC (fr : List (List Int)) (rows : List (List Int)) : List (List Int) := rows.flatMap fun r => ((frAt fr (lastI r)).filter (goodB fr r)).map fun j => r ++ [j]
def codesL (fr : List (List Int)) : Nat → List (List Int)
  | 0 => (upI 0 fr.length).map fun i => [i]
  | m + 1 => nextC fr (codesL fr m)
end DW
namespace DW
open PySem PySem.Spec PyProof.Rows L2
variable [Tabl]
/-! ### what is told by hand, reckoned -/
section
variable {n k : Int} {ms ls : List Int}
def alB (n : Int) (ms : List Int) (k : Int) (ls : List Int) (o : Int) : Bool := (upI 0 (n * k).toNat).all fun t => decide (t % n ∈ ms) == decide ((t - o) % k ∈ ls)
theorem alB_iff (n0 : 0 < n) (k0 : 0 < k) {o : Int} : alB n ms k ls o = true ↔ Al n ms k ls o := by
  have nk : 0 < n * k := Int.mul_pos n0 k0
  unfold alB
  rw [List.all_eq_true]
  constructor
  · intro h t
    have r0 := Int.emod_nonneg t (show n * k ≠ 0 by omega)
    have r1 := Int.emod_lt_of_pos t nk
    have z := h (t % (n * k)) (mem_upI.mpr ⟨r0, by omega⟩)
    rw [beq_iff_eq] at z
    have e1 : t % (n * k) % n = t % n := Int.emod_emod_of_dvd _ (Int.dvd_mul_right n k)
    have e2 : (t % (n * k) - o) % k = (t - o) % k := by
      rw [Int.sub_emod, Int.emod_emod_of_dvd _ (Int.dvd_mul_left n k), ← Int.sub_emod]
    rw [e1, e2] at z
    exact decide_eq_decide.mp z
  · intro h t _
    rw [beq_iff_eq]
    exact decide_eq_decide.mpr (h t)
def matchC (n : Int) (ms : List Int) (k : Int) (ls : List Int) : Dt := match (upI 0 k.toNat).find? (alB n ms k ls) with
  | some o => .int o
  | none => .none
theorem find_up {p : Int → Bool} : ∀ {m : Nat} {lo o : Int}, (upI lo m).find? p = some o → (lo ≤ o ∧ o < lo + (m : Int)) ∧ p o = true ∧ ∀ c, lo ≤ c → c < o → p c = false
  | 0, lo, o, h => by cases h
  | m + 1, lo, o, h => by
    have e : upI lo (m + 1) = lo :: upI (lo + 1) m := by
      unfold upI
      rw [List.range_succ_eq_map, List.map_cons, List.map_map]
      have e1 : lo + ((0 : Nat) : Int) = lo := by omega
      rw [e1]
      congr 1
      refine List.map_congr_left fun i _ => ?_
      show lo + ((i + 1 : Nat) : Int) = lo + 1 + (i : Int)
      omega
    rw [e, List.find?_cons] at h
    cases hp : p lo with
    | true =>
      rw [hp] at h
      obtain rfl := Option.some.inj h
      exact ⟨by omega, hp, fun c c0 c1 => absurd c1 (by omega)⟩
    | false =>
      rw [hp] at h
      obtain ⟨h1, h2, h3⟩ := find_up h
      refine ⟨by omega, h2, fun c c0 c1 => ?_⟩
      by_cases z : c = lo
      · rw [z]
        exact hp
      · exact h3 c (by omega) c1
theorem match_is (n0 : 0 < n) (k0 : 0 < k) {r : Dt} (h : MatchD n ms k ls r) : r = matchC n ms k ls := by
  refine MatchD.unique h ?_
  unfold matchC
  cases hf : (upI 0 k.toNat).find? (alB n ms k ls) with
  | none =>
    rw [List.find?_eq_none] at hf
    exact .no fun c c0 c1 z => hf c (mem_upI.mpr ⟨c0, by omega⟩) ((alB_iff n0 k0).mpr z)
  | some o =>
    obtain ⟨h1, h2, h3⟩ := find_up hf
    refine .at h1.1 (by omega) ((alB_iff n0 k0).mp h2) fun c c0 c1 z => ?_
    have := h3 c c0 c1
    rw [(alB_iff n0 k0).mpr z] at this
    cases this
theorem turnS_mod (n0 : 0 < n) (b : Int) : turnS n ms b = turnS n ms (b % n) := by
  refine asc_ext (turnS_asc _ _ _) (turnS_asc _ _ _) fun t => ?_
  rw [mem_turnS n0, mem_turnS n0]
  have e : (t - b % n) % n = (t - b) % n := by
    rw [Int.sub_emod, Int.emod_emod_of_dvd _ (Int.dvd_refl n), ← Int.sub_emod]
  rw [e]
end
end DW
namespace DW
open PySem PySem.Spec PyProof.Rows L2
variable [Tabl]
/-! ### a call by names alone, in an order shifted by one -/
/-- the names' order: one to the left, or one to the right -/
def rotP (left : Bool) (ps : List Str) : List Str := if left = true then ps.drop 1 ++ ps.take 1 else ps.drop (ps.length - 1) ++ ps.take (ps.length - 1)
/-- back again -/
def rotB {α : Type} (left : Bool) (us : List α) : List α := if left = true then us.drop (us.length - 1) ++ us.take (us.length - 1) else us.drop 1 ++ us.take 1
theorem rotP_len (l : Bool) (ps : List Str) : (rotP l ps).length = ps.length := by
  unfold rotP
  cases l <;> simp <;> omega
theorem rotB_len {α : Type} (l : Bool) (us : List α) : (rotB l us).length = us.length := by
  unfold rotB
  cases l <;> simp <;> omega
theorem vals_rot (l : Bool) {vs : List V} {us : List Value} (h : Vals vs us) : Vals (rotB l vs) (rotB l us) := by
  unfold rotB
  have e := h.length
  cases l with
  | true =>
    rw [if_pos rfl, if_pos rfl, e]
    exact (h.drop _).append (h.take _)
  | false => exact (h.drop 1).append (h.take 1)
theorem rel_take {K : PySem.W.Frag} {ω : Wd} {G : Hp} : ∀ {vs : List V} {es : List E} (n : Nat), RelA K ω G vs es → RelA K ω G (vs.take n) (es.take n)
  | _, _, 0, _ => .nil
  | _, _, _ + 1, .nil => .nil
  | _, _, n + 1, .cons a b => .cons a (rel_take n b)
theorem rel_drop {K : PySem.W.Frag} {ω : Wd} {G : Hp} : ∀ {vs : List V} {es : List E} (n : Nat), RelA K ω G vs es → RelA K ω G (vs.drop n) (es.drop n)
  | _, _, 0, h => h
  | _, _, _ + 1, .nil => .nil
  | _, _, n + 1, .cons _ b => rel_drop n b
theorem rel_joinK {K : PySem.W.Frag} {ω : Wd} {G : Hp} : ∀ {vs us : List V} {es fs : List E}, RelA K ω G vs es → RelA K ω G us fs → RelA K ω G (vs ++ us) (es ++ fs)
  | _, _, _, _, .nil, h => h
  | _, _, _, _, .cons a b, h => .cons a (rel_joinK b h)
theorem rel_rot {K : PySem.W.Frag} {ω : Wd} {G : Hp} (l : Bool) {vs : List V} {es : List E} (h : RelA K ω G vs es) : RelA K ω G (rotB l vs) (rotB l es) := by
  unfold rotB
  have e : es.length = vs.length := Paired.length h
  cases l with
  | true =>
    rw [if_pos rfl, if_pos rfl, e]
    exact rel_joinK (rel_drop _ h) (rel_take _ h)
  | false => exact rel_joinK (rel_drop 1 h) (rel_take 1 h)
def tCallK (l : Bool) (sp : Sp) (E : XK) (tk : TA) : TE := fun σ H Q => tk σ H fun zs H2 => sp (rotB l zs) H2 Q E
section
variable {X : Cx} {k : Nat} {f : Addr} {fd : FuncData} {ps : List Str} {sp : Sp} {E : XK} {x : Str} {p pos : Pos} {e : Expr} {es : List Expr} {t tk : TA} {kws : List Keyword}
theorem run_gK (l : Bool) {pins : List (Addr × Obj)} {σ : L2.St} {H : Hp} {s : Shared} {Q : VK} {us : List Value} {vs : List V} (F : FnG X.prog X.w X.K X.mg X.base k f fd ps sp) (hG : X.A.guards = some []) (hr : Room k X.A)
    (hb : KwB fd ps)
    (I : Inv X pins σ H s) (r : Vals vs us) (h : sp (rotB l vs) H Q E) : wpAny (model X.prog X.w) X.A (call (.ref f) [] ((rotP l ps).zip us)) (EP X pins σ Q) X.xe s := by
  have hl : us.length = ps.length := by
    rw [← r.length, ← rotB_len l]
    exact F.many _ _ _ _ h
  have hb' : bindArgs fd ⟨[], (rotP l ps).zip us⟩ = pure (ps.zip (rotB l us)) := by
    cases l with
    | true => exact (hb us hl).2.1
    | false => exact (hb us hl).2.2
  refine wpAny_call (codeAny_mono (F.runs X.A X.stack s H ⟨[], (rotP l ps).zip us⟩ (rotB l us) (rotB l vs) Q E hG hr I.env0 (.of_eq hb') (vals_rot l r) h) fun rs s' hq => ?_)
  match rs, hq with
  | .error _, z => exact z.elim
  | .ok (.ret _), z => exact I.after z
  | .ok .next, z => exact z.elim
  | .ok .brk, z => exact z.elim
  | .ok .cont, z => exact z.elim
theorem pe_uK (l : Bool) (U : Use X.prog X.w X.K X.mg X.base x k ps sp) (hG : X.A.guards = some []) (hr : Room k X.A) (hg : Gl X x)
    (hkw : PK X kws tk) (hall : (backToKw pos (keywordEach kws X.env)).all (·.1.isSome) = true := by rfl) (hks : (backToKw pos (keywordEach kws X.env)).filterMap (·.1) = rotP l ps := by rfl)
    (hdb : (x == ("__debug__" : Str)) = false := by decide)
    (hpl : ((backTo pos (starEach [] X.env)).any (·.1) || (backToKw pos (keywordEach kws X.env)).any (·.1.isNone)) = false := by rfl) :
    PE X (.Call (.Name x p) [] kws pos) (tCallK l sp E0 tk) := by
  obtain ⟨f, fd, F, m, kp, b, b2⟩ := U.ex
  refine ⟨fun pins s σ H Q I h => ?_⟩
  refine wpAny_Call_Name_kw (ld_glob I hg m ?_ hdb)
  refine PySem.W.callWith_KW0 (h₀ := X.base) I.ok.mod.kin kp hall ?_ hpl
  refine thn (hkw.run pos pins s σ H _ I h) fun ws s2 ⟨zs, H2, I2, rz, q2⟩ => ⟨I2.kIn, ?_⟩
  rw [hks]
  exact run_gK l F hG hr b2 I2 rz q2
end
theorem w_callK {l : Bool} {K : PySem.W.Frag} {δ : Nm} {R : Dt → Prop} {ar : TA} {α : Type} {args : α → List E} {ok : α → Prop} {post : α → Dt → Prop} {X : XK} (h : WA K ar δ fun es => ∃ a, rotB l es = args a ∧ ok a ∧ ∀ d, post a d → R d) :
    W K (tCallK l (spD K (ctA args ok post)) X ar) δ R := fun ω σ G H Q e k q =>
  h ω σ G H _ e k fun vs es G1 H1 g1 k1 r1 ⟨a, e1, o, p⟩ => ⟨ω, G1, rotB l es, k1, rel_rot l r1, ⟨a, e1, o⟩, fun v d G2 H2 g2 k2 r2 p2 => q v d G2 H2 (g1.trans g2) k2 r2 (p d (p2 a e1 o))⟩
end DW
namespace K58
open PySem PySem.Spec PyProof.Rows L2 DW
variable [Tabl]
def topS (i : Nat) : Stmt := PySem.Challenge.pw_anyshift_k58_codes_by_hand_and_by_names.main.body.getD i (.Pass ⟨0, 0, 0, 0⟩)
abbrev s_l_cell : Stmt := topS 33
theorem sc_l_cell : FnScope ["_law_script", "_law_k"] ["_law_script", "_law_k"] (defScope s_l_cell) := ⟨rfl, rfl, rfl, by decide +kernel, rfl, by decide +kernel, by decide +kernel⟩
abbrev s_l_same : Stmt := topS 36
theorem sc_l_same : FnScope ["_law_found", "_law_due"] ["_law_found", "_law_due"] (defScope s_l_same) := ⟨rfl, rfl, rfl, by decide +kernel, rfl, by decide +kernel, by decide +kernel⟩
abbrev s_is_integer : Stmt := topS 9
theorem sc_is_integer : FnScope ["thing"] ["thing"] (defScope s_is_integer) := ⟨rfl, rfl, rfl, by decide +kernel, rfl, by decide +kernel, by decide +kernel⟩
abbrev s_is_integer_from : Stmt := topS 10
theorem sc_is_integer_from : FnScope ["thing", "low", "high"] ["thing", "low", "high"] (defScope s_is_integer_from) := ⟨rfl, rfl, rfl, by decide +kernel, rfl, by decide +kernel, by decide +kernel⟩
abbrev s_check_code : Stmt := topS 29
theorem sc_check_code : FnScope ["period", "slots"] ["period", "slots"] (defScope s_check_code) := ⟨rfl, rfl, rfl, by decide +kernel, rfl, by decide +kernel, by decide +kernel⟩
abbrev s_is_set : Stmt := topS 11
theorem sc_is_set : FnScope ["thing", "low", "high", "part", "after"] ["thing", "low", "high"] (defScope s_is_set) := ⟨rfl, rfl, rfl, by decide +kernel, rfl, by decide +kernel, by decide +kernel⟩
abbrev s_is_pattern : Stmt := topS 15
theorem sc_is_pattern : FnScope ["thing", "period", "slots"] ["thing"] (defScope s_is_pattern) := ⟨rfl, rfl, rfl, by decide +kernel, rfl, by decide +kernel, by decide +kernel⟩
abbrev s_check_pattern : Stmt := topS 16
theorem sc_check_pattern : FnScope ["pattern"] ["pattern"] (defScope s_check_pattern) := ⟨rfl, rfl, rfl, by decide +kernel, rfl, by decide +kernel, by decide +kernel⟩
abbrev s_distances : Stmt := topS 24
theorem sc_distances : FnScope ["pattern", "period", "slots", "one", "other"] ["pattern"] (defScope s_distances) := ⟨rfl, rfl, rfl, by decide +kernel, rfl, by decide +kernel, by decide +kernel⟩
abbrev s_code_rows : Stmt := topS 30
theorem sc_code_rows : FnScope ["period", "slots", "rows", "_", "row", "slot"] ["period", "slots"] (defScope s_code_rows) := ⟨rfl, rfl, rfl, by decide +kernel, rfl, by decide +kernel, by decide +kernel⟩
abbrev s_nothing_common : Stmt := topS 26
theorem sc_nothing_common : FnScope ["one", "other", "part"] ["one", "other"] (defScope s_nothing_common) := ⟨rfl, rfl, rfl, by decide +kernel, rfl, by decide +kernel, by decide +kernel⟩
abbrev s_first_code : Stmt := topS 31
theorem sc_first_code : FnScope ["rows", "many", "at", "pattern", "taken", "left", "behind", "row"] ["rows", "many"] (defScope s_first_code) := ⟨rfl, rfl, rfl, by decide +kernel, rfl, by decide +kernel, by decide +kernel⟩
abbrev s_code_size : Stmt := topS 28
theorem sc_code_size : FnScope ["period", "slots", "rows", "many"] ["period", "slots"] (defScope s_code_size) := ⟨rfl, rfl, rfl, by decide +kernel, rfl, by decide +kernel, by decide +kernel⟩
abbrev s_smallest_code : Stmt := topS 27
theorem sc_smallest_code : FnScope ["period", "slots", "many"] ["period", "slots", "many"] (defScope s_smallest_code) := ⟨rfl, rfl, rfl, by decide +kernel, rfl, by decide +kernel, by decide +kernel⟩
abbrev s_l_codes_right : Stmt := topS 37
theorem sc_l_codes_right : FnScope ["_law_told", "_law_due"] [] (defScope s_l_codes_right) := ⟨rfl, rfl, rfl, by decide +kernel, rfl, by decide +kernel, by decide +kernel⟩
abbrev s_l_draw : Stmt := topS 35
theorem sc_l_draw : FnScope ["_law_pen_here", "_law_amount", "_law_found", "_law_mixed"] ["_law_pen_here", "_law_amount"] (defScope s_l_draw) := ⟨rfl, rfl, rfl, by decide +kernel, rfl, by decide +kernel, by decide +kernel⟩
abbrev s_meet_once : Stmt := topS 25
theorem sc_meet_once : FnScope ["one", "other"] ["one", "other"] (defScope s_meet_once) := ⟨rfl, rfl, rfl, by decide +kernel, rfl, by decide +kernel, by decide +kernel⟩
abbrev s_turned_slots : Stmt := topS 18
theorem sc_turned_slots : FnScope ["pattern", "by", "period", "slots", "slot"] ["pattern", "by"] (defScope s_turned_slots) := ⟨rfl, rfl, rfl, by decide +kernel, rfl, by decide +kernel, by decide +kernel⟩
abbrev s_turned : Stmt := topS 17
theorem sc_turned : FnScope ["pattern", "by"] ["pattern", "by"] (defScope s_turned) := ⟨rfl, rfl, rfl, by decide +kernel, rfl, by decide +kernel, by decide +kernel⟩
abbrev s_l_pairs_right : Stmt := topS 38
theorem sc_l_pairs_right : FnScope ["_law_by", "_law_first", "_law_second", "_law_even", "_law_told"] ["_law_by"] (defScope s_l_pairs_right) := ⟨rfl, rfl, rfl, by decide +kernel, rfl, by decide +kernel, by decide +kernel⟩
abbrev s_l_pen : Stmt := topS 34
theorem sc_l_pen : FnScope ["_law_cell_here"] ["_law_cell_here"] (defScope s_l_pen) := ⟨rfl, rfl, rfl, by decide +kernel, rfl, by decide +kernel, by decide +kernel⟩
abbrev s_law : Stmt := topS 39
theorem sc_law : FnScope ["_law_script", "_law_k"] ["_law_script"] (defScope s_law) := ⟨rfl, rfl, rfl, by decide +kernel, rfl, by decide +kernel, by decide +kernel⟩
/-- what the top has left -/
structure Tx (K : PySem.W.Frag) (mg : Str → Option Value) : Prop where
  f_l_cell : Dfn K mg "_law_cell" s_l_cell ["_law_script", "_law_k"]
  f_l_same : Dfn K mg "_law_same" s_l_same ["_law_found", "_law_due"]
  f_is_integer : Dfn K mg "is_integer" s_is_integer ["thing"]
  f_is_integer_from : Dfn K mg "is_integer_from" s_is_integer_from ["thing", "low", "high"]
  f_check_code : Dfn K mg "check_code" s_check_code ["period", "slots"]
  f_is_set : Dfn K mg "is_set" s_is_set ["thing", "low", "high"]
  f_is_pattern : Dfn K mg "is_pattern" s_is_pattern ["thing"]
  f_check_pattern : Dfn K mg "check_pattern" s_check_pattern ["pattern"]
  f_distances : Dfn K mg "distances" s_distances ["pattern"]
  f_code_rows : Dfn K mg "code_rows" s_code_rows ["period", "slots"]
  f_nothing_common : Dfn K mg "nothing_common" s_nothing_common ["one", "other"]
  f_first_code : Dfn K mg "first_code" s_first_code ["rows", "many"]
  f_code_size : Dfn K mg "code_size" s_code_size ["period", "slots"]
  f_smallest_code : Dfn K mg "smallest_code" s_smallest_code ["period", "slots", "many"]
  f_l_codes_right : Dfn K mg "_law_codes_right" s_l_codes_right []
  f_l_draw : Dfn K mg "_law_draw" s_l_draw ["_law_pen_here", "_law_amount"]
  f_meet_once : Dfn K mg "meet_once" s_meet_once ["one", "other"]
  f_turned_slots : Dfn K mg "turned_slots" s_turned_slots ["pattern", "by"]
  f_turned : Dfn K mg "turned" s_turned ["pattern", "by"]
  f_l_pairs_right : Dfn K mg "_law_pairs_right" s_l_pairs_right ["_law_by"]
  f_l_pen : Dfn K mg "_law_pen" s_l_pen ["_law_cell_here"]
  f_law : Dfn K mg "law" s_law ["_law_script"]
  n_all : mg "all" = none
  n_any : mg "any" = none
  n_bool : mg "bool" = none
  n_enumerate : mg "enumerate" = none
  n_int : mg "int" = none
  n_isinstance : mg "isinstance" = none
  n_len : mg "len" = none
  n_max : mg "max" = none
  n_min : mg "min" = none
  n_range : mg "range" = none
  n_repr : mg "repr" = none
  n_sorted : mg "sorted" = none
  n_tuple : mg "tuple" = none
  n_zip : mg "zip" = none
  c_GREATEST_CODE_PERIOD : RelV (.int (13)) (gv K "GREATEST_CODE_PERIOD") ∧ mg "GREATEST_CODE_PERIOD" = some (gv K "GREATEST_CODE_PERIOD")
  c_GREATEST_PERIOD : RelV (.int (60)) (gv K "GREATEST_PERIOD") ∧ mg "GREATEST_PERIOD" = some (gv K "GREATEST_PERIOD")
  c_LEAST_PERIOD : RelV (.int (2)) (gv K "LEAST_PERIOD") ∧ mg "LEAST_PERIOD" = some (gv K "LEAST_PERIOD")
  c_LEAST_SLOTS : RelV (.int (2)) (gv K "LEAST_SLOTS") ∧ mg "LEAST_SLOTS" = some (gv K "LEAST_SLOTS")
  c_MOST_PATTERNS : RelV (.int (4)) (gv K "MOST_PATTERNS") ∧ mg "MOST_PATTERNS" = some (gv K "MOST_PATTERNS")
  c_MOST_SLOTS : RelV (.int (3)) (gv K "MOST_SLOTS") ∧ mg "MOST_SLOTS" = some (gv K "MOST_SLOTS")
def TxIn {K : PySem.W.Frag} {h : Heap} (_ : K.In h) (mg : Str → Option Value) : Prop := Tx K mg
def ct_l_cell : Ct := ⟨fun es => ∃ (ns : List Int) (k : Nat), es = [.scr ns, .dat (.int (k : Int))] ∧ ns.length ≤ 1000, fun _ r => ∃ i, r = .int i⟩
section
variable {P : Program} {w : World} {K : PySem.W.Frag} {mg : Str → Option Value} {base : Heap}
set_option maxHeartbeats 8000000 in
theorem u_l_cell (T : Tx K mg) : Use P w K mg base "_law_cell" 1 ["_law_script", "_law_k"] (spD K ct_l_cell) :=
  Use.mk' T.f_l_cell sc_l_cell (fun es hp => by
    obtain ⟨ns, k, rfl, _⟩ := hp
    exact ⟨rfl, rfl⟩) (fun f cdv A out s H E hG hr => ⟨_, (pss_cons (ps_if (pt_cmpR op_lt (pv 1) (pe_callB call_len1 rfl T.n_len (by decide +kernel) (pa_cons (pv 0) pa_nil)) (nomark _)) (pss_one (ps_ret (pe_ix ix_k (pv 0) (pv 1) (fun _ _ => rfl)))) pss_nil)
  (pss_one (ps_ret pe_int))), fun es hp => by
    obtain ⟨ns, k, rfl, hz⟩ := hp
    refine ws_seq <| ws_if <| wt_test <| w_op <| w_var rfl <| w_lenScr (ns := ns) rfl <| k_lt ⟨_, rfl, ?_⟩
    refine ite_both (fun h => ?_) (fun h => ws_next <| ws_ret <| w_int ⟨_, rfl⟩)
    have hk : k < ns.length := by
      have := of_decide_eq_true h
      omega
    exact ws_ret <| k_ixScr rfl <| w_var rfl ⟨_, rfl, atI_nat (List.getElem?_eq_getElem hk), _, rfl⟩⟩)
end
def ct_l_same : Ct := ⟨fun es => ∃ c d, es = [.dat c, .dat d] ∧ Shows c ∧ Shows d, fun es r => ∃ c d, es = [.dat c, .dat d] ∧ r = .bool (decide (c.shown = d.shown))⟩
section
variable {P : Program} {w : World} {K : PySem.W.Frag} {mg : Str → Option Value} {base : Heap}
set_option maxHeartbeats 8000000 in
theorem u_l_same (T : Tx K mg) : Use P w K mg base "_law_same" 1 ["_law_found", "_law_due"] (spD K ct_l_same) :=
  Use.mk' T.f_l_same sc_l_same (fun es hp => by
    obtain ⟨c, d, rfl, _⟩ := hp
    exact ⟨rfl, rfl⟩) (fun f cdv A out s H E hG hr => ⟨_, (pss_one (ps_ret (pe_cmpR (op_eqK hr.units) (pe_callB (call_repr hG (room70 hr)) rfl T.n_repr (by decide +kernel) (pa_cons (pv 0) pa_nil)) (pe_callB (call_repr hG (room70 hr)) rfl T.n_repr (by decide +kernel) (pa_cons (pv 1) pa_nil)) (nomark _)))), fun es hp => by
    obtain ⟨c, d, rfl, ⟨c1, c2, c3, c4⟩, d1, d2, d3, d4⟩ := hp
    refine ws_ret (w_op (w_cb (wa_cons (w_var rfl (wa_nil (b_repr c1 c2 c3 c4 (w_cb (wa_cons (w_var rfl (wa_nil (b_repr d1 d2 d3 d4 (k_eqS ⟨_, _, rfl, ?_⟩))))))))))))
    rfl⟩)
end
def isInt : Dt → Bool
  | .int _ => true
  | _ => false
def ct_is_integer : Ct := ⟨fun es => ∃ d, es = [.dat d], fun es r => ∃ d, es = [.dat d] ∧ r = .bool (isInt d)⟩
section
variable {P : Program} {w : World} {K : PySem.W.Frag} {mg : Str → Option Value} {base : Heap}
set_option maxHeartbeats 8000000 in
theorem u_is_integer (T : Tx K mg) : Use P w K mg base "is_integer" 1 ["thing"] (spD K ct_is_integer) :=
  Use.mk' T.f_is_integer sc_is_integer (fun es hp => by
    obtain ⟨d, rfl⟩ := hp
    exact ⟨rfl, rfl⟩) (fun f cdv A out s H E hG hr => ⟨_, (pss_one (ps_ret (pe_and (pe_callB call_isi rfl T.n_isinstance (by decide +kernel) (pa_cons (pv 0) (pa_cons (pe_bltn (v := V.ty "int") rfl T.n_int (by decide +kernel) rfl) pa_nil))) (pe_one (pe_not (pe_callB call_isi rfl T.n_isinstance (by decide +kernel) (pa_cons (pv 0) (pa_cons (pe_bltn (v := V.ty "bool") rfl T.n_bool (by decide +kernel) rfl) pa_nil)))))))), fun es hp => by
    obtain ⟨d, rfl⟩ := hp
    refine ws_ret (w_andV (w_isi (by simp) (w_var rfl ⟨_, rfl, ?_⟩)))
    cases d <;> first
      | exact iteT (w_notV (w_isi (by simp) (w_var rfl ⟨_, rfl, _, rfl, rfl⟩)))
      | exact iteF ⟨_, rfl, rfl⟩⟩)
end
def isFrom (lo hi : Int) : Dt → Bool
  | .int i => decide (lo ≤ i) && decide (i ≤ hi)
  | _ => false
def ct_is_integer_from : Ct := ⟨fun es => ∃ d lo hi, es = [.dat d, .dat (.int lo), .dat (.int hi)], fun es r => ∃ d lo hi, es = [.dat d, .dat (.int lo), .dat (.int hi)] ∧ r = .bool (isFrom lo hi d)⟩
section
variable {P : Program} {w : World} {K : PySem.W.Frag} {mg : Str → Option Value} {base : Heap}
set_option maxHeartbeats 8000000 in
theorem u_is_integer_from (T : Tx K mg) (U_is_integer : Use P w K mg base "is_integer" 1 ["thing"] (spD K ct_is_integer)) : Use P w K mg base "is_integer_from" 2 ["thing", "low", "high"] (spD K ct_is_integer_from) :=
  Use.mk' T.f_is_integer_from sc_is_integer_from (fun es hp => by
    obtain ⟨d, lo, hi, rfl⟩ := hp
    exact ⟨rfl, rfl⟩) (fun f cdv A out s H E hG hr => ⟨_, (pss_one (ps_ret (pe_and (pe_u U_is_integer hG hr rfl (pa_cons (pv 0) pa_nil)) (pe_one (pe_chain op_le op_le (pv 1) (pv 0) (pv 2)))))), fun es hp => by
    obtain ⟨d, lo, hi, rfl⟩ := hp
    refine ws_ret (w_andV (w_call (wa_cons (w_var rfl (wa_nil ⟨⟨_, rfl⟩, fun r hr => ?_⟩)))))
    obtain ⟨d', e1, rfl⟩ := hr
    cases e1
    refine ⟨_, rfl, ?_⟩
    cases d with
    | int i =>
      refine iteT (w_chain (w_var rfl (w_var rfl (k_le ⟨_, rfl, ?_⟩))))
      by_cases h : lo ≤ i
      · rw [if_pos (decide_eq_true h)]
        refine w_var rfl (k_le ⟨_, _, _, rfl, ?_⟩)
        show _ = PyData.bool (decide (lo ≤ i) && decide (i ≤ hi))
        rw [decide_eq_true h, Bool.true_and]
      · rw [if_neg (by simpa using h)]
        refine ⟨_, _, _, rfl, ?_⟩
        show _ = PyData.bool (decide (lo ≤ i) && decide (i ≤ hi))
        rw [decide_eq_false h, Bool.false_and]
    | _ => exact iteF ⟨_, _, _, rfl, rfl⟩⟩)
end
abbrev ct_check_code : Ct := ctA (α := Int × Int) (fun a => [.dat (.int a.1), .dat (.int a.2)]) (fun a => CodeP a.1 a.2) (fun a r => r = .none)
section
variable {P : Program} {w : World} {K : PySem.W.Frag} {mg : Str → Option Value} {base : Heap}
set_option maxHeartbeats 8000000 in
theorem u_check_code (T : Tx K mg) (U_is_integer_from : Use P w K mg base "is_integer_from" 2 ["thing", "low", "high"] (spD K ct_is_integer_from)) : Use P w K mg base "check_code" 3 ["period", "slots"] (spD K ct_check_code) :=
  Use.mk' T.f_check_code sc_check_code (fun es hp => by
    obtain ⟨a, rfl, _⟩ := hp
    exact ⟨rfl, rfl⟩) (fun f cdv A out s H E hG hr => ⟨_, (pss_cons (ps_if (pt_not (pt_val (pe_u U_is_integer_from hG hr rfl (pa_cons (pv 0) (pa_cons (pe_glob rfl T.c_LEAST_PERIOD.2 T.c_LEAST_PERIOD.1) (pa_cons (pe_glob rfl T.c_GREATEST_CODE_PERIOD.2 T.c_GREATEST_CODE_PERIOD.1) pa_nil)))))) (pss_one ps_never) pss_nil)
  (pss_one (ps_if (pt_not (pt_val (pe_u U_is_integer_from hG hr rfl (pa_cons (pv 1) (pa_cons (pe_glob rfl T.c_LEAST_SLOTS.2 T.c_LEAST_SLOTS.1) (pa_cons (pe_glob rfl T.c_MOST_SLOTS.2 T.c_MOST_SLOTS.1) pa_nil)))))) (pss_one ps_never) pss_nil))), fun es hp => by
    obtain ⟨⟨n, k⟩, rfl, ⟨n0, n1⟩, hk⟩ := hp
    have n0 : 2 ≤ n := n0
    have n1 : n ≤ 13 := n1
    have hk : k = 2 ∨ k = 3 := hk
    refine ws_tell (rt := fun r => r = .none) ?_ (fun d h a e _ => h)
    refine ws_seq <| ws_if <| wt_not <| wt_B <| w_call <| wa_cons <| w_var rfl <| wa_cons <| w_int <| wa_cons <| w_int <| wa_nil ⟨⟨_, _, _, rfl⟩, fun r hr => ?_⟩
    obtain ⟨d, lo, hi, e1, rfl⟩ := hr
    cases e1
    refine ⟨_, rfl, ?_⟩
    have e2 : isFrom 2 13 (.int n) = true := by
      show (decide (2 ≤ n) && decide (n ≤ 13)) = true
      rw [decide_eq_true n0, decide_eq_true n1]
      rfl
    rw [e2]
    refine iteF <| ws_next <| ws_if <| wt_not <| wt_B <| w_call <| wa_cons <| w_var rfl <| wa_cons <| w_int <| wa_cons <| w_int <| wa_nil ⟨⟨_, _, _, rfl⟩, fun r hr => ?_⟩
    obtain ⟨d, lo, hi, e1, rfl⟩ := hr
    cases e1
    refine ⟨_, rfl, ?_⟩
    have e2 : isFrom 2 3 (.int k) = true := by
      show (decide (2 ≤ k) && decide (k ≤ 3)) = true
      rw [decide_eq_true (by omega), decide_eq_true (by omega)]
      rfl
    rw [e2]
    exact iteF <| ws_next rfl⟩)
end
def intsOf : List Dt → Option (List Int)
  | [] => some []
  | .int i :: ds => (intsOf ds).map (i :: ·)
  | _ :: _ => none
theorem intsOf_some : ∀ {ds : List Dt} {ns : List Int}, intsOf ds = some ns → ds = ns.map .int
  | [], ns, h => by
    obtain rfl := Option.some.inj h
    rfl
  | .int i :: ds, ns, h => by
    unfold intsOf at h
    cases q : intsOf ds with
    | none => rw [q] at h; cases h
    | some ms =>
      rw [q] at h
      obtain rfl := Option.some.inj h
      rw [intsOf_some q]
      rfl
  | .none :: _, _, h => by cases h
  | .bool _ :: _, _, h => by cases h
  | .str _ :: _, _, h => by cases h
  | .list _ :: _, _, h => by cases h
  | .tuple _ :: _, _, h => by cases h
  | .dict _ :: _, _, h => by cases h
theorem intsOf_map : ∀ ns : List Int, intsOf (ns.map .int) = some ns
  | [] => rfl
  | n :: ns => by
    show (intsOf (ns.map .int)).map (n :: ·) = _
    rw [intsOf_map ns]
    rfl
theorem intsOf_none {lo hi : Int} : ∀ {ds : List Dt}, intsOf ds = none → ds.all (isFrom lo hi) = false
  | [], h => by cases h
  | .int i :: ds, h => by
    unfold intsOf at h
    cases q : intsOf ds with
    | none => rw [List.all_cons, intsOf_none q, Bool.and_false]
    | some ms => rw [q] at h; cases h
  | .none :: _, _ => by simp [isFrom]
  | .bool _ :: _, _ => by simp [isFrom]
  | .str _ :: _, _ => by simp [isFrom]
  | .list _ :: _, _ => by simp [isFrom]
  | .tuple _ :: _, _ => by simp [isFrom]
  | .dict _ :: _, _ => by simp [isFrom]
def allIn (lo hi : Int) (ns : List Int) : Bool := ns.all fun i => decide (lo ≤ i) && decide (i ≤ hi)
theorem all_isFrom (lo hi : Int) (ns : List Int) : (ns.map PyData.int).all (isFrom lo hi) = allIn lo hi ns := by
  rw [List.all_map]
  rfl
def ascI (ns : List Int) : Bool := (ns.zip (ns.drop 1)).all fun p => decide (p.1 < p.2)
def isSet (lo hi : Int) : Dt → Bool
  | .tuple ds => match intsOf ds with
    | some ns => allIn lo hi ns && ascI ns
    | none => false
  | _ => false
theorem isSet_none {lo hi : Int} {ds : List Dt} (h : intsOf ds = none) : isSet lo hi (.tuple ds) = false := by
  show (match intsOf ds with | some ns => allIn lo hi ns && ascI ns | none => false) = false
  rw [h]
theorem isSet_some {lo hi : Int} {ds : List Dt} {ns : List Int} (h : intsOf ds = some ns) : isSet lo hi (.tuple ds) = (allIn lo hi ns && ascI ns) := by
  show (match intsOf ds with | some ns => allIn lo hi ns && ascI ns | none => false) = _
  rw [h]
theorem zip_ints (ns ms : List Int) : (ns.map PyData.int).zip (ms.map PyData.int) = (ns.zip ms).map fun p => (.int p.1, .int p.2) := by
  rw [List.zip_map]
  rfl
theorem cut1 (xs : List Dt) : DW.cutD xs (some 1) none = xs.drop 1 := by
  have e : HT.sIx xs.length 0 (some 1) = min 1 xs.length := HT.sIx_nat xs.length 0 1
  unfold DW.cutD
  rw [e, HT.sIx_none]
  cases xs with
  | nil => rfl
  | cons x r =>
    rw [show min 1 (x :: r).length = 1 by rw [List.length_cons]; omega]
    show List.take ((x :: r).length - 1) r = r
    rw [List.length_cons, Nat.add_sub_cancel]
    exact List.take_length
def ct_is_set : Ct := ⟨fun es => ∃ d lo hi, es = [.dat d, .dat (.int lo), .dat (.int hi)] ∧ lenOf d ≤ 1000000, fun es r => ∃ d lo hi, es = [.dat d, .dat (.int lo), .dat (.int hi)] ∧ r = .bool (isSet lo hi d)⟩
section
variable {P : Program} {w : World} {K : PySem.W.Frag} {mg : Str → Option Value} {base : Heap}
set_option maxHeartbeats 8000000 in
theorem u_is_set (T : Tx K mg) (U_is_integer_from : Use P w K mg base "is_integer_from" 2 ["thing", "low", "high"] (spD K ct_is_integer_from)) : Use P w K mg base "is_set" 3 ["thing", "low", "high"] (spD K ct_is_set) :=
  Use.mk' T.f_is_set sc_is_set (fun es hp => by
    obtain ⟨d, lo, hi, rfl, _⟩ := hp
    exact ⟨rfl, rfl⟩) (fun f cdv A out s H E hG hr => ⟨_, (pss_cons (ps_if (pt_not (pt_val (pe_callB call_isi rfl T.n_isinstance (by decide +kernel) (pa_cons (pv 0) (pa_cons (pe_bltn (v := V.ty "tuple") rfl T.n_tuple (by decide +kernel) rfl) pa_nil))))) (pss_one (ps_ret pe_bl)) pss_nil)
  (pss_cons (ps_if (pt_not (pt_val (pe_callB (cr_all rfl) rfl T.n_all (by decide +kernel) (pa_cons (pe_lc (own := [("part", 3)]) (g := gName 3) (tt := tYes) rfl sc_is_set.nd (pi_seq (pv 0)) (blkOk_by (N := ["thing", "low", "high", "part", "after"]) (sc := defScope s_is_set) (by decide +kernel)) (fun _ _ _ _ _ => (pg_name (i := 3) sc_is_set.nd rfl (by first | exact Or.inl rfl | exact Or.inr rfl))) (fun _ _ _ _ _ => pts_nil) (fun _ _ _ _ _ => (pe_u U_is_integer_from hG hr rfl (pa_cons (pv 3) (pa_cons (pv 1) (pa_cons (pv 2) pa_nil)))))) pa_nil)))) (pss_one (ps_ret pe_bl)) pss_nil)
  (pss_one (ps_ret (pe_callB (cr_all rfl) rfl T.n_all (by decide +kernel) (pa_cons (pe_lc (own := [("part", 3), ("after", 4)]) (g := gTup K 2 (gCons (gName 3) (gCons (gName 4) (gNil)))) (tt := tYes) rfl sc_is_set.nd (RZ.pi_zipA rfl T.n_zip (pa_cons (pv 0) (pa_cons (pe_slice sl_k (pv 0) (po_some pe_int) po_none) pa_nil))) (blkOk_by (N := ["thing", "low", "high", "part", "after"]) (sc := defScope s_is_set) (by decide +kernel)) (fun _ _ _ _ _ => (pg_tup rfl (pgs_cons (pg_name (i := 3) sc_is_set.nd rfl (by first | exact Or.inl rfl | exact Or.inr rfl)) (pgs_cons (pg_name (i := 4) sc_is_set.nd rfl (by first | exact Or.inl rfl | exact Or.inr rfl)) pgs_nil)))) (fun _ _ _ _ _ => pts_nil) (fun _ _ _ _ _ => (pe_cmpR op_lt (pv 3) (pv 4) (nomark _)))) pa_nil)))))), fun es hp => by
    obtain ⟨d, lo, hi, rfl, hz⟩ := hp
    refine ws_seq (ws_if (wt_not (wt_B (w_isi (by simp) (w_var rfl ⟨_, rfl, ?_⟩)))))
    cases d with
    | tuple ds =>
      refine iteF (ws_next (ws_seq (ws_if (wt_not (wt_B (w_cb (wa_cons (w_map (fun x => .bool (isFrom lo hi x)) (by decide) ?_))))))))
      refine wi_seqT (w_var rfl ⟨ds, rfl, hz, fun x _ => ?_, ?_⟩)
      · refine w_call (wa_cons (w_var rfl (wa_cons (w_var rfl (wa_cons (w_var rfl (wa_nil ⟨⟨_, _, _, rfl⟩, fun r hr => ?_⟩)))))))
        obtain ⟨d', lo', hi', e1, rfl⟩ := hr
        cases e1
        rfl
      refine wa_nil (b_allM ⟨_, rfl, ?_⟩)
      cases hq : intsOf ds with
      | none =>
        rw [intsOf_none hq]
        refine iteT (ws_ret (w_bl ⟨_, _, _, rfl, ?_⟩))
        rw [isSet_none hq]
      | some ns =>
        obtain rfl := intsOf_some hq
        rw [all_isFrom]
        cases ha : allIn lo hi ns with
        | false =>
          refine iteT (ws_ret (w_bl ⟨_, _, _, rfl, ?_⟩))
          rw [isSet_some hq, ha, Bool.false_and]
        | true =>
          refine iteF (ws_next (ws_ret (w_cb (wa_cons (w_map2 (α := Int × Int) (fun p => .int p.1) (fun p => .int p.2) (fun p => .bool (decide (p.1 < p.2))) (by decide) (by decide) ?_)))))
          refine wi_zipT (wa_cons (w_var rfl (wa_cons (w_sl (w_var rfl (wo_some (w_int ⟨_, rfl, wo_none (k_slT ?_)⟩)))))))
          refine wa_nil ⟨_, _, rfl, ns.zip (ns.drop 1), ?_, ?_, fun p _ => w_op (w_var rfl (w_var rfl (k_lt rfl))), wa_nil (b_allM ⟨_, _, _, rfl, ?_⟩)⟩
          · rw [cut1, pairs_zip, ← List.map_drop, zip_ints, List.map_map]
            rfl
          · rw [List.length_zip]
            have hz' : (ns.map PyData.int).length ≤ 1000000 := hz
            rw [List.length_map] at hz'
            omega
          · rw [isSet_some hq, ha, Bool.true_and]
            rfl
    | _ => exact iteT (ws_ret (w_bl ⟨_, _, _, rfl, rfl⟩))⟩)
end
def isPat : Dt → Bool
  | .tuple [.int n, .tuple ds] => (decide (2 ≤ n) && decide (n ≤ 60)) && (isSet 0 (n - 1) (.tuple ds) && (decide (1 ≤ (ds.length : Int)) && decide ((ds.length : Int) < n)))
  | _ => false
/-- what a pair holds is not too long -/
def tame (d : Dt) : Prop := ∀ p s, d = .tuple [p, s] → lenOf s ≤ 1000000
theorem ascI_of : ∀ {ms : List Int}, ms.Pairwise (· < ·) → ascI ms = true
  | [], _ => rfl
  | [_], _ => rfl
  | a :: b :: r, h => by
    obtain ⟨h1, h2⟩ := List.pairwise_cons.mp h
    have ih := ascI_of h2
    unfold ascI at ih ⊢
    show ((a, b) :: (b :: r).zip r).all (fun p => decide (p.1 < p.2)) = true
    rw [List.all_cons, Bool.and_eq_true]
    exact ⟨decide_eq_true (h1 b List.mem_cons_self), ih⟩
theorem beat_isPat {n : Int} {ms : List Int} (b : Beat n ms) : isPat (patD n ms) = true := by
  have h1 : allIn 0 (n - 1) ms = true := by
    unfold allIn
    rw [List.all_eq_true]
    intro s hs
    have := b.inn s hs
    rw [decide_eq_true (by omega), decide_eq_true (by omega)]
    rfl
  show ((decide (2 ≤ n) && decide (n ≤ 60)) && (isSet 0 (n - 1) (.tuple (ms.map .int)) && (decide (1 ≤ ((ms.map PyData.int).length : Int)) && decide (((ms.map PyData.int).length : Int) < n)))) = true
  rw [isSet_some (intsOf_map ms), h1, ascI_of b.asc, List.length_map, decide_eq_true b.n0, decide_eq_true b.n1, decide_eq_true b.few]
  have := List.length_pos_iff.mpr b.ne
  rw [decide_eq_true (by omega)]
  rfl
theorem beat_tame {n : Int} {ms : List Int} (b : Beat n ms) : tame (patD n ms) := fun p s e => by
  unfold patD at e
  injection e with e
  injection e with e1 e2
  injection e2 with e2
  subst e2
  show (ms.map PyData.int).length ≤ _
  have := b.few
  have := b.n1
  rw [List.length_map]
  omega
def ct_is_pattern : Ct := ⟨fun es => ∃ d, es = [.dat d] ∧ tame d, fun es r => ∃ d, es = [.dat d] ∧ r = .bool (isPat d)⟩
section
variable {P : Program} {w : World} {K : PySem.W.Frag} {mg : Str → Option Value} {base : Heap}
set_option maxHeartbeats 8000000 in
theorem u_is_pattern (T : Tx K mg) (U_is_integer_from : Use P w K mg base "is_integer_from" 2 ["thing", "low", "high"] (spD K ct_is_integer_from)) (U_is_set : Use P w K mg base "is_set" 3 ["thing", "low", "high"] (spD K ct_is_set)) : Use P w K mg base "is_pattern" 4 ["thing"] (spD K ct_is_pattern) :=
  Use.mk' T.f_is_pattern sc_is_pattern (fun es hp => by
    obtain ⟨d, rfl, _⟩ := hp
    exact ⟨rfl, rfl⟩) (fun f cdv A out s H E hG hr => ⟨_, (pss_cons (ps_if (PW.pt (pw_or (pt_not (pt_val (pe_callB call_isi rfl T.n_isinstance (by decide +kernel) (pa_cons (pv 0) (pa_cons (pe_bltn (v := V.ty "tuple") rfl T.n_tuple (by decide +kernel) rfl) pa_nil))))) (pw_or1 (pt_cmpR (op_neK hr.units) (pe_callB call_len1 rfl T.n_len (by decide +kernel) (pa_cons (pv 0) pa_nil)) pe_int (nomark _))))) (pss_one (ps_ret pe_bl)) pss_nil)
  (pss_cons (ps_asg (pv 0) (pg_tup rfl (pgs_cons (pg_name (i := 1) sc_is_pattern.nd rfl (by first | exact Or.inl rfl | exact Or.inr rfl)) (pgs_cons (pg_name (i := 2) sc_is_pattern.nd rfl (by first | exact Or.inl rfl | exact Or.inr rfl)) pgs_nil))))
  (pss_cons (ps_if (pt_not (pt_val (pe_u U_is_integer_from hG (hr.mono (by decide)) rfl (pa_cons (pv 1) (pa_cons (pe_glob rfl T.c_LEAST_PERIOD.2 T.c_LEAST_PERIOD.1) (pa_cons (pe_glob rfl T.c_GREATEST_PERIOD.2 T.c_GREATEST_PERIOD.1) pa_nil)))))) (pss_one (ps_ret pe_bl)) pss_nil)
  (pss_one (ps_ret (pe_and (pe_u U_is_set hG hr rfl (pa_cons (pv 2) (pa_cons pe_int (pa_cons (pe_op op_sub (pv 1) pe_int) pa_nil)))) (pe_one (pe_chain op_le op_lt pe_int (pe_callB call_len1 rfl T.n_len (by decide +kernel) (pa_cons (pv 2) pa_nil)) (pv 1))))))))), fun es hp => by
    obtain ⟨d, rfl, hz⟩ := hp
    refine ws_seq (ws_if (wt_or (wt_not (wt_B (w_isi (by simp) (w_var rfl ⟨_, rfl, ?_⟩))))))
    cases d with
    | tuple ds =>
      refine iteF (wt_test (w_op (w_cb (wa_cons (w_var rfl (wa_nil (b_lenT (w_int (k_ne rfl rfl ⟨_, rfl, ?_⟩)))))))))
      rw [eqv_int]
      have short : ¬ ds.length = 2 → isPat (.tuple ds) = false := fun h => by
        match ds, h with
        | [], _ => rfl
        | [_], _ => simp [isPat]
        | [_, _], h => exact absurd rfl h
        | _ :: _ :: _ :: _, _ => simp [isPat]
      refine ite_both (fun h => ws_ret (w_bl ⟨_, rfl, ?_⟩)) (fun h => ?_)
      · rw [short]
        intro h2
        rw [h2] at h
        exact absurd h (by decide)
      have h2 : ds.length = 2 := by
        have h3 : decide ((ds.length : Int) = 2) = true := by simpa using h
        have h4 := of_decide_eq_true h3
        omega
      obtain ⟨p, s, rfl⟩ : ∃ p s, ds = [p, s] := by
        match ds, h2 with
        | [p, s], _ => exact ⟨p, s, rfl⟩
      have hs := hz p s rfl
      refine ws_next (ws_seq (ws_asgT (w_var rfl (g_tup rfl (gs_cons (g_name (gs_cons (g_name (gs_nil ?_)))))))))
      refine ws_seq (ws_if (wt_not (wt_B (w_call (wa_cons (w_var rfl (wa_cons (w_int (wa_cons (w_int (wa_nil ⟨⟨_, _, _, rfl⟩, fun r hr => ?_⟩)))))))))))
      obtain ⟨d', lo', hi', e1, rfl⟩ := hr
      cases e1
      refine ⟨_, rfl, ?_⟩
      cases hf : isFrom 2 60 p with
      | false =>
        refine iteT (ws_ret (w_bl ⟨_, rfl, ?_⟩))
        cases p with
        | int n =>
          have hf' : (decide (2 ≤ n) && decide (n ≤ 60)) = false := hf
          cases s with
          | tuple ts =>
            show _ = PyData.bool ((decide (2 ≤ n) && decide (n ≤ 60)) && _)
            rw [hf', Bool.false_and]
          | _ => rfl
        | _ => rfl
      | true =>
        cases p with
        | int n =>
          have hf' : (decide (2 ≤ n) && decide (n ≤ 60)) = true := hf
          refine iteF (ws_next (ws_ret (w_andV (w_call (wa_cons (w_var rfl (wa_cons (w_int (wa_cons (w_op (w_var rfl (w_int (k_sub ?_)))))))))))))
          refine wa_nil ⟨⟨_, _, _, rfl, hs⟩, fun r hr => ?_⟩
          obtain ⟨d', lo', hi', e1, rfl⟩ := hr
          cases e1
          refine ⟨_, rfl, ?_⟩
          cases s with
          | tuple ts =>
            refine ite_both (fun h => w_chain (w_int (w_cb (wa_cons (w_var rfl (wa_nil (b_lenT (k_le ⟨_, rfl, ?_⟩)))))))) (fun h => ⟨_, rfl, ?_⟩)
            · refine ite_both (fun h5 => w_var rfl (k_lt ⟨_, rfl, ?_⟩)) (fun h5 => ⟨_, rfl, ?_⟩)
              · show _ = PyData.bool ((decide (2 ≤ n) && decide (n ≤ 60)) && (isSet 0 (n - 1) (.tuple ts) && (decide (1 ≤ (ts.length : Int)) && _)))
                rw [hf', h, h5]
                rfl
              · show _ = PyData.bool ((decide (2 ≤ n) && decide (n ≤ 60)) && (isSet 0 (n - 1) (.tuple ts) && (decide (1 ≤ (ts.length : Int)) && _)))
                rw [hf', h, h5]
                rfl
            · show _ = PyData.bool ((decide (2 ≤ n) && decide (n ≤ 60)) && (isSet 0 (n - 1) (.tuple ts) && _))
              rw [hf', h]
              rfl
          | _ => exact iteF ⟨_, rfl, rfl⟩
        | _ => cases hf
    | _ => exact iteT (iteT (ws_ret (w_bl ⟨_, rfl, rfl⟩)))⟩)
end
def ct_check_pattern : Ct := ⟨fun es => ∃ d, es = [.dat d] ∧ tame d ∧ isPat d = true, fun _ r => r = .none⟩
section
variable {P : Program} {w : World} {K : PySem.W.Frag} {mg : Str → Option Value} {base : Heap}
set_option maxHeartbeats 8000000 in
theorem u_check_pattern (T : Tx K mg) (U_is_pattern : Use P w K mg base "is_pattern" 4 ["thing"] (spD K ct_is_pattern)) : Use P w K mg base "check_pattern" 5 ["pattern"] (spD K ct_check_pattern) :=
  Use.mk' T.f_check_pattern sc_check_pattern (fun es hp => by
    obtain ⟨d, rfl, _⟩ := hp
    exact ⟨rfl, rfl⟩) (fun f cdv A out s H E hG hr => ⟨_, (pss_one (ps_if (pt_not (pt_val (pe_u U_is_pattern hG hr rfl (pa_cons (pv 0) pa_nil)))) (pss_one ps_never) pss_nil)), fun es hp => by
    obtain ⟨d, rfl, ht, hpat⟩ := hp
    refine ws_if (wt_not (wt_B (w_call (wa_cons (w_var rfl (wa_nil ⟨⟨_, rfl, ht⟩, fun r hr => ?_⟩))))))
    obtain ⟨d', e1, rfl⟩ := hr
    cases e1
    refine ⟨_, rfl, ?_⟩
    rw [hpat]
    exact iteF (ws_next rfl)⟩)
end
abbrev ct_distances : Ct := ctA (α := Int × List Int) (fun a => [.dat (patP a)]) (fun a => Beat a.1 a.2) (fun a r => r = .tuple ((distL a.1 a.2).map .int))
section
variable {P : Program} {w : World} {K : PySem.W.Frag} {mg : Str → Option Value} {base : Heap}
set_option maxHeartbeats 8000000 in
theorem u_distances (T : Tx K mg) (U_check_pattern : Use P w K mg base "check_pattern" 5 ["pattern"] (spD K ct_check_pattern)) : Use P w K mg base "distances" 6 ["pattern"] (spD K ct_distances) :=
  Use.mk' T.f_distances sc_distances (fun es hp => by
    obtain ⟨a, rfl, _⟩ := hp
    exact ⟨rfl, rfl⟩) (fun f cdv A out s H E hG hr => ⟨_, (pss_cons (ps_expr (pe_u U_check_pattern hG hr rfl (pa_cons (pv 0) pa_nil)))
  (pss_cons (ps_asg (pv 0) (pg_tup rfl (pgs_cons (pg_name (i := 1) sc_distances.nd rfl (by first | exact Or.inl rfl | exact Or.inr rfl)) (pgs_cons (pg_name (i := 2) sc_distances.nd rfl (by first | exact Or.inl rfl | exact Or.inr rfl)) pgs_nil))))
  (pss_one (ps_ret (pe_callTy call_tup1 rfl T.n_tuple boot_tuple (pa_cons (pe_callB (cr_sortedSet rfl) rfl T.n_sorted (by decide +kernel) (pa_cons (ScI.pe_st2 (own := [("one", 3), ("other", 4)]) (vs1 := [4]) (te := (tOp (rI (fun _ j => 0 < j) fun i j => .int (i % j)) (tOp (rI0 fun i j => .int (i - j)) (tVar 3) (tVar 4)) (tVar 1))) (wi1 := iSeq K (tVar 2)) (g := gName 3) (tt := tYes) (g1 := gName 4) (tt1 := (tTest (tOp (rNeK K) (tVar 3) (tVar 4)))) rfl sc_distances.nd (pi_seq (pv 2)) (blkOk_by (N := ["pattern", "period", "slots", "one", "other"]) (sc := defScope s_distances) (by decide +kernel)) (by decide) (fun _ _ _ _ _ => (pg_name (i := 3) sc_distances.nd rfl (by first | exact Or.inl rfl | exact Or.inr rfl))) (fun _ _ _ _ _ => pts_nil) (fun _ _ _ _ _ => (pi_seq (pv 2))) (fun _ _ _ _ _ => (pg_name (i := 4) sc_distances.nd rfl (by first | exact Or.inl rfl | exact Or.inr rfl))) (fun _ _ _ _ _ => (pts_one (pt_cmpR (op_neK hr.units) (pv 3) (pv 4) (nomark _)))) (fun _ _ _ _ _ => (pe_op op_mod (pe_op op_sub (pv 3) (pv 4)) (pv 1)))) pa_nil)) pa_nil)))))), fun es hp => by
    obtain ⟨⟨n, ms⟩, rfl, hb⟩ := hp
    have hb : Beat n ms := hb
    have n0 := hb.n0
    have n1 := hb.n1
    have few := hb.few
    refine ws_tell (rt := fun r => r = .tuple ((distL n ms).map .int)) ?_ (fun d h a e _ => by
      obtain ⟨n', ms'⟩ := a
      obtain ⟨c1, c2⟩ := patD_inj (es1 e)
      subst c1 c2
      exact h)
    refine ws_seq <| ws_drop <| w_call <| wa_cons <| w_var rfl <| wa_nil ⟨⟨_, rfl, beat_tame hb, beat_isPat hb⟩, fun _ _ => ?_⟩
    refine ws_seq <| ws_asgT <| w_var rfl <| g_tup rfl <| gs_cons <| g_name <| gs_cons <| g_name <| gs_nil ?_
    refine ws_ret <| w_cb <| wa_cons <| w_sortedSt2 (gin_name (by decide)) gm_name (by decide) <| wi_seqT <| w_var rfl ⟨_, rfl, by rw [List.length_map]; show ms.length ≤ 60; omega, fun i acc => ∀ k, k ∈ acc ↔ ∃ a ∈ ms.take i, ∃ b ∈ ms, a ≠ b ∧ (a - b) % n = k, ?_, ?_, ?_⟩
    · intro k
      simp
    · rintro i x acc hx hP
      rw [List.getElem?_map] at hx
      cases hs : ms[i]? with
      | none => rw [hs] at hx; cases hx
      | some s =>
        rw [hs] at hx
        cases hx
        refine g_name <| wi_seqT <| w_var rfl ⟨_, rfl, by rw [List.length_map]; show ms.length ≤ 60; omega, fun j acc => ∀ k, k ∈ acc ↔ (∃ a ∈ ms.take i, ∃ b ∈ ms, a ≠ b ∧ (a - b) % n = k) ∨ ∃ b ∈ ms.take j, s ≠ b ∧ (s - b) % n = k, ?_, ?_, ?_⟩
        · intro k
          rw [hP k]
          simp
        · rintro j y a hy hQ
          rw [List.getElem?_map] at hy
          cases hr : ms[j]? with
          | none => rw [hr] at hy; cases hy
          | some r =>
            rw [hr] at hy
            cases hy
            refine wt_test <| w_op <| w_var rfl <| w_var rfl <| k_ne rfl rfl ⟨_, rfl, ?_⟩
            rw [eqv_int]
            have st : ms.take (j + 1) = ms.take j ++ [r] := take_snoc hr
            refine ite_both (fun h => w_op <| w_op <| w_var rfl <| w_var rfl <| k_sub <| w_var rfl <| k_mod (by omega) ⟨_, rfl, fun k => ?_⟩) (fun h k => ?_)
            · have ne : s ≠ r := by
                have h' : decide (s = r) = false := by simpa using h
                exact of_decide_eq_false h'
              rw [mem_putI, hQ k, st]
              constructor
              · rintro ((h1 | ⟨b, hb1, hb2⟩) | h1)
                · exact .inl h1
                · exact .inr ⟨b, List.mem_append_left _ hb1, hb2⟩
                · exact .inr ⟨r, by simp, ne, h1.symm⟩
              · rintro (h1 | ⟨b, hb1, hb2⟩)
                · exact .inl (.inl h1)
                · rcases List.mem_append.mp hb1 with z | z
                  · exact .inl (.inr ⟨b, z, hb2⟩)
                  · rw [List.mem_singleton] at z
                    subst z
                    exact .inr hb2.2.symm
            · have eq : s = r := by
                have h' : decide (s = r) = true := by simpa using h
                exact of_decide_eq_true h'
              rw [hQ k, st]
              constructor
              · rintro (h1 | ⟨b, hb1, hb2⟩)
                · exact .inl h1
                · exact .inr ⟨b, List.mem_append_left _ hb1, hb2⟩
              · rintro (h1 | ⟨b, hb1, hb2⟩)
                · exact .inl h1
                · rcases List.mem_append.mp hb1 with z | z
                  · exact .inr ⟨b, z, hb2⟩
                  · rw [List.mem_singleton] at z
                    subst z
                    exact absurd eq hb2.1
        · intro a hQ k
          rw [List.length_map, List.take_length] at hQ
          rw [hQ k, take_snoc hs]
          constructor
          · rintro (⟨a', ha, hb2⟩ | h1)
            · exact ⟨a', List.mem_append_left _ ha, hb2⟩
            · exact ⟨s, by simp, h1⟩
          · rintro ⟨a', ha, hb2⟩
            rcases List.mem_append.mp ha with z | z
            · exact .inl ⟨a', z, hb2⟩
            · rw [List.mem_singleton] at z
              subst z
              exact .inr hb2
    · intro acc nd hP
      rw [List.length_map, List.take_length] at hP
      have hD : ∀ k, k ∈ acc ↔ k ∈ distL n ms := fun k => by rw [hP k, mem_dist (by omega)]
      refine ⟨?_, fun L pw mem => wa_nil <| b_tupL ?_⟩
      · have h1 := nodup_le nd (ys := distL n ms) fun k hk => (hD k).mp hk
        have h2 := dist_len (n := n) (ms := ms) (by omega)
        omega
      · have e : L = distL n ms := asc_ext pw (dist_asc n ms) fun k => by rw [mem k, hD k]
        rw [e]⟩)
end
abbrev ct_code_rows : Ct := ctA (α := Int × Int) (fun a => [.dat (.int a.1), .dat (.int a.2)]) (fun a => CodeP a.1 a.2) (fun a r => r = .list ((codeRows a.1 a.2).map (crD a.1)))
section
variable {P : Program} {w : World} {K : PySem.W.Frag} {mg : Str → Option Value} {base : Heap}
set_option maxHeartbeats 8000000 in
theorem u_code_rows (T : Tx K mg) (U_distances : Use P w K mg base "distances" 6 ["pattern"] (spD K ct_distances)) : Use P w K mg base "code_rows" 7 ["period", "slots"] (spD K ct_code_rows) :=
  Use.mk' T.f_code_rows sc_code_rows (fun es hp => by
    obtain ⟨a, rfl, _⟩ := hp
    exact ⟨rfl, rfl⟩) (fun f cdv A out s H E hG hr => ⟨_, (pss_cons (ps_if (pt_cmpR op_ge (pv 1) (pv 0) (nomark _)) (pss_one (ps_ret (pe_lst pa_nil))) pss_nil)
  (pss_cons (ps_set (i := 2) sc_code_rows.nd rfl (by first | exact Or.inl rfl | exact Or.inr rfl) (pe_lst (pa_cons (pe_tup (pa_cons pe_int pa_nil)) pa_nil)))
  (pss_cons (ps_for PassesOwn.never rfl (pi_range1 rfl T.n_range (pa_cons (pe_op op_sub (pv 1) pe_int) pa_nil)) (pg_name (i := 3) sc_code_rows.nd rfl (by first | exact Or.inl rfl | exact Or.inr rfl)) (pss_one (ps_setLc2 (i := 2) (own := [("row", 4), ("slot", 5)]) (vs1 := [5]) (te := (tTup (StX.tStar K (tVar 4) (tCons (tVar 5) tNil)))) (wi1 := iRng2 (tCons (tOp (rAddK K) (tOp (rIxK K) (tVar 4) (tUn (rU fun i => .int (-i)) (tC (.int 1)))) (tC (.int 1))) (tCons (tVar 0) tNil))) (g := gName 4) (tt := tYes) (g1 := gName 5) (tt1 := tYes) rfl sc_code_rows.nd rfl rfl (sw_true rfl rfl rfl (by decide +kernel)) (pi_seq (pv 2)) (blkOk_by (N := ["period", "slots", "rows", "_", "row", "slot"]) (sc := defScope s_code_rows) (by decide +kernel)) (by decide) (fun _ _ _ _ _ => (pg_name (i := 4) sc_code_rows.nd rfl (by first | exact Or.inl rfl | exact Or.inr rfl))) (fun _ _ _ _ _ => pts_nil) (fun _ _ _ _ _ => (pi_range2 rfl T.n_range (pa_cons (pe_op op_addK (pe_ix ix_k (pv 4) (pe_un un_neg pe_int) (fun _ _ => rfl)) pe_int) (pa_cons (pv 0) pa_nil)))) (fun _ _ _ _ _ => (pg_name (i := 5) sc_code_rows.nd rfl (by first | exact Or.inl rfl | exact Or.inr rfl))) (fun _ _ _ _ _ => pts_nil) (fun _ _ _ _ _ => (pe_tup (StX.pa_star (pv 4) (pa_cons (pv 5) pa_nil)))))))
  (pss_one (ps_ret (pe_lc (own := [("row", 4)]) (g := gName 4) (tt := tYes) rfl sc_code_rows.nd (pi_seq (pv 2)) (blkOk_by (N := ["period", "slots", "rows", "_", "row", "slot"]) (sc := defScope s_code_rows) (by decide +kernel)) (fun _ _ _ _ _ => (pg_name (i := 4) sc_code_rows.nd rfl (by first | exact Or.inl rfl | exact Or.inr rfl))) (fun _ _ _ _ _ => pts_nil) (fun _ _ _ _ _ => (pe_tup (pa_cons (pe_tup (pa_cons (pv 0) (pa_cons (pv 4) pa_nil))) (pa_cons (pe_u U_distances hG hr rfl (pa_cons (pe_tup (pa_cons (pv 0) (pa_cons (pv 4) pa_nil))) pa_nil)) pa_nil)))))))))), fun es hp => by
    obtain ⟨⟨n, k⟩, rfl, hc⟩ := hp
    have hc : CodeP n k := hc
    have n0 := hc.1.1
    have n1 := hc.1.2
    have hk := hc.2
    refine ws_tell (rt := fun r => r = .list ((codeRows n k).map (crD n))) ?_ (fun d h a e _ => by
      obtain ⟨n', k'⟩ := a
      obtain ⟨e1, e2⟩ := es2 e
      have c1 := int_inj e1
      have c2 := int_inj e2
      subst c1 c2
      exact h)
    refine ws_seq <| ws_if <| wt_test <| w_op <| w_var rfl <| w_var rfl <| k_ge ⟨_, rfl, ?_⟩
    refine ite_both (fun h => ws_ret <| w_lst <| wa_nil ⟨[], rfl, Nat.zero_le _, ?_⟩) (fun h => ws_next ?_)
    · have h := of_decide_eq_true h
      unfold codeRows
      rw [if_pos h]
      rfl
    have h := of_decide_eq_false h
    refine ws_seq <| ws_asg <| w_lst <| wa_cons <| w_tup <| wa_cons <| w_int <| wa_nil ⟨_, rfl, by show 1 ≤ sizeLine; decide, wa_nil ⟨_, rfl, by show 1 ≤ sizeLine; decide, ?_⟩⟩
    refine ws_seq <| ws_for <| wi_rng1 <| wa_cons <| w_op <| w_var rfl <| w_int <| k_sub <| wa_nil ⟨k - 1, rfl, by omega, by omega, fun i δ' => ∃ x, δ' = [.dat (.int n), .dat (.int k), .dat (.list ((slotRows n i).map offsD)), x, .unk, .unk], ⟨_, rfl⟩, ?_, ?_⟩
    · rintro i x δ' hx ⟨x2, rfl⟩
      obtain ⟨hi, rfl⟩ := up_get hx
      have i2 : i ≤ 2 := by omega
      obtain ⟨B1, B2⟩ := slot_bnd n0 n1 i i2
      have B3 : (slotRows n i).length ≤ 169 := Nat.le_trans B2 (by
        have : i = 0 ∨ i = 1 ∨ i = 2 := by omega
        rcases this with e | e | e <;> subst e <;> decide)
      refine g_name <| ws_asg <| w_lc2 (gin_name (by decide)) gm_name (by decide) <| wi_seqL <| w_var rfl ⟨_, rfl, by rw [List.length_map]; omega, fun j acc => acc = (extR n ((slotRows n i).take j)).map offsD, rfl, ?_, ?_⟩
      · rintro j x acc hx rfl
        rw [List.getElem?_map] at hx
        cases hr : (slotRows n i)[j]? with
        | none => rw [hr] at hx; cases hx
        | some r =>
          rw [hr] at hx
          cases hx
          obtain ⟨lr, l0, l1⟩ := B1 r (List.mem_of_getElem? hr)
          refine g_name <| wi_rng2 <| wa_cons <| w_op <| w_op <| w_var rfl <| w_un <| w_int <| u_neg <| k_ixT (row_last lr) <| w_int <| k_addI <| wa_cons <| w_var rfl <| wa_nil ⟨lastI r + 1, n, rfl, by omega, by rw [up_len]; omega, fun c a => a = (extR n ((slotRows n i).take j) ++ (upI (lastI r + 1) c).map fun x => r ++ [x]).map offsD, ?_, ?_, ?_⟩
          · show _ = (_ ++ []).map offsD
            rw [List.append_nil]
          · rintro c y a hy rfl
            obtain ⟨hc, rfl⟩ := up_get hy
            refine w_tup <| wa_star <| w_var rfl ⟨r.map .int, rfl, wa_cons <| w_var rfl <| wa_nil ⟨(r ++ [lastI r + 1 + (c : Int)]).map .int, ?_, ?_, ?_⟩⟩
            · show dats ((r.map PyData.int).map DW.E.dat ++ [DW.E.dat (.int (lastI r + 1 + (c : Int)))]) = _
              have := dats_ints (r ++ [lastI r + 1 + (c : Int)])
              rw [List.map_append] at this
              rw [List.map_map]
              exact this
            · rw [List.length_map, List.length_append, sizeLine_eq]
              show r.length + 1 ≤ _
              omega
            · have st : upI (lastI r + 1) (c + 1) = upI (lastI r + 1) c ++ [lastI r + 1 + (c : Int)] := by
                unfold upI
                rw [List.range_succ, List.map_append]
                rfl
              dsimp only
              rw [st]
              have e3 : ∀ A B : List (List Int), (A ++ B).map offsD ++ [PyData.tuple ((r ++ [lastI r + 1 + (c : Int)]).map .int)] = (A ++ (B ++ [r ++ [lastI r + 1 + (c : Int)]])).map offsD := fun A B => by
                rw [← List.append_assoc, List.map_append (l₂ := [r ++ [lastI r + 1 + (c : Int)]])]
                rfl
              rw [e3, List.map_append (f := fun x => r ++ [x])]
              rfl
          · rintro a rfl
            rw [up_len, take_snoc hr]
            unfold extR
            rw [List.flatMap_append]
            simp
      · rintro acc rfl
        refine ⟨.dat (.int (0 + (i : Int))), ?_⟩
        rw [List.length_map, List.take_length]
        rfl
    · rintro δ' ⟨x2, rfl⟩
      rw [up_len]
      have ek : codeRows n k = (slotRows n (k - 1).toNat).map fun r => (r, distL n r) := by
        unfold codeRows
        rw [if_neg h]
      have few := code_few hc
      have be := code_beats hc
      rw [ek, List.length_map] at few
      refine ws_ret <| w_mapP (α := List Int) offsD (fun r => crD n (r, distL n r)) (by decide) <| wi_seqL <| w_var rfl ⟨_, rfl, slotRows n (k - 1).toNat, rfl, by omega, fun r hr => ?_, ?_⟩
      · have b : Beat n r := be (r, distL n r) (by rw [ek]; exact List.mem_map.mpr ⟨r, hr, rfl⟩)
        refine w_tup <| wa_cons <| w_tup <| wa_cons <| w_var rfl <| wa_cons <| w_var rfl <| wa_nil ⟨_, rfl, by show 2 ≤ sizeLine; decide, wa_cons <| w_callA <| wa_cons <| w_tup <| wa_cons <| w_var rfl <| wa_cons <| w_var rfl <| wa_nil ⟨_, rfl, by show 2 ≤ sizeLine; decide, wa_nil ⟨(n, r), rfl, b, fun q hq => ?_⟩⟩⟩
        subst hq
        exact wa_nil ⟨_, rfl, by show 2 ≤ sizeLine; decide, rfl⟩
      · rw [ek, List.map_map]
        rfl⟩)
end
abbrev ct_nothing_common : Ct := ctA (α := List Int × List Int) (fun a => [.dat (.tuple (a.1.map .int)), .dat (.tuple (a.2.map .int))]) (fun a => a.1.length ≤ 1000) (fun a r => r = .bool (noneB a.1 a.2))
section
variable {P : Program} {w : World} {K : PySem.W.Frag} {mg : Str → Option Value} {base : Heap}
set_option maxHeartbeats 8000000 in
theorem u_nothing_common (T : Tx K mg) : Use P w K mg base "nothing_common" 1 ["one", "other"] (spD K ct_nothing_common) :=
  Use.mk' T.f_nothing_common sc_nothing_common (fun es hp => by
    obtain ⟨a, rfl, _⟩ := hp
    exact ⟨rfl, rfl⟩) (fun f cdv A out s H E hG hr => ⟨_, (pss_one (ps_ret (pe_not (pe_callB (cr_any rfl) rfl T.n_any (by decide +kernel) (pa_cons (pe_lc (own := [("part", 2)]) (g := gName 2) (tt := tYes) rfl sc_nothing_common.nd (pi_seq (pv 0)) (blkOk_by (N := ["one", "other", "part"]) (sc := defScope s_nothing_common) (by decide +kernel)) (fun _ _ _ _ _ => (pg_name (i := 2) sc_nothing_common.nd rfl (by first | exact Or.inl rfl | exact Or.inr rfl))) (fun _ _ _ _ _ => pts_nil) (fun _ _ _ _ _ => (pe_cmpR op_in_seq (pv 2) (pv 1) (by rfl)))) pa_nil))))), fun es hp => by
    obtain ⟨⟨xs, ys⟩, rfl, hl⟩ := hp
    have hl : xs.length ≤ 1000 := hl
    refine ws_tell (rt := fun r => r = .bool (noneB xs ys)) ?_ (fun d h a e _ => by
      obtain ⟨xs', ys'⟩ := a
      obtain ⟨e1, e2⟩ := es2 e
      injection e1 with e1
      injection e2 with e2
      have c1 := ints_inj e1
      have c2 := ints_inj e2
      subst c1 c2
      exact h)
    refine ws_ret <| w_notV <| w_cb <| wa_cons <| w_mapP (α := Int) .int (fun x => .bool (decide (x ∈ ys))) (by decide) <| wi_seqT <| w_var rfl ⟨_, rfl, xs, rfl, by omega, fun x _ => w_op <| w_var rfl <| w_var rfl <| o_inT rfl, ?_⟩
    exact wa_nil <| b_anyM ⟨_, rfl, rfl⟩⟩)
end
/-- with fewer patterns than so many -/
abbrev ct_first_code (b : Nat) : Ct := ctA (α := Int × List Cr × Nat) (fun a => [.dat (.list (a.2.1.map (crD a.1))), .dat (.int (a.2.2 : Int))]) (fun a => a.2.2 < b ∧ a.2.1.length ≤ 100 ∧ ∀ x ∈ a.2.1, x.2.length ≤ 60) (fun a r => r = codeD a.1 (firstC a.2.2 a.2.1))
theorem crD_inj {n n' : Int} : ∀ {xs ys : List Cr}, xs.map (crD n) = ys.map (crD n') → xs = ys ∧ (xs ≠ [] → n = n')
  | [], [], _ => ⟨rfl, fun h => absurd rfl h⟩
  | [], _ :: _, h => by cases h
  | _ :: _, [], h => by cases h
  | x :: xs, y :: ys, h => by
    rw [List.map_cons, List.map_cons] at h
    injection h with h1 h2
    obtain ⟨e1, _⟩ := crD_inj h2
    unfold crD at h1
    injection h1 with h1
    injection h1 with h3 h4
    injection h4 with h4 _
    injection h4 with h4
    obtain ⟨e2, e3⟩ := patD_inj h3
    have e4 := ints_inj h4
    refine ⟨?_, fun _ => e2⟩
    rw [e1, Prod.ext e3 e4]
theorem go_nil (f : List Cr → Option (List (List Int))) : goC f [] = none := rfl
section
variable {P : Program} {w : World} {K : PySem.W.Frag} {mg : Str → Option Value} {base : Heap}
set_option maxHeartbeats 8000000 in
theorem u_first_code (T : Tx K mg) (U_nothing_common : Use P w K mg base "nothing_common" 1 ["one", "other"] (spD K ct_nothing_common)) : ∀ n : Nat, Use P w K mg base "first_code" (1 + n) ["rows", "many"] (spD K (ct_first_code n))
  | 0 => Use.none T.f_first_code (fun es h => by
    obtain ⟨a, _, hb, _⟩ := h
    exact absurd hb (Nat.not_lt_zero _))
  | n + 1 =>
    have U_first_code := u_first_code T U_nothing_common n
    Use.mk' T.f_first_code sc_first_code (fun es hp => by
    obtain ⟨a, rfl, _⟩ := hp
    exact ⟨rfl, rfl⟩) (fun f cdv A out s H E hG hr => ⟨_, (pss_cons (ps_if (pt_cmpR (op_eqK hr.units) (pv 1) pe_int (nomark _)) (pss_one (ps_ret (pe_tup pa_nil))) pss_nil)
  (pss_cons (ps_for PassesOwn.never rfl (pi_en rfl T.n_enumerate (pa_cons (pv 0) pa_nil)) (pg_tup rfl (pgs_cons (pg_name (i := 2) sc_first_code.nd rfl (by first | exact Or.inl rfl | exact Or.inr rfl)) (pgs_cons (pg_tup rfl (pgs_cons (pg_name (i := 3) sc_first_code.nd rfl (by first | exact Or.inl rfl | exact Or.inr rfl)) (pgs_cons (pg_name (i := 4) sc_first_code.nd rfl (by first | exact Or.inl rfl | exact Or.inr rfl)) pgs_nil))) pgs_nil))) (pss_cons (ps_setLc (i := 5) (own := [("row", 7)]) (g := gName 7) (tt := _) rfl sc_first_code.nd rfl rfl (sw_true rfl rfl rfl (by decide +kernel)) (pi_seq (pe_slice sl_k (pv 0) (po_some (pe_op op_addK (pv 2) pe_int)) po_none)) (blkOk_by (N := ["rows", "many", "at", "pattern", "taken", "left", "behind", "row"]) (sc := defScope s_first_code) (by decide +kernel)) (fun _ _ _ _ _ => (pg_name (i := 7) sc_first_code.nd rfl (by first | exact Or.inl rfl | exact Or.inr rfl))) (fun _ _ _ _ _ => (pts_one (pt_val (pe_u U_nothing_common hG (hr.mono (Nat.le_add_right_of_le (by decide))) rfl (pa_cons (pv 4) (pa_cons (pe_ix ix_k (pv 7) pe_int (fun _ _ => rfl)) pa_nil)))))) (fun _ _ _ _ _ => (pv 7)))
  (pss_cons (ps_set (i := 6) sc_first_code.nd rfl (by first | exact Or.inl rfl | exact Or.inr rfl) (pe_u U_first_code hG hr rfl (pa_cons (pv 5) (pa_cons (pe_op op_sub (pv 1) pe_int) pa_nil))))
  (pss_one (ps_if (pt_cmpR op_notN1 (pv 6) pe_non (nomark _)) (pss_one (ps_ret (pe_tup (pa_cons (pv 3) (StX.pa_star (pv 6) pa_nil))))) pss_nil)))))
  (pss_one (ps_ret pe_non)))), fun es hp => by
    obtain ⟨⟨c, rows, m⟩, rfl, hm, hl, hx⟩ := hp
    have hm : m < n + 1 := hm
    have hl : rows.length ≤ 100 := hl
    have hx : ∀ x ∈ rows, x.2.length ≤ 60 := hx
    refine ws_tell (rt := fun r => r = codeD c (firstC m rows)) ?_ (fun d h a e _ => by
      obtain ⟨c', rows', m'⟩ := a
      obtain ⟨e1, e2⟩ := es2 e
      injection e1 with e1
      have em : (m : Int) = (m' : Int) := int_inj e2
      have em : m = m' := by omega
      subst em
      obtain ⟨e3, e4⟩ : rows = rows' ∧ (rows ≠ [] → c = c') := crD_inj e1
      subst e3
      by_cases hr : rows = []
      · subst hr
        cases m <;> exact h
      · obtain rfl := e4 hr
        exact h)
    refine ws_seq <| ws_if <| wt_test <| w_op <| w_var rfl <| w_int <| k_eq rfl rfl ⟨_, rfl, ?_⟩
    rw [eqv_int]
    refine ite_both (fun h => ws_ret <| w_tup <| wa_nil ⟨[], rfl, Nat.zero_le _, ?_⟩) (fun h => ws_next ?_)
    · have h : (m : Int) = 0 := of_decide_eq_true h
      have e : m = 0 := by omega
      subst e
      rfl
    have h : ¬ (m : Int) = 0 := of_decide_eq_false h
    obtain ⟨k, rfl⟩ : ∃ k, m = k + 1 := ⟨m - 1, by omega⟩
    refine ws_seq <| ws_for <| wi_en <| wa_cons <| w_var rfl <| wa_nil ⟨_, _, rfl, rfl, fun i δ' => (∃ x2 x3 x4 x5 x6, δ' = [.dat (.list (rows.map (crD c))), .dat (.int ((k + 1 : Nat) : Int)), x2, x3, x4, x5, x6, .unk] ∧ isOwn x2 = false ∧ isOwn x3 = false ∧ isOwn x4 = false ∧ isOwn x5 = false ∧ isOwn x6 = false) ∧ goC (firstC k) rows = goC (firstC k) (rows.drop i), ⟨⟨_, _, _, _, _, rfl, rfl, rfl, rfl, rfl, rfl⟩, rfl⟩, ?_, ?_⟩
    · rintro i x δ' hi ⟨⟨x2, x3, x4, x5, x6, rfl, o2, o3, o4, o5, o6⟩, inv⟩
      obtain ⟨d, hd, rfl⟩ := enums_get hi
      rw [List.getElem?_map] at hd
      cases hr : rows[i]? with
      | none => rw [hr] at hd; cases hd
      | some row =>
        rw [hr] at hd
        cases hd
        obtain ⟨r, t⟩ := row
        have ht : t.length ≤ 60 := hx (r, t) (List.mem_of_getElem? hr)
        have il := (List.getElem?_eq_some_iff.mp hr).1
        have ed : rows.drop i = (r, t) :: rows.drop (i + 1) := by
          rw [List.drop_eq_getElem_cons il, (List.getElem?_eq_some_iff.mp hr).2]
        rw [ed] at inv
        have ei : ((0 + i : Nat) : Int) = (i : Int) := by omega
        rw [ei]
        refine g_tup rfl <| gs_cons <| g_name <| gs_cons <| g_tup rfl (gs_cons <| g_name <| gs_cons <| g_name <| gs_nil <| gs_nil ?_)
        refine ws_seq <| ws_asg <| w_filterP (α := Cr) (crD c) (fun y => noneB t y.2) (crD c) (by decide) <| wi_seqL <| w_sl <| w_var rfl <| wo_some <| w_op <| w_var rfl <| w_int <| k_addI ⟨_, rfl, wo_none <| k_slL ⟨_, rfl, rows.drop (i + 1), ?_, ?_, fun y hy => ?_, ?_⟩⟩
        · have e : (i : Int) + 1 = ((i + 1 : Nat) : Int) := rfl
          rw [e, cut_from _ (i + 1) (by rw [List.length_map]; omega), ← List.map_drop]
        · rw [List.length_drop]
          omega
        · refine wt_B <| w_callA <| wa_cons <| w_var rfl <| wa_cons <| w_op <| w_var rfl <| w_int <| k_ixT (d := .tuple (y.2.map .int)) rfl <| wa_nil ⟨(t, y.2), rfl, by show t.length ≤ 1000; omega, fun q hq => ⟨_, hq, rfl, fun _ => w_var rfl rfl⟩⟩
        · refine ws_seq <| ws_asg <| w_callA <| wa_cons <| w_var rfl <| wa_cons <| w_op <| w_var rfl <| w_int <| k_sub <| wa_nil ⟨(c, (rows.drop (i + 1)).filter fun y => noneB t y.2, k), ?_, ⟨by show k < n; omega, ?_, ?_⟩, fun q hq => ?_⟩
          · have e : (((k + 1 : Nat) : Int) - 1) = (k : Int) := by omega
            rw [e]
          · have := List.length_filter_le (fun y : Cr => noneB t y.2) (rows.drop (i + 1))
            rw [List.length_drop] at this
            show ((rows.drop (i + 1)).filter fun y => noneB t y.2).length ≤ 100
            omega
          · exact fun y hy => hx y (List.mem_of_mem_drop (List.mem_filter.mp hy).1)
          · subst hq
            refine ws_if <| wt_test <| w_op <| w_var rfl <| w_non <| o_notN ⟨_, rfl, ?_⟩
            have eg : goC (firstC k) ((r, t) :: rows.drop (i + 1)) = match firstC k ((rows.drop (i + 1)).filter fun y => noneB t y.2) with
                | some b => some (r :: b)
                | none => goC (firstC k) (rows.drop (i + 1)) := rfl
            cases hf : firstC k ((rows.drop (i + 1)).filter fun y => noneB t y.2) with
            | none =>
              rw [hf] at eg
              dsimp only at eg
              refine iteF <| ws_next ⟨⟨_, _, _, _, _, rfl, rfl, rfl, rfl, rfl, rfl⟩, ?_⟩
              rw [inv, eg]
            | some b =>
              rw [hf] at eg
              dsimp only at eg
              refine iteT <| ws_ret <| w_tup <| wa_cons <| w_var rfl <| wa_star <| w_var rfl ⟨b.map (patD c), rfl, wa_nil ⟨(r :: b).map (patD c), ?_, ?_, ?_⟩⟩
              · show dats (DW.E.dat (patD c r) :: ((b.map (patD c)).map DW.E.dat ++ [])) = _
                rw [List.append_nil]
                exact dats_dat ((r :: b).map (patD c))
              · rw [List.length_map]
                have a := first_le hf
                have c := List.length_filter_le (fun y : Cr => noneB t y.2) (rows.drop (i + 1))
                rw [List.length_drop] at c
                rw [List.length_cons, sizeLine_eq]
                omega
              · show _ = codeD c (goC (firstC k) rows)
                rw [inv, eg]
                rfl
    · rintro δ' ⟨⟨x2, x3, x4, x5, x6, rfl, o2, o3, o4, o5, o6⟩, inv⟩
      rw [enums_len, List.length_map, List.drop_length] at inv
      refine ws_ret <| w_non ?_
      show _ = codeD c (goC (firstC k) rows)
      rw [inv]
      rfl⟩)
end
abbrev ct_code_size : Ct := ctA (α := Int × Int) (fun a => [.dat (.int a.1), .dat (.int a.2)]) (fun a => CodeP a.1 a.2) (fun a r => r = .int (sizeC a.1 a.2 : Int))
section
variable {P : Program} {w : World} {K : PySem.W.Frag} {mg : Str → Option Value} {base : Heap}
set_option maxHeartbeats 8000000 in
theorem u_code_size (T : Tx K mg) (U_check_code : Use P w K mg base "check_code" 3 ["period", "slots"] (spD K ct_check_code)) (U_code_rows : Use P w K mg base "code_rows" 7 ["period", "slots"] (spD K ct_code_rows)) (U_first_code : Use P w K mg base "first_code" 10 ["rows", "many"] (spD K (ct_first_code 9))) : Use P w K mg base "code_size" 11 ["period", "slots"] (spD K ct_code_size) :=
  Use.mk' T.f_code_size sc_code_size (fun es hp => by
    obtain ⟨a, rfl, _⟩ := hp
    exact ⟨rfl, rfl⟩) (fun f cdv A out s H E hG hr => ⟨_, (pss_cons (ps_expr (pe_u U_check_code hG (hr.mono (by decide)) rfl (pa_cons (pv 0) (pa_cons (pv 1) pa_nil))))
  (pss_cons (ps_set (i := 2) sc_code_size.nd rfl (by first | exact Or.inl rfl | exact Or.inr rfl) (pe_u U_code_rows hG (hr.mono (by decide)) rfl (pa_cons (pv 0) (pa_cons (pv 1) pa_nil))))
  (pss_cons (ps_set (i := 3) sc_code_size.nd rfl (by first | exact Or.inl rfl | exact Or.inr rfl) pe_int)
  (pss_cons (ps_while PassesOwn.never (pt_cmpR op_notN1 (pe_u U_first_code hG hr rfl (pa_cons (pv 2) (pa_cons (pe_op op_addK (pv 3) pe_int) pa_nil))) pe_non (nomark _)) (pss_one (ps_aug (i := 3) sc_code_size.nd rfl (by first | exact Or.inl rfl | exact Or.inr rfl) pe_int ip_add)))
  (pss_one (ps_ret (pv 3))))))), fun es hp => by
    obtain ⟨⟨n, k⟩, rfl, hc⟩ := hp
    have hc : CodeP n k := hc
    refine ws_tell (rt := fun r => r = .int (sizeC n k : Int)) ?_ (fun d h a e _ => by
      obtain ⟨n', k'⟩ := a
      obtain ⟨e1, e2⟩ := es2 e
      have c1 := int_inj e1
      have c2 := int_inj e2
      subst c1 c2
      exact h)
    have few := code_few hc
    have s6 := size_most hc
    refine ws_seq <| ws_drop <| w_callA <| wa_cons <| w_var rfl <| wa_cons <| w_var rfl <| wa_nil ⟨(n, k), rfl, hc, fun _ _ => ?_⟩
    refine ws_seq <| ws_asg <| w_callA <| wa_cons <| w_var rfl <| wa_cons <| w_var rfl <| wa_nil ⟨(n, k), rfl, hc, fun r hr => ?_⟩
    subst hr
    refine ws_seq <| ws_asg <| w_int ?_
    refine ws_seq <| ws_while (fun m δ' => ∃ c : Nat, m = 8 - c ∧ c ≤ sizeC n k ∧ δ' = [.dat (.int n), .dat (.int k), .dat (.list ((codeRows n k).map (crD n))), .dat (.int (c : Int))]) 8 ⟨0, rfl, Nat.zero_le _, rfl⟩ ?_
    rintro m δ' ⟨c, rfl, hcs, rfl⟩
    refine wt_test <| w_op <| w_callA <| wa_cons <| w_var rfl <| wa_cons <| w_op <| w_var rfl <| w_int <| k_addI <| wa_nil ⟨(n, codeRows n k, c + 1), rfl, ⟨by show c + 1 < 9; omega, by show (codeRows n k).length ≤ 100; omega, code_dists hc⟩, fun r hr => w_non <| o_notN ⟨_, rfl, ?_⟩⟩
    subst hr
    show if (!isNone (codeD n (firstC (c + 1) (codeRows n k)))) = true then _ else _
    by_cases h : c < sizeC n k
    · have z := size_some hc c h
      cases hf : firstC (c + 1) (codeRows n k) with
      | none => rw [hf] at z; cases z
      | some b => exact iteT <| ws_aug rfl <| w_int ⟨1, rfl, _, by omega, c + 1, rfl, by omega, rfl⟩
    · have e : c = sizeC n k := by omega
      rw [e, size_end hc]
      exact iteF <| ws_ret <| w_var rfl rfl⟩)
end
abbrev ct_smallest_code : Ct := ctA (α := Int × Int × Nat) (fun a => [.dat (.int a.1), .dat (.int a.2.1), .dat (.int (a.2.2 : Int))]) (fun a => CodeP a.1 a.2.1 ∧ 1 ≤ a.2.2 ∧ a.2.2 ≤ 4) (fun a r => r = codeD a.1 (firstC a.2.2 (codeRows a.1 a.2.1)))
section
variable {P : Program} {w : World} {K : PySem.W.Frag} {mg : Str → Option Value} {base : Heap}
set_option maxHeartbeats 8000000 in
theorem u_smallest_code (T : Tx K mg) (U_check_code : Use P w K mg base "check_code" 3 ["period", "slots"] (spD K ct_check_code)) (U_code_rows : Use P w K mg base "code_rows" 7 ["period", "slots"] (spD K ct_code_rows)) (U_first_code : Use P w K mg base "first_code" 10 ["rows", "many"] (spD K (ct_first_code 9))) (U_is_integer_from : Use P w K mg base "is_integer_from" 2 ["thing", "low", "high"] (spD K ct_is_integer_from)) : Use P w K mg base "smallest_code" 11 ["period", "slots", "many"] (spD K ct_smallest_code) :=
  Use.mk' T.f_smallest_code sc_smallest_code (fun es hp => by
    obtain ⟨a, rfl, _⟩ := hp
    exact ⟨rfl, rfl⟩) (fun f cdv A out s H E hG hr => ⟨_, (pss_cons (ps_expr (pe_u U_check_code hG (hr.mono (by decide)) rfl (pa_cons (pv 0) (pa_cons (pv 1) pa_nil))))
  (pss_cons (ps_if (pt_not (pt_val (pe_u U_is_integer_from hG (hr.mono (by decide)) rfl (pa_cons (pv 2) (pa_cons pe_int (pa_cons (pe_glob rfl T.c_MOST_PATTERNS.2 T.c_MOST_PATTERNS.1) pa_nil)))))) (pss_one ps_never) pss_nil)
  (pss_one (ps_ret (pe_u U_first_code hG hr rfl (pa_cons (pe_u U_code_rows hG (hr.mono (by decide)) rfl (pa_cons (pv 0) (pa_cons (pv 1) pa_nil))) (pa_cons (pv 2) pa_nil))))))), fun es hp => by
    obtain ⟨⟨n, k, m⟩, rfl, hc, m0, m1⟩ := hp
    have hc : CodeP n k := hc
    have m0 : 1 ≤ m := m0
    have m1 : m ≤ 4 := m1
    refine ws_tell (rt := fun r => r = codeD n (firstC m (codeRows n k))) ?_ (fun d h a e _ => by
      obtain ⟨n', k', m'⟩ := a
      obtain ⟨e1, e2, e3⟩ := es3 e
      have c1 := int_inj e1
      have c2 := int_inj e2
      have c3 : (m : Int) = (m' : Int) := int_inj e3
      have c3 : m = m' := by omega
      subst c1 c2 c3
      exact h)
    refine ws_seq <| ws_drop <| w_callA <| wa_cons <| w_var rfl <| wa_cons <| w_var rfl <| wa_nil ⟨(n, k), rfl, hc, fun _ _ => ?_⟩
    refine ws_seq <| ws_if <| wt_not <| wt_B <| w_call <| wa_cons <| w_var rfl <| wa_cons <| w_int <| wa_cons <| w_int <| wa_nil ⟨⟨_, _, _, rfl⟩, fun r hr => ?_⟩
    obtain ⟨d, lo, hi, e1, rfl⟩ := hr
    cases e1
    refine ⟨_, rfl, ?_⟩
    have e2 : isFrom 1 4 (.int (m : Int)) = true := by
      show (decide (1 ≤ (m : Int)) && decide ((m : Int) ≤ 4)) = true
      rw [decide_eq_true (by omega), decide_eq_true (by omega)]
      rfl
    rw [e2]
    refine iteF <| ws_next <| ws_ret <| w_callA <| wa_cons <| w_callA <| wa_cons <| w_var rfl <| wa_cons <| w_var rfl <| wa_nil ⟨(n, k), rfl, hc, fun r hr => ?_⟩
    subst hr
    have few := code_few hc
    exact wa_cons <| w_var rfl <| wa_nil ⟨(n, codeRows n k, m), rfl, ⟨by show m < 9; omega, by show (codeRows n k).length ≤ 100; omega, code_dists hc⟩, fun r hr => hr⟩⟩)
end
abbrev cqW : Dt := .list [.tuple [.tuple [.int (7), .tuple [.int (0), .int (1), .int (2)]]], .none, .tuple [.tuple [.int (7), .tuple [.int (0), .int (1)]], .tuple [.int (7), .tuple [.int (0), .int (2)]]], .tuple [.tuple [.int (13), .tuple [.int (0), .int (1), .int (2)]], .tuple [.int (13), .tuple [.int (0), .int (3), .int (6)]]], .tuple [.tuple [.int (13), .tuple [.int (0), .int (1), .int (2)]], .tuple [.int (13), .tuple [.int (0), .int (3), .int (6)]], .tuple [.int (13), .tuple [.int (0), .int (4), .int (8)]]], .none, .none, .none]
theorem cqW_sh : Shows cqW := ⟨rfl, rfl, by decide +kernel, by decide +kernel⟩
abbrev csW : Dt := .list [.int (3), .int (1), .int (3), .int (0), .int (1)]
theorem csW_sh : Shows csW := ⟨rfl, rfl, by decide +kernel, by decide +kernel⟩
abbrev ct_l_codes_right : Ct := ctA (α := Unit) (fun _ => []) (fun _ => True) (fun _ r => r = .bool true)
section
variable {P : Program} {w : World} {K : PySem.W.Frag} {mg : Str → Option Value} {base : Heap}
set_option maxHeartbeats 8000000 in
theorem u_l_codes_right (T : Tx K mg) (U_l_same : Use P w K mg base "_law_same" 1 ["_law_found", "_law_due"] (spD K ct_l_same)) (U_code_size : Use P w K mg base "code_size" 11 ["period", "slots"] (spD K ct_code_size)) (U_smallest_code : Use P w K mg base "smallest_code" 11 ["period", "slots", "many"] (spD K ct_smallest_code)) : Use P w K mg base "_law_codes_right" 12 [] (spD K ct_l_codes_right) :=
  Use.mk' T.f_l_codes_right sc_l_codes_right (fun es hp => by
    obtain ⟨a, rfl, _⟩ := hp
    exact ⟨rfl, rfl⟩) (fun f cdv A out s H E hG hr => ⟨_, (pss_cons (ps_set (i := 0) sc_l_codes_right.nd rfl (by first | exact Or.inl rfl | exact Or.inr rfl) (pe_lst (pa_cons (pe_u U_smallest_code hG hr rfl (pa_cons pe_int (pa_cons pe_int (pa_cons pe_int pa_nil)))) (pa_cons (pe_u U_smallest_code hG hr rfl (pa_cons pe_int (pa_cons pe_int (pa_cons pe_int pa_nil)))) (pa_cons (pe_uK false U_smallest_code hG hr rfl (pk_cons pe_int (pk_cons pe_int (pk_cons pe_int pk_nil)))) pa_nil)))))
  (pss_cons (ps_set (i := 1) sc_l_codes_right.nd rfl (by first | exact Or.inl rfl | exact Or.inr rfl) (pe_lst (pa_cons (pe_tup (pa_cons (pe_tup (pa_cons pe_int (pa_cons (pe_tup (pa_cons pe_int (pa_cons pe_int (pa_cons pe_int pa_nil)))) pa_nil))) pa_nil)) (pa_cons pe_non (pa_cons (pe_tup (pa_cons (pe_tup (pa_cons pe_int (pa_cons (pe_tup (pa_cons pe_int (pa_cons pe_int pa_nil))) pa_nil))) (pa_cons (pe_tup (pa_cons pe_int (pa_cons (pe_tup (pa_cons pe_int (pa_cons pe_int pa_nil))) pa_nil))) pa_nil))) pa_nil)))))
  (pss_cons (ps_set (i := 0) sc_l_codes_right.nd rfl (by first | exact Or.inl rfl | exact Or.inr rfl) (pe_op op_addK (pv 0) (pe_lst (pa_cons (pe_uK true U_smallest_code hG hr rfl (pk_cons pe_int (pk_cons pe_int (pk_cons pe_int pk_nil)))) (pa_cons (pe_u U_smallest_code hG hr rfl (pa_cons pe_int (pa_cons pe_int (pa_cons pe_int pa_nil)))) (pa_cons (pe_u U_smallest_code hG hr rfl (pa_cons pe_int (pa_cons pe_int (pa_cons pe_int pa_nil)))) pa_nil))))))
  (pss_cons (ps_set (i := 1) sc_l_codes_right.nd rfl (by first | exact Or.inl rfl | exact Or.inr rfl) (pe_op op_addK (pv 1) (pe_lst (pa_cons (pe_tup (pa_cons (pe_tup (pa_cons pe_int (pa_cons (pe_tup (pa_cons pe_int (pa_cons pe_int (pa_cons pe_int pa_nil)))) pa_nil))) (pa_cons (pe_tup (pa_cons pe_int (pa_cons (pe_tup (pa_cons pe_int (pa_cons pe_int (pa_cons pe_int pa_nil)))) pa_nil))) pa_nil))) (pa_cons (pe_tup (pa_cons (pe_tup (pa_cons pe_int (pa_cons (pe_tup (pa_cons pe_int (pa_cons pe_int (pa_cons pe_int pa_nil)))) pa_nil))) (pa_cons (pe_tup (pa_cons pe_int (pa_cons (pe_tup (pa_cons pe_int (pa_cons pe_int (pa_cons pe_int pa_nil)))) pa_nil))) (pa_cons (pe_tup (pa_cons pe_int (pa_cons (pe_tup (pa_cons pe_int (pa_cons pe_int (pa_cons pe_int pa_nil)))) pa_nil))) pa_nil)))) (pa_cons pe_non pa_nil))))))
  (pss_cons (ps_if (pt_not (pt_val (pe_u U_l_same hG (hr.mono (by decide)) rfl (pa_cons (pe_op op_addK (pv 0) (pe_lst (pa_cons (pe_u U_smallest_code hG hr rfl (pa_cons pe_int (pa_cons pe_int (pa_cons pe_int pa_nil)))) (pa_cons (pe_u U_smallest_code hG hr rfl (pa_cons pe_int (pa_cons pe_int (pa_cons pe_int pa_nil)))) pa_nil)))) (pa_cons (pe_op op_addK (pv 1) (pe_lst (pa_cons pe_non (pa_cons pe_non pa_nil)))) pa_nil))))) (pss_one (ps_ret pe_bl)) pss_nil)
  (pss_cons (ps_set (i := 0) sc_l_codes_right.nd rfl (by first | exact Or.inl rfl | exact Or.inr rfl) (pe_lst (pa_cons (pe_u U_code_size hG hr rfl (pa_cons pe_int (pa_cons pe_int pa_nil))) (pa_cons (pe_u U_code_size hG hr rfl (pa_cons pe_int (pa_cons pe_int pa_nil))) (pa_cons (pe_uR U_code_size hG hr rfl (pk_cons pe_int (pk_cons pe_int pk_nil))) (pa_cons (pe_u U_code_size hG hr rfl (pa_cons pe_int (pa_cons pe_int pa_nil))) (pa_cons (pe_u U_code_size hG hr rfl (pa_cons pe_int (pa_cons pe_int pa_nil))) pa_nil)))))))
  (pss_one (ps_ret (pe_u U_l_same hG (hr.mono (by decide)) rfl (pa_cons (pv 0) (pa_cons (pe_lst (pa_cons pe_int (pa_cons pe_int (pa_cons pe_int (pa_cons pe_int (pa_cons pe_int pa_nil)))))) pa_nil))))))))))), fun es hp => by
    obtain ⟨_, rfl, _⟩ := hp
    refine ws_tell (rt := fun r => r = .bool true) ?_ (fun d h _ _ _ => h)
    refine ws_seq <| ws_asg <| w_lst ?_
    refine wa_cons <| w_callA ?_
    repeat (first | refine w_lst ?_ | refine w_tup ?_ | refine wa_cons ?_ | refine w_int ?_ | refine w_non ?_ | refine w_bl ?_ | refine w_str ?_ | refine w_un <| w_int <| u_neg ?_ | refine wa_nil ⟨_, rfl, by decide, ?_⟩)
    refine wa_nil ⟨(7, 3, 1), rfl, ⟨⟨by decide, .inr rfl⟩, by decide, by decide⟩, fun r hr => ?_⟩
    have hr2 : r = codeD 7 (firstC 1 (codeRows 7 3)) := hr
    have hv : codeD 7 (firstC 1 (codeRows 7 3)) = .tuple [.tuple [.int (7), .tuple [.int (0), .int (1), .int (2)]]] := by kernel_rfl
    rw [hv] at hr2
    subst hr2
    refine wa_cons <| w_callA ?_
    repeat (first | refine w_lst ?_ | refine w_tup ?_ | refine wa_cons ?_ | refine w_int ?_ | refine w_non ?_ | refine w_bl ?_ | refine w_str ?_ | refine w_un <| w_int <| u_neg ?_ | refine wa_nil ⟨_, rfl, by decide, ?_⟩)
    refine wa_nil ⟨(7, 3, 2), rfl, ⟨⟨by decide, .inr rfl⟩, by decide, by decide⟩, fun r hr => ?_⟩
    have hr2 : r = codeD 7 (firstC 2 (codeRows 7 3)) := hr
    have hv : codeD 7 (firstC 2 (codeRows 7 3)) = .none := by kernel_rfl
    rw [hv] at hr2
    subst hr2
    refine wa_cons <| w_callK ?_
    repeat (first | refine w_lst ?_ | refine w_tup ?_ | refine wa_cons ?_ | refine w_int ?_ | refine w_non ?_ | refine w_bl ?_ | refine w_str ?_ | refine w_un <| w_int <| u_neg ?_ | refine wa_nil ⟨_, rfl, by decide, ?_⟩)
    refine wa_nil ⟨(7, 2, 2), rfl, ⟨⟨by decide, .inl rfl⟩, by decide, by decide⟩, fun r hr => ?_⟩
    have hr2 : r = codeD 7 (firstC 2 (codeRows 7 2)) := hr
    have hv : codeD 7 (firstC 2 (codeRows 7 2)) = .tuple [.tuple [.int (7), .tuple [.int (0), .int (1)]], .tuple [.int (7), .tuple [.int (0), .int (2)]]] := by kernel_rfl
    rw [hv] at hr2
    subst hr2
    refine wa_nil ⟨_, rfl, by show 3 ≤ sizeLine; decide, ?_⟩
    refine ws_seq <| ws_asg ?_
    repeat (first | refine w_lst ?_ | refine w_tup ?_ | refine wa_cons ?_ | refine w_int ?_ | refine w_non ?_ | refine w_bl ?_ | refine w_str ?_ | refine w_un <| w_int <| u_neg ?_ | refine wa_nil ⟨_, rfl, by decide, ?_⟩)
    refine ws_seq <| ws_asg <| w_op <| w_var rfl <| w_lst ?_
    refine wa_cons <| w_callK ?_
    repeat (first | refine w_lst ?_ | refine w_tup ?_ | refine wa_cons ?_ | refine w_int ?_ | refine w_non ?_ | refine w_bl ?_ | refine w_str ?_ | refine w_un <| w_int <| u_neg ?_ | refine wa_nil ⟨_, rfl, by decide, ?_⟩)
    refine wa_nil ⟨(13, 3, 2), rfl, ⟨⟨by decide, .inr rfl⟩, by decide, by decide⟩, fun r hr => ?_⟩
    have hr2 : r = codeD 13 (firstC 2 (codeRows 13 3)) := hr
    have hv : codeD 13 (firstC 2 (codeRows 13 3)) = .tuple [.tuple [.int (13), .tuple [.int (0), .int (1), .int (2)]], .tuple [.int (13), .tuple [.int (0), .int (3), .int (6)]]] := by kernel_rfl
    rw [hv] at hr2
    subst hr2
    refine wa_cons <| w_callA ?_
    repeat (first | refine w_lst ?_ | refine w_tup ?_ | refine wa_cons ?_ | refine w_int ?_ | refine w_non ?_ | refine w_bl ?_ | refine w_str ?_ | refine w_un <| w_int <| u_neg ?_ | refine wa_nil ⟨_, rfl, by decide, ?_⟩)
    refine wa_nil ⟨(13, 3, 3), rfl, ⟨⟨by decide, .inr rfl⟩, by decide, by decide⟩, fun r hr => ?_⟩
    have hr2 : r = codeD 13 (firstC 3 (codeRows 13 3)) := hr
    have hv : codeD 13 (firstC 3 (codeRows 13 3)) = .tuple [.tuple [.int (13), .tuple [.int (0), .int (1), .int (2)]], .tuple [.int (13), .tuple [.int (0), .int (3), .int (6)]], .tuple [.int (13), .tuple [.int (0), .int (4), .int (8)]]] := by kernel_rfl
    rw [hv] at hr2
    subst hr2
    refine wa_cons <| w_callA ?_
    repeat (first | refine w_lst ?_ | refine w_tup ?_ | refine wa_cons ?_ | refine w_int ?_ | refine w_non ?_ | refine w_bl ?_ | refine w_str ?_ | refine w_un <| w_int <| u_neg ?_ | refine wa_nil ⟨_, rfl, by decide, ?_⟩)
    refine wa_nil ⟨(2, 2, 1), rfl, ⟨⟨by decide, .inl rfl⟩, by decide, by decide⟩, fun r hr => ?_⟩
    have hr2 : r = codeD 2 (firstC 1 (codeRows 2 2)) := hr
    have hv : codeD 2 (firstC 1 (codeRows 2 2)) = .none := by kernel_rfl
    rw [hv] at hr2
    subst hr2
    refine wa_nil ⟨_, rfl, by show 3 ≤ sizeLine; decide, k_addL (by decide) ?_⟩
    refine ws_seq <| ws_asg <| w_op <| w_var rfl ?_
    repeat (first | refine w_lst ?_ | refine w_tup ?_ | refine wa_cons ?_ | refine w_int ?_ | refine w_non ?_ | refine w_bl ?_ | refine w_str ?_ | refine w_un <| w_int <| u_neg ?_ | refine wa_nil ⟨_, rfl, by decide, ?_⟩)
    refine k_addL (by decide) ?_
    refine ws_seq <| ws_if <| wt_not <| wt_B <| w_call <| wa_cons <| w_op <| w_var rfl <| w_lst ?_
    refine wa_cons <| w_callA ?_
    repeat (first | refine w_lst ?_ | refine w_tup ?_ | refine wa_cons ?_ | refine w_int ?_ | refine w_non ?_ | refine w_bl ?_ | refine w_str ?_ | refine w_un <| w_int <| u_neg ?_ | refine wa_nil ⟨_, rfl, by decide, ?_⟩)
    refine wa_nil ⟨(7, 2, 4), rfl, ⟨⟨by decide, .inl rfl⟩, by decide, by decide⟩, fun r hr => ?_⟩
    have hr2 : r = codeD 7 (firstC 4 (codeRows 7 2)) := hr
    have hv : codeD 7 (firstC 4 (codeRows 7 2)) = .none := by kernel_rfl
    rw [hv] at hr2
    subst hr2
    refine wa_cons <| w_callA ?_
    repeat (first | refine w_lst ?_ | refine w_tup ?_ | refine wa_cons ?_ | refine w_int ?_ | refine w_non ?_ | refine w_bl ?_ | refine w_str ?_ | refine w_un <| w_int <| u_neg ?_ | refine wa_nil ⟨_, rfl, by decide, ?_⟩)
    refine wa_nil ⟨(13, 3, 4), rfl, ⟨⟨by decide, .inr rfl⟩, by decide, by decide⟩, fun r hr => ?_⟩
    have hr2 : r = codeD 13 (firstC 4 (codeRows 13 3)) := hr
    have hv : codeD 13 (firstC 4 (codeRows 13 3)) = .none := by kernel_rfl
    rw [hv] at hr2
    subst hr2
    refine wa_nil ⟨_, rfl, by show 2 ≤ sizeLine; decide, k_addL (by decide) ?_⟩
    refine wa_cons <| w_op <| w_var rfl ?_
    repeat (first | refine w_lst ?_ | refine w_tup ?_ | refine wa_cons ?_ | refine w_int ?_ | refine w_non ?_ | refine w_bl ?_ | refine w_str ?_ | refine w_un <| w_int <| u_neg ?_ | refine wa_nil ⟨_, rfl, by decide, ?_⟩)
    refine k_addL (by decide) ?_
    refine wa_nil ⟨⟨cqW, cqW, rfl, cqW_sh, cqW_sh⟩, fun r hr => ?_⟩
    obtain ⟨c', d', e1, rfl⟩ := hr
    have hc' : c' = cqW := (es2 e1).1.symm
    have hd' : d' = cqW := (es2 e1).2.symm
    subst hc' hd'
    refine ⟨_, rfl, ?_⟩
    rw [decide_eq_true rfl]
    refine iteF <| ws_next ?_
    refine ws_seq <| ws_asg <| w_lst ?_
    refine wa_cons <| w_callA ?_
    repeat (first | refine w_lst ?_ | refine w_tup ?_ | refine wa_cons ?_ | refine w_int ?_ | refine w_non ?_ | refine w_bl ?_ | refine w_str ?_ | refine w_un <| w_int <| u_neg ?_ | refine wa_nil ⟨_, rfl, by decide, ?_⟩)
    refine wa_nil ⟨(7, 2), rfl, ⟨by decide, .inl rfl⟩, fun r hr => ?_⟩
    have hr2 : r = PyData.int (sizeC 7 2 : Int) := hr
    have hv : PyData.int (sizeC 7 2 : Int) = .int (3) := by kernel_rfl
    rw [hv] at hr2
    subst hr2
    refine wa_cons <| w_callA ?_
    repeat (first | refine w_lst ?_ | refine w_tup ?_ | refine wa_cons ?_ | refine w_int ?_ | refine w_non ?_ | refine w_bl ?_ | refine w_str ?_ | refine w_un <| w_int <| u_neg ?_ | refine wa_nil ⟨_, rfl, by decide, ?_⟩)
    refine wa_nil ⟨(7, 3), rfl, ⟨by decide, .inr rfl⟩, fun r hr => ?_⟩
    have hr2 : r = PyData.int (sizeC 7 3 : Int) := hr
    have hv : PyData.int (sizeC 7 3 : Int) = .int (1) := by kernel_rfl
    rw [hv] at hr2
    subst hr2
    refine wa_cons <| w_callR ?_
    repeat (first | refine w_lst ?_ | refine w_tup ?_ | refine wa_cons ?_ | refine w_int ?_ | refine w_non ?_ | refine w_bl ?_ | refine w_str ?_ | refine w_un <| w_int <| u_neg ?_ | refine wa_nil ⟨_, rfl, by decide, ?_⟩)
    refine wa_nil ⟨(13, 3), rfl, ⟨by decide, .inr rfl⟩, fun r hr => ?_⟩
    have hr2 : r = PyData.int (sizeC 13 3 : Int) := hr
    have hv : PyData.int (sizeC 13 3 : Int) = .int (3) := by kernel_rfl
    rw [hv] at hr2
    subst hr2
    refine wa_cons <| w_callA ?_
    repeat (first | refine w_lst ?_ | refine w_tup ?_ | refine wa_cons ?_ | refine w_int ?_ | refine w_non ?_ | refine w_bl ?_ | refine w_str ?_ | refine w_un <| w_int <| u_neg ?_ | refine wa_nil ⟨_, rfl, by decide, ?_⟩)
    refine wa_nil ⟨(2, 2), rfl, ⟨by decide, .inl rfl⟩, fun r hr => ?_⟩
    have hr2 : r = PyData.int (sizeC 2 2 : Int) := hr
    have hv : PyData.int (sizeC 2 2 : Int) = .int (0) := by kernel_rfl
    rw [hv] at hr2
    subst hr2
    refine wa_cons <| w_callA ?_
    repeat (first | refine w_lst ?_ | refine w_tup ?_ | refine wa_cons ?_ | refine w_int ?_ | refine w_non ?_ | refine w_bl ?_ | refine w_str ?_ | refine w_un <| w_int <| u_neg ?_ | refine wa_nil ⟨_, rfl, by decide, ?_⟩)
    refine wa_nil ⟨(4, 3), rfl, ⟨by decide, .inr rfl⟩, fun r hr => ?_⟩
    have hr2 : r = PyData.int (sizeC 4 3 : Int) := hr
    have hv : PyData.int (sizeC 4 3 : Int) = .int (1) := by kernel_rfl
    rw [hv] at hr2
    subst hr2
    refine wa_nil ⟨_, rfl, by show 5 ≤ sizeLine; decide, ?_⟩
    refine ws_ret <| w_call <| wa_cons <| w_var rfl <| wa_cons ?_
    repeat (first | refine w_lst ?_ | refine w_tup ?_ | refine wa_cons ?_ | refine w_int ?_ | refine w_non ?_ | refine w_bl ?_ | refine w_str ?_ | refine w_un <| w_int <| u_neg ?_ | refine wa_nil ⟨_, rfl, by decide, ?_⟩)
    refine wa_nil ⟨⟨csW, csW, rfl, csW_sh, csW_sh⟩, fun r hr => ?_⟩
    obtain ⟨c', d', e1, rfl⟩ := hr
    have hc' : c' = csW := (es2 e1).1.symm
    have hd' : d' = csW := (es2 e1).2.symm
    subst hc' hd'
    show PyData.bool (decide _) = _
    rw [decide_eq_true rfl]⟩)
end
def ct_l_draw : Ct := ⟨fun es => ∃ m : Int, es = [.pen, .dat (.int m)] ∧ 0 < m ∧ m < 1073741824, fun es d => ∃ m r : Int, es = [.pen, .dat (.int m)] ∧ d = .int r ∧ 0 ≤ r ∧ r < m⟩
section
variable {P : Program} {w : World} {K : PySem.W.Frag} {mg : Str → Option Value} {base : Heap}
set_option maxHeartbeats 8000000 in
theorem u_l_draw (T : Tx K mg) : Use P w K mg base "_law_draw" 1 ["_law_pen_here", "_law_amount"] (spD K ct_l_draw) :=
  Use.raw T.f_l_draw sc_l_draw (fun es hp => by
    obtain ⟨m, rfl, _⟩ := hp
    rfl) (fun f cdv A out s H0 E hG hr => ⟨_, (pss_cons (ps_if (pt_cmpR op_gt (pe_ix ix_k (pv 0) pe_int (fun _ _ => rfl)) pe_int (nomark _)) (pss_cons (ps_set (i := 2) sc_l_draw.nd rfl (by first | exact Or.inl rfl | exact Or.inr rfl) (pe_op op_mod (pe_ix ix_k (pv 0) pe_int (fun _ _ => rfl)) (pv 1)))
  (pss_cons (ps_asg (pe_op op_fdiv (pe_ix ix_k (pv 0) pe_int (fun _ _ => rfl)) (pv 1)) (pg_sub (pv 0) pe_int set_list))
  (pss_one (ps_ret (pv 2))))) pss_nil)
  (pss_cons (ps_asg (pe_op op_addK (pe_ix ix_k (pv 0) pe_int (fun _ _ => rfl)) pe_int) (pg_sub (pv 0) pe_int set_list))
  (pss_cons (ps_asg (pe_op op_mod (pe_op op_addK (pe_op op_addK (pe_op op_mulK (pe_ix ix_k (pv 0) pe_int (fun _ _ => rfl)) pe_int) (pe_op op_mulK pe_int (pe_ix ix_k (pv 0) pe_int (fun _ _ => rfl)))) pe_int) pe_int) (pg_sub (pv 0) pe_int set_list))
  (pss_cons (ps_set (i := 3) sc_l_draw.nd rfl (by first | exact Or.inl rfl | exact Or.inr rfl) (pe_op op_mod (pe_op op_addK (pe_op op_addK (pe_op op_mulK (pe_ix ix_k (pv 0) pe_int (fun _ _ => rfl)) (pe_ix ix_k (pv 0) pe_int (fun _ _ => rfl))) (pe_op op_mulK pe_int (pe_ix ix_k (pv 0) pe_int (fun _ _ => rfl)))) pe_int) pe_int))
  (pss_cons (ps_set (i := 3) sc_l_draw.nd rfl (by first | exact Or.inl rfl | exact Or.inr rfl) (pe_op op_mod (pe_op op_addK (pe_op op_mulK (pv 3) (pv 3)) (pe_op op_mulK pe_int (pv 3))) pe_int))
  (pss_one (ps_ret (pe_op op_mod (pe_op op_fdiv (pv 3) pe_int) (pv 1))))))))), fun ω G H vs es Q hk hra hp hq => by
    obtain ⟨m, rfl, m0, m1⟩ := hp
    obtain ⟨p, rfl, hmem⟩ : ∃ p, vs = [.ref p, .int m] ∧ (p, PenS) ∈ ω := by
      cases hra with
      | cons h1 h2 =>
        obtain ⟨p, e1, hm⟩ := h1
        cases e1
        obtain ⟨v, rfl, rv⟩ := rel1 h2
        rw [rv.int_inv]
        exact ⟨p, rfl, hm⟩
    obtain ⟨_, o, hH, a, b, c, rfl, b0, b1⟩ := hk.2.2 _ hmem
    have fin : ∀ (a' b' c' r : Int), 0 ≤ b' → b' < 2147483648 → 0 ≤ r → r < m → Q (.int r) (upd H p (.lst [.int a', .int b', .int c'])) := fun a' b' c' r z0 z1 r0 r1 =>
      hq (.int r) (.int r) G _ (Same.refl G) (hk.pen hmem ⟨a', b', c', rfl, z0, z1⟩) (.int r) ⟨m, r, rfl, rfl, r0, r1⟩
    refine ⟨.ref p, rfl, .inl ⟨p, _, 0, .int a, rfl, rfl, .inl (.inl hH), rfl, a, 0, rfl, rfl, _, rfl, ?_⟩⟩
    refine ite_both (fun h => ?_) (fun h => ?_)
    · refine ⟨.ref p, rfl, .inl ⟨p, _, 0, .int a, rfl, rfl, .inl (.inl hH), rfl, .int m, rfl, a, m, rfl, rfl, m0, ?_⟩⟩
      refine ⟨.ref p, rfl, .inl ⟨p, _, 0, .int a, rfl, rfl, .inl (.inl hH), rfl, .int m, rfl, a, m, rfl, rfl, ⟨m0, m1⟩, ?_⟩⟩
      refine ⟨.ref p, rfl, p, _, 0, 0, rfl, rfl, hH, rfl, ?_⟩
      exact ⟨.int (a % m), rfl, fin _ _ _ _ b0 b1 (Int.emod_nonneg a (by omega)) (Int.emod_lt_of_pos a m0)⟩
    · -- pen[2] = pen[2] + 1
      refine ⟨.ref p, rfl, .inl ⟨p, _, 2, .int c, rfl, rfl, .inl (.inl hH), rfl, .inl ⟨c, 1, rfl, rfl, ?_⟩⟩⟩
      refine ⟨.ref p, rfl, p, _, 2, 2, rfl, rfl, hH, rfl, ?_⟩
      have hH1 : upd H p (.lst [.int a, .int b, .int (c + 1)]) p = some (.lst [.int a, .int b, .int (c + 1)]) := upd_same
      -- pen[1] = (pen[1] * 48271 + 1009 * pen[2] + 7) % 2147483647
      refine ⟨.ref p, rfl, .inl ⟨p, _, 1, .int b, rfl, rfl, .inl (.inl hH1), rfl, .inl ⟨b, 48271, rfl, rfl, .inr (by decide), ?_⟩⟩⟩
      refine ⟨.ref p, rfl, .inl ⟨p, _, 2, .int (c + 1), rfl, rfl, .inl (.inl hH1), rfl, .inl ⟨1009, c + 1, rfl, rfl, .inl (by decide), ?_⟩⟩⟩
      refine .inl ⟨_, _, rfl, rfl, .inl ⟨_, 7, rfl, rfl, _, 2147483647, rfl, rfl, (by show (0 : Int) < 2147483647; decide), ?_⟩⟩
      refine ⟨.ref p, rfl, p, _, 1, 1, rfl, rfl, hH1, rfl, ?_⟩
      rw [upd_upd]
      have sq : ∀ x : Int, 0 ≤ x → x < 2147483648 → CMul x x := fun x h0 h1 => .inl ⟨by omega, by omega⟩
      have n0 : 0 ≤ (b * 48271 + 1009 * (c + 1) + 7) % 2147483647 := Int.emod_nonneg _ (by decide)
      have n1 : (b * 48271 + 1009 * (c + 1) + 7) % 2147483647 < 2147483647 := Int.emod_lt_of_pos _ (by decide)
      have hH2 : upd H p (.lst [.int a, .int ((b * 48271 + 1009 * (c + 1) + 7) % 2147483647), .int (c + 1)]) p = some (.lst [.int a, .int ((b * 48271 + 1009 * (c + 1) + 7) % 2147483647), .int (c + 1)]) := upd_same
      -- stirred
      refine ⟨.ref p, rfl, .inl ⟨p, _, 1, _, rfl, rfl, .inl (.inl hH2), rfl, ?_⟩⟩
      refine ⟨.ref p, rfl, .inl ⟨p, _, 1, _, rfl, rfl, .inl (.inl hH2), rfl, .inl ⟨_, _, rfl, rfl, sq _ n0 (by omega), ?_⟩⟩⟩
      refine ⟨.ref p, rfl, .inl ⟨p, _, 1, _, rfl, rfl, .inl (.inl hH2), rfl, .inl ⟨69621, _, rfl, rfl, .inl (by decide), ?_⟩⟩⟩
      refine .inl ⟨_, _, rfl, rfl, .inl ⟨_, 11, rfl, rfl, _, 2147483629, rfl, rfl, (by show (0 : Int) < 2147483629; decide), ?_⟩⟩
      have s0 : ∀ x : Int, 0 ≤ x % 2147483629 := fun x => Int.emod_nonneg _ (by decide)
      have s1 : ∀ x : Int, x % 2147483629 < 2147483629 := fun x => Int.emod_lt_of_pos _ (by decide)
      refine ⟨_, rfl, _, rfl, .inl ⟨_, _, rfl, rfl, sq _ (s0 _) (Int.lt_trans (s1 _) (by decide)), _, rfl, .inl ⟨40014, _, rfl, rfl, .inl (by decide), .inl ⟨_, _, rfl, rfl, _, 2147483587, rfl, rfl, (by show (0 : Int) < 2147483587; decide), ?_⟩⟩⟩⟩
      refine ⟨_, rfl, _, 16, rfl, rfl, ⟨by decide, by decide⟩, .int m, rfl, _, m, rfl, rfl, m0, ?_⟩
      exact fin _ _ _ _ n0 (Int.lt_trans n1 (by decide)) (Int.emod_nonneg _ (by omega)) (Int.emod_lt_of_pos _ m0)⟩)
end
abbrev ct_meet_once : Ct := ctA (α := Int × List Int × List Int) (fun a => [.dat (patD a.1 a.2.1), .dat (patD a.1 a.2.2)]) (fun a => Beat a.1 a.2.1 ∧ Beat a.1 a.2.2) (fun a r => r = .bool (noneB (distL a.1 a.2.1) (distL a.1 a.2.2)))
section
variable {P : Program} {w : World} {K : PySem.W.Frag} {mg : Str → Option Value} {base : Heap}
set_option maxHeartbeats 8000000 in
theorem u_meet_once (T : Tx K mg) (U_check_pattern : Use P w K mg base "check_pattern" 5 ["pattern"] (spD K ct_check_pattern)) (U_distances : Use P w K mg base "distances" 6 ["pattern"] (spD K ct_distances)) (U_nothing_common : Use P w K mg base "nothing_common" 1 ["one", "other"] (spD K ct_nothing_common)) : Use P w K mg base "meet_once" 7 ["one", "other"] (spD K ct_meet_once) :=
  Use.mk' T.f_meet_once sc_meet_once (fun es hp => by
    obtain ⟨a, rfl, _⟩ := hp
    exact ⟨rfl, rfl⟩) (fun f cdv A out s H E hG hr => ⟨_, (pss_cons (ps_expr (pe_u U_check_pattern hG (hr.mono (by decide)) rfl (pa_cons (pv 0) pa_nil)))
  (pss_cons (ps_expr (pe_u U_check_pattern hG (hr.mono (by decide)) rfl (pa_cons (pv 1) pa_nil)))
  (pss_cons (ps_if (pt_cmpR (op_neK hr.units) (pe_ix ix_k (pv 0) pe_int (fun _ _ => rfl)) (pe_ix ix_k (pv 1) pe_int (fun _ _ => rfl)) (nomark _)) (pss_one ps_never) pss_nil)
  (pss_one (ps_ret (pe_u U_nothing_common hG (hr.mono (by decide)) rfl (pa_cons (pe_u U_distances hG hr rfl (pa_cons (pv 0) pa_nil)) (pa_cons (pe_u U_distances hG hr rfl (pa_cons (pv 1) pa_nil)) pa_nil)))))))), fun es hp => by
    obtain ⟨⟨n, ms, ls⟩, rfl, hm, hl⟩ := hp
    have hm : Beat n ms := hm
    have hl : Beat n ls := hl
    have n0 := hm.n0
    have n1 := hm.n1
    refine ws_tell (rt := fun r => r = .bool (noneB (distL n ms) (distL n ls))) ?_ (fun d h a e _ => by
      obtain ⟨n', ms', ls'⟩ := a
      obtain ⟨e1, e2⟩ := es2 e
      obtain ⟨c1, c2⟩ := patD_inj e1
      obtain ⟨c3, c4⟩ := patD_inj e2
      subst c1 c2 c4
      exact h)
    refine ws_seq <| ws_drop <| w_call <| wa_cons <| w_var rfl <| wa_nil ⟨⟨_, rfl, beat_tame hm, beat_isPat hm⟩, fun _ _ => ?_⟩
    refine ws_seq <| ws_drop <| w_call <| wa_cons <| w_var rfl <| wa_nil ⟨⟨_, rfl, beat_tame hl, beat_isPat hl⟩, fun _ _ => ?_⟩
    refine ws_seq <| ws_if <| wt_test <| w_op <| w_op <| w_var rfl <| w_int <| k_ixT (d := .int n) rfl <| w_op <| w_var rfl <| w_int <| k_ixT (d := .int n) rfl <| k_ne rfl rfl ⟨_, rfl, ?_⟩
    rw [eqv_int, decide_eq_true (rfl : n = n)]
    refine iteF <| ws_next <| ws_ret <| w_callA <| wa_cons <| w_callA <| wa_cons <| w_var rfl <| wa_nil ⟨(n, ms), rfl, hm, fun r hr => ?_⟩
    subst hr
    refine wa_cons <| w_callA <| wa_cons <| w_var rfl <| wa_nil ⟨(n, ls), rfl, hl, fun r hr => ?_⟩
    subst hr
    have h1 := dist_len (n := n) (ms := ms) (by omega)
    exact wa_nil ⟨(distL n ms, distL n ls), rfl, by show (distL n ms).length ≤ 1000; omega, fun r hr => hr⟩⟩)
end
def ct_turned_slots : Ct := ⟨fun es => ∃ (n : Int) (ms : List Int) (b : Int), es = [.dat (patD n ms), .dat (.int b)] ∧ Beat n ms, fun es r => ∃ (n : Int) (ms : List Int) (b : Int), es = [.dat (patD n ms), .dat (.int b)] ∧ r = .tuple ((turnS n ms b).map .int)⟩
section
variable {P : Program} {w : World} {K : PySem.W.Frag} {mg : Str → Option Value} {base : Heap}
set_option maxHeartbeats 8000000 in
theorem u_turned_slots (T : Tx K mg) : Use P w K mg base "turned_slots" 1 ["pattern", "by"] (spD K ct_turned_slots) :=
  Use.mk' T.f_turned_slots sc_turned_slots (fun es hp => by
    obtain ⟨n, ms, b, rfl, _⟩ := hp
    exact ⟨rfl, rfl⟩) (fun f cdv A out s H E hG hr => ⟨_, (pss_cons (ps_asg (pv 0) (pg_tup rfl (pgs_cons (pg_name (i := 2) sc_turned_slots.nd rfl (by first | exact Or.inl rfl | exact Or.inr rfl)) (pgs_cons (pg_name (i := 3) sc_turned_slots.nd rfl (by first | exact Or.inl rfl | exact Or.inr rfl)) pgs_nil))))
  (pss_one (ps_ret (pe_callTy call_tup1 rfl T.n_tuple boot_tuple (pa_cons (pe_callB cr_sorted rfl T.n_sorted (by decide +kernel) (pa_cons (pe_lc (own := [("slot", 4)]) (g := gName 4) (te := (tOp (rI (fun _ j => 0 < j) fun i j => .int (i % j)) (tOp (rAddK K) (tVar 4) (tVar 1)) (tVar 2))) (tt := tYes) rfl sc_turned_slots.nd (pi_seq (pv 3)) (blkOk_by (N := ["pattern", "by", "period", "slots", "slot"]) (sc := defScope s_turned_slots) (by decide +kernel)) (fun _ _ _ _ _ => (pg_name (i := 4) sc_turned_slots.nd rfl (by first | exact Or.inl rfl | exact Or.inr rfl))) (fun _ _ _ _ _ => pts_nil) (fun _ _ _ _ _ => (pe_op op_mod (pe_op op_addK (pv 4) (pv 1)) (pv 2)))) pa_nil)) pa_nil))))), fun es hp => by
    obtain ⟨n, ms, b, rfl, hb⟩ := hp
    have n0 := hb.n0
    have n1 := hb.n1
    have few := hb.few
    refine ws_seq <| ws_asgT <| w_var rfl <| g_tup rfl <| gs_cons <| g_name <| gs_cons <| g_name <| gs_nil ?_
    refine ws_ret <| w_cb <| wa_cons <| w_cb <| wa_cons <| w_mapP (α := Int) .int (fun s => .int ((s + b) % n)) (by decide) <| wi_seqT <| w_var rfl ⟨_, rfl, ms, rfl, by omega, fun s _ => w_op <| w_op <| w_var rfl <| w_var rfl <| k_addI <| w_var rfl <| k_mod (by omega) rfl, ?_⟩
    have e : ms.map (fun s => PyData.int ((s + b) % n)) = (ms.map fun s => (s + b) % n).map .int := by
      rw [List.map_map]
      rfl
    rw [e]
    refine wa_nil <| b_sorted (by rw [List.length_map]; omega) fun L h1 h2 => wa_nil <| b_tupL ⟨n, ms, b, rfl, ?_⟩
    rw [turn_sorted hb h1 h2]⟩)
end
def ct_turned : Ct := ⟨fun es => ∃ (n : Int) (ms : List Int) (b : Int), es = [.dat (patD n ms), .dat (.int b)] ∧ Beat n ms, fun es r => ∃ (n : Int) (ms : List Int) (b : Int), es = [.dat (patD n ms), .dat (.int b)] ∧ r = patD n (turnS n ms b)⟩
section
variable {P : Program} {w : World} {K : PySem.W.Frag} {mg : Str → Option Value} {base : Heap}
set_option maxHeartbeats 8000000 in
theorem u_turned (T : Tx K mg) (U_check_pattern : Use P w K mg base "check_pattern" 5 ["pattern"] (spD K ct_check_pattern)) (U_is_integer : Use P w K mg base "is_integer" 1 ["thing"] (spD K ct_is_integer)) (U_turned_slots : Use P w K mg base "turned_slots" 1 ["pattern", "by"] (spD K ct_turned_slots)) : Use P w K mg base "turned" 6 ["pattern", "by"] (spD K ct_turned) :=
  Use.mk' T.f_turned sc_turned (fun es hp => by
    obtain ⟨n, ms, b, rfl, _⟩ := hp
    exact ⟨rfl, rfl⟩) (fun f cdv A out s H E hG hr => ⟨_, (pss_cons (ps_expr (pe_u U_check_pattern hG hr rfl (pa_cons (pv 0) pa_nil)))
  (pss_cons (ps_if (pt_not (pt_val (pe_u U_is_integer hG (hr.mono (by decide)) rfl (pa_cons (pv 1) pa_nil)))) (pss_one ps_never) pss_nil)
  (pss_one (ps_ret (pe_tup (pa_cons (pe_ix ix_k (pv 0) pe_int (fun _ _ => rfl)) (pa_cons (pe_u U_turned_slots hG (hr.mono (by decide)) rfl (pa_cons (pv 0) (pa_cons (pv 1) pa_nil))) pa_nil))))))), fun es hp => by
    obtain ⟨n, ms, b, rfl, hb⟩ := hp
    refine ws_seq <| ws_drop <| w_call <| wa_cons <| w_var rfl <| wa_nil ⟨⟨_, rfl, beat_tame hb, beat_isPat hb⟩, fun _ _ => ?_⟩
    refine ws_seq <| ws_if <| wt_not <| wt_B <| w_call <| wa_cons <| w_var rfl <| wa_nil ⟨⟨_, rfl⟩, fun r hr => ?_⟩
    obtain ⟨d, e1, rfl⟩ := hr
    cases e1
    refine ⟨_, rfl, iteF <| ws_next <| ws_ret <| w_tup <| wa_cons <| w_op <| w_var rfl <| w_int <| k_ixT rfl <| wa_cons <| w_call <| wa_cons <| w_var rfl <| wa_cons <| w_var rfl <| wa_nil ⟨⟨n, ms, b, rfl, hb⟩, fun r hr => ?_⟩⟩
    obtain ⟨n', ms', b', e1, rfl⟩ := hr
    obtain ⟨e2, e3⟩ := es2 e1
    obtain ⟨rfl, rfl⟩ := patD_inj e2
    have e4 := int_inj e3
    subst e4
    exact wa_nil ⟨_, rfl, by show 2 ≤ sizeLine; decide, n, ms, b, rfl, rfl⟩⟩)
end
abbrev pdW : Dt := .list [.tuple [.int (1), .int (2), .int (3), .int (10), .int (11), .int (12)], .tuple [.int (4), .int (5), .int (8), .int (9)], .tuple [.int (4)], .tuple []]
theorem pdW_sh : Shows pdW := ⟨rfl, rfl, by decide +kernel, by decide +kernel⟩
abbrev pmW : Dt := .list [.bool true, .bool true, .bool false, .bool true, .bool true]
theorem pmW_sh : Shows pmW := ⟨rfl, rfl, by decide +kernel, by decide +kernel⟩
abbrev ct_l_pairs_right : Ct := ctA (α := Int) (fun b => [.dat (.int b)]) (fun _ => True) (fun _ r => r = .bool true)
section
variable {P : Program} {w : World} {K : PySem.W.Frag} {mg : Str → Option Value} {base : Heap}
set_option maxHeartbeats 8000000 in
theorem u_l_pairs_right (T : Tx K mg) (U_l_same : Use P w K mg base "_law_same" 1 ["_law_found", "_law_due"] (spD K ct_l_same)) (U_distances : Use P w K mg base "distances" 6 ["pattern"] (spD K ct_distances)) (U_meet_once : Use P w K mg base "meet_once" 7 ["one", "other"] (spD K ct_meet_once)) (U_turned : Use P w K mg base "turned" 6 ["pattern", "by"] (spD K ct_turned)) : Use P w K mg base "_law_pairs_right" 8 ["_law_by"] (spD K ct_l_pairs_right) :=
  Use.mk' T.f_l_pairs_right sc_l_pairs_right (fun es hp => by
    obtain ⟨a, rfl, _⟩ := hp
    exact ⟨rfl, rfl⟩) (fun f cdv A out s H E hG hr => ⟨_, (pss_cons (ps_asg (pe_tup (pa_cons (pe_tup (pa_cons pe_int (pa_cons (pe_tup (pa_cons pe_int (pa_cons pe_int (pa_cons pe_int pa_nil)))) pa_nil))) (pa_cons (pe_tup (pa_cons pe_int (pa_cons (pe_tup (pa_cons pe_int (pa_cons pe_int (pa_cons pe_int pa_nil)))) pa_nil))) (pa_cons (pe_tup (pa_cons pe_int (pa_cons (pe_tup (pa_cons pe_int (pa_cons pe_int pa_nil))) pa_nil))) pa_nil)))) (pg_tup rfl (pgs_cons (pg_name (i := 1) sc_l_pairs_right.nd rfl (by first | exact Or.inl rfl | exact Or.inr rfl)) (pgs_cons (pg_name (i := 2) sc_l_pairs_right.nd rfl (by first | exact Or.inl rfl | exact Or.inr rfl)) (pgs_cons (pg_name (i := 3) sc_l_pairs_right.nd rfl (by first | exact Or.inl rfl | exact Or.inr rfl)) pgs_nil)))))
  (pss_cons (ps_set (i := 4) sc_l_pairs_right.nd rfl (by first | exact Or.inl rfl | exact Or.inr rfl) (pe_lst (pa_cons (pe_u U_distances hG (hr.mono (by decide)) rfl (pa_cons (pe_u U_turned hG (hr.mono (by decide)) rfl (pa_cons (pv 1) (pa_cons (pv 0) pa_nil))) pa_nil)) (pa_cons (pe_uR U_distances hG (hr.mono (by decide)) rfl (pk_cons (pv 2) pk_nil)) (pa_cons (pe_u U_distances hG (hr.mono (by decide)) rfl (pa_cons (pv 3) pa_nil)) (pa_cons (pe_u U_distances hG (hr.mono (by decide)) rfl (pa_cons (pe_tup (pa_cons pe_int (pa_cons (pe_tup (pa_cons pe_int pa_nil)) pa_nil))) pa_nil)) pa_nil))))))
  (pss_cons (ps_if (pt_not (pt_val (pe_u U_l_same hG (hr.mono (by decide)) rfl (pa_cons (pv 4) (pa_cons (pe_lst (pa_cons (pe_tup (pa_cons pe_int (pa_cons pe_int (pa_cons pe_int (pa_cons pe_int (pa_cons pe_int (pa_cons pe_int pa_nil))))))) (pa_cons (pe_tup (pa_cons pe_int (pa_cons pe_int (pa_cons pe_int (pa_cons pe_int pa_nil))))) (pa_cons (pe_tup (pa_cons pe_int pa_nil)) (pa_cons (pe_tup pa_nil) pa_nil))))) pa_nil))))) (pss_one (ps_ret pe_bl)) pss_nil)
  (pss_cons (ps_set (i := 4) sc_l_pairs_right.nd rfl (by first | exact Or.inl rfl | exact Or.inr rfl) (pe_lst (pa_cons (pe_u U_meet_once hG hr rfl (pa_cons (pe_u U_turned hG (hr.mono (by decide)) rfl (pa_cons (pv 1) (pa_cons (pv 0) pa_nil))) (pa_cons (pv 2) pa_nil))) (pa_cons (pe_uR U_meet_once hG hr rfl (pk_cons (pv 1) (pk_cons (pv 2) pk_nil))) (pa_cons (pe_u U_meet_once hG hr rfl (pa_cons (pv 3) (pa_cons (pv 3) pa_nil))) pa_nil)))))
  (pss_cons (ps_set (i := 4) sc_l_pairs_right.nd rfl (by first | exact Or.inl rfl | exact Or.inr rfl) (pe_op op_addK (pv 4) (pe_lst (pa_cons (pe_u U_meet_once hG hr rfl (pa_cons (pe_tup (pa_cons pe_int (pa_cons (pe_tup (pa_cons pe_int (pa_cons pe_int pa_nil))) pa_nil))) (pa_cons (pv 3) pa_nil))) (pa_cons (pe_u U_meet_once hG hr rfl (pa_cons (pe_tup (pa_cons pe_int (pa_cons (pe_tup (pa_cons pe_int pa_nil)) pa_nil))) (pa_cons (pv 3) pa_nil))) pa_nil)))))
  (pss_one (ps_ret (pe_u U_l_same hG (hr.mono (by decide)) rfl (pa_cons (pv 4) (pa_cons (pe_lst (pa_cons pe_bl (pa_cons pe_bl (pa_cons pe_bl (pa_cons pe_bl (pa_cons pe_bl pa_nil)))))) pa_nil)))))))))), fun es hp => by
    obtain ⟨b, rfl, _⟩ := hp
    refine ws_tell (rt := fun r => r = .bool true) ?_ (fun d h _ _ _ => h)
    refine ws_seq <| ws_asgT ?_
    repeat (first | refine w_lst ?_ | refine w_tup ?_ | refine wa_cons ?_ | refine w_int ?_ | refine w_non ?_ | refine w_bl ?_ | refine w_str ?_ | refine w_un <| w_int <| u_neg ?_ | refine wa_nil ⟨_, rfl, by decide, ?_⟩)
    refine g_tup rfl <| gs_cons <| g_name <| gs_cons <| g_name <| gs_cons <| g_name <| gs_nil ?_
    refine ws_seq <| ws_asg <| w_lst ?_
    refine wa_cons <| w_callA ?_
    refine wa_cons <| w_call <| wa_cons <| w_var rfl <| wa_cons <| w_var rfl <| wa_nil ⟨⟨13, [0, 1, 3], b, rfl, beat_by (by decide)⟩, fun r hr => ?_⟩
    obtain ⟨n', ms', b', e1, rfl⟩ := hr
    obtain ⟨a1, a2⟩ := es2 e1
    obtain ⟨rfl, rfl⟩ := patD_inj (n := 13) (ms := [0, 1, 3]) a1
    obtain rfl := int_inj a2
    refine wa_nil ⟨(13, turnS 13 [0, 1, 3] b), rfl, (turn_beat (n := 13) (ms := [0, 1, 3]) (beat_by (by decide)) b), fun r hr => ?_⟩
    have hr2 : r = PyData.tuple ((distL 13 (turnS 13 [0, 1, 3] b)).map .int) := hr
    rw [dist_turn (n := 13) (ms := [0, 1, 3]) (beat_by (by decide)) b] at hr2
    have hv : PyData.tuple ((distL 13 [0, 1, 3]).map .int) = .tuple [.int (1), .int (2), .int (3), .int (10), .int (11), .int (12)] := by kernel_rfl
    rw [hv] at hr2
    subst hr2
    refine wa_cons <| w_callR ?_
    refine wa_cons <| w_var rfl <| ?_
    refine wa_nil ⟨(13, [0, 4, 9]), rfl, beat_by (by decide), fun r hr => ?_⟩
    have hr2 : r = PyData.tuple ((distL 13 [0, 4, 9]).map .int) := hr
    have hv : PyData.tuple ((distL 13 [0, 4, 9]).map .int) = .tuple [.int (4), .int (5), .int (8), .int (9)] := by kernel_rfl
    rw [hv] at hr2
    subst hr2
    refine wa_cons <| w_callA ?_
    refine wa_cons <| w_var rfl <| ?_
    refine wa_nil ⟨(8, [0, 4]), rfl, beat_by (by decide), fun r hr => ?_⟩
    have hr2 : r = PyData.tuple ((distL 8 [0, 4]).map .int) := hr
    have hv : PyData.tuple ((distL 8 [0, 4]).map .int) = .tuple [.int (4)] := by kernel_rfl
    rw [hv] at hr2
    subst hr2
    refine wa_cons <| w_callA ?_
    repeat (first | refine w_lst ?_ | refine w_tup ?_ | refine wa_cons ?_ | refine w_int ?_ | refine w_non ?_ | refine w_bl ?_ | refine w_str ?_ | refine w_un <| w_int <| u_neg ?_ | refine wa_nil ⟨_, rfl, by decide, ?_⟩)
    refine wa_nil ⟨(5, [3]), rfl, beat_by (by decide), fun r hr => ?_⟩
    have hr2 : r = PyData.tuple ((distL 5 [3]).map .int) := hr
    have hv : PyData.tuple ((distL 5 [3]).map .int) = .tuple [] := by kernel_rfl
    rw [hv] at hr2
    subst hr2
    refine wa_nil ⟨_, rfl, by show 4 ≤ sizeLine; decide, ?_⟩
    refine ws_seq <| ws_if <| wt_not <| wt_B <| w_call <| wa_cons <| w_var rfl <| wa_cons ?_
    repeat (first | refine w_lst ?_ | refine w_tup ?_ | refine wa_cons ?_ | refine w_int ?_ | refine w_non ?_ | refine w_bl ?_ | refine w_str ?_ | refine w_un <| w_int <| u_neg ?_ | refine wa_nil ⟨_, rfl, by decide, ?_⟩)
    refine wa_nil ⟨⟨pdW, pdW, rfl, pdW_sh, pdW_sh⟩, fun r hr => ?_⟩
    obtain ⟨c', d', e1, rfl⟩ := hr
    have hc' : c' = pdW := (es2 e1).1.symm
    have hd' : d' = pdW := (es2 e1).2.symm
    subst hc' hd'
    refine ⟨_, rfl, ?_⟩
    rw [decide_eq_true rfl]
    refine iteF <| ws_next ?_
    refine ws_seq <| ws_asg <| w_lst ?_
    refine wa_cons <| w_callA ?_
    refine wa_cons <| w_call <| wa_cons <| w_var rfl <| wa_cons <| w_var rfl <| wa_nil ⟨⟨13, [0, 1, 3], b, rfl, beat_by (by decide)⟩, fun r hr => ?_⟩
    obtain ⟨n', ms', b', e1, rfl⟩ := hr
    obtain ⟨a1, a2⟩ := es2 e1
    obtain ⟨rfl, rfl⟩ := patD_inj (n := 13) (ms := [0, 1, 3]) a1
    obtain rfl := int_inj a2
    refine wa_cons <| w_var rfl <| ?_
    refine wa_nil ⟨(13, turnS 13 [0, 1, 3] b, [0, 4, 9]), rfl, ⟨(turn_beat (n := 13) (ms := [0, 1, 3]) (beat_by (by decide)) b), (show Beat 13 [0, 4, 9] from beat_by (by decide))⟩, fun r hr => ?_⟩
    have hr2 : r = PyData.bool (noneB (distL 13 (turnS 13 [0, 1, 3] b)) (distL 13 [0, 4, 9])) := hr
    rw [dist_turn (n := 13) (ms := [0, 1, 3]) (beat_by (by decide)) b] at hr2
    have hv : PyData.bool (noneB (distL 13 [0, 1, 3]) (distL 13 [0, 4, 9])) = .bool true := by kernel_rfl
    rw [hv] at hr2
    subst hr2
    refine wa_cons <| w_callR ?_
    refine wa_cons <| w_var rfl <| wa_cons <| w_var rfl <| ?_
    refine wa_nil ⟨(13, [0, 4, 9], [0, 1, 3]), rfl, ⟨beat_by (by decide), beat_by (by decide)⟩, fun r hr => ?_⟩
    have hr2 : r = PyData.bool (noneB (distL 13 [0, 4, 9]) (distL 13 [0, 1, 3])) := hr
    have hv : PyData.bool (noneB (distL 13 [0, 4, 9]) (distL 13 [0, 1, 3])) = .bool true := by kernel_rfl
    rw [hv] at hr2
    subst hr2
    refine wa_cons <| w_callA ?_
    refine wa_cons <| w_var rfl <| wa_cons <| w_var rfl <| ?_
    refine wa_nil ⟨(8, [0, 4], [0, 4]), rfl, ⟨beat_by (by decide), beat_by (by decide)⟩, fun r hr => ?_⟩
    have hr2 : r = PyData.bool (noneB (distL 8 [0, 4]) (distL 8 [0, 4])) := hr
    have hv : PyData.bool (noneB (distL 8 [0, 4]) (distL 8 [0, 4])) = .bool false := by kernel_rfl
    rw [hv] at hr2
    subst hr2
    refine wa_nil ⟨_, rfl, by show 3 ≤ sizeLine; decide, ?_⟩
    refine ws_seq <| ws_asg <| w_op <| w_var rfl <| w_lst ?_
    refine wa_cons <| w_callA ?_
    repeat (first | refine w_lst ?_ | refine w_tup ?_ | refine wa_cons ?_ | refine w_int ?_ | refine w_non ?_ | refine w_bl ?_ | refine w_str ?_ | refine w_un <| w_int <| u_neg ?_ | refine wa_nil ⟨_, rfl, by decide, ?_⟩)
    refine w_var rfl ?_
    refine wa_nil ⟨(8, [0, 1], [0, 4]), rfl, ⟨beat_by (by decide), beat_by (by decide)⟩, fun r hr => ?_⟩
    have hr2 : r = PyData.bool (noneB (distL 8 [0, 1]) (distL 8 [0, 4])) := hr
    have hv : PyData.bool (noneB (distL 8 [0, 1]) (distL 8 [0, 4])) = .bool true := by kernel_rfl
    rw [hv] at hr2
    subst hr2
    refine wa_cons <| w_callA ?_
    repeat (first | refine w_lst ?_ | refine w_tup ?_ | refine wa_cons ?_ | refine w_int ?_ | refine w_non ?_ | refine w_bl ?_ | refine w_str ?_ | refine w_un <| w_int <| u_neg ?_ | refine wa_nil ⟨_, rfl, by decide, ?_⟩)
    refine w_var rfl ?_
    refine wa_nil ⟨(8, [3], [0, 4]), rfl, ⟨beat_by (by decide), beat_by (by decide)⟩, fun r hr => ?_⟩
    have hr2 : r = PyData.bool (noneB (distL 8 [3]) (distL 8 [0, 4])) := hr
    have hv : PyData.bool (noneB (distL 8 [3]) (distL 8 [0, 4])) = .bool true := by kernel_rfl
    rw [hv] at hr2
    subst hr2
    refine wa_nil ⟨_, rfl, by show 2 ≤ sizeLine; decide, k_addL (by decide) ?_⟩
    refine ws_ret <| w_call <| wa_cons <| w_var rfl <| wa_cons ?_
    repeat (first | refine w_lst ?_ | refine w_tup ?_ | refine wa_cons ?_ | refine w_int ?_ | refine w_non ?_ | refine w_bl ?_ | refine w_str ?_ | refine w_un <| w_int <| u_neg ?_ | refine wa_nil ⟨_, rfl, by decide, ?_⟩)
    refine wa_nil ⟨⟨pmW, pmW, rfl, pmW_sh, pmW_sh⟩, fun r hr => ?_⟩
    obtain ⟨c', d', e1, rfl⟩ := hr
    have hc' : c' = pmW := (es2 e1).1.symm
    have hd' : d' = pmW := (es2 e1).2.symm
    subst hc' hd'
    show PyData.bool (decide _) = _
    rw [decide_eq_true rfl]⟩)
end
section
variable {P : Program} {w : World} {K : PySem.W.Frag} {mg : Str → Option Value} {base : Heap}
set_option maxHeartbeats 8000000 in
theorem u_l_pen (T : Tx K mg) : Use P w K mg base "_law_pen" 1 ["_law_cell_here"] sp_pen :=
  Use.low T.f_l_pen sc_l_pen (fun vs H Q E h => by
    obtain ⟨n, rfl, _⟩ := h
    rfl) (fun f cdv A out s H vs Q E hG hr h => ⟨_, (pss_one (ps_ret (pe_lst (pa_cons (pe_callB (call_mx rfl) rfl T.n_max (show bootBuiltins "max" = some (Value.builtin "max") by decide +kernel) (pa_cons pe_int (pa_cons (pe_op op_sub (pv 0) (pe_op op_pow pe_int pe_int)) pa_nil))) (pa_cons (pe_op op_addK (pe_op op_mod (pv 0) pe_int) pe_int) (pa_cons pe_int pa_nil)))))), by
    obtain ⟨n, rfl, q⟩ := h
    refine ⟨.int n, rfl, 10, 18, rfl, rfl, ⟨by decide, by decide, by decide⟩, n, _, rfl, rfl, 0, _, rfl, ?_⟩
    refine ⟨.int n, rfl, n, 2147483629, rfl, rfl, (by show (0 : Int) < 2147483629; decide), .inl ⟨_, 1, rfl, rfl, ?_⟩⟩
    refine ⟨by show 3 ≤ sizeLine; decide, fun p hp => ?_⟩
    have h0 : 0 ≤ n % 2147483629 := Int.emod_nonneg _ (by decide)
    have h1 : n % 2147483629 < 2147483629 := Int.emod_lt_of_pos _ (by decide)
    exact q p _ _ _ hp (by omega) (by omega)⟩)
end
def ct_law : Ct := ⟨fun es => ∃ ns : List Int, es = [.scr ns] ∧ ns.length ≤ 63, fun _ d => d = .bool true⟩
section
variable {P : Program} {w : World} {K : PySem.W.Frag} {mg : Str → Option Value} {base : Heap}
set_option maxHeartbeats 8000000 in
theorem g_law (T : Tx K mg) (U_l_cell : Use P w K mg base "_law_cell" 1 ["_law_script", "_law_k"] (spD K ct_l_cell)) (U_l_codes_right : Use P w K mg base "_law_codes_right" 12 [] (spD K ct_l_codes_right)) (U_l_draw : Use P w K mg base "_law_draw" 1 ["_law_pen_here", "_law_amount"] (spD K ct_l_draw)) (U_l_pairs_right : Use P w K mg base "_law_pairs_right" 8 ["_law_by"] (spD K ct_l_pairs_right)) (U_l_pen : Use P w K mg base "_law_pen" 1 ["_law_cell_here"] sp_pen) {f : Addr} {fd : FuncData} (F : Fun K "law" "law" s_law f fd) : FnG P w K mg base 13 f fd ["_law_script"] (spD K ct_law) :=
  fng_ws F sc_law (fun es hp => by
    obtain ⟨ns, rfl, _⟩ := hp
    exact ⟨rfl, rfl⟩) (fun cdv A out s H E hG hr => ⟨_, (pss_cons (ps_for PassesOwn.never rfl (pi_range1 rfl T.n_range (pa_cons (pe_callB (call_mx rfl) rfl T.n_max (show bootBuiltins "max" = some (Value.builtin "max") by decide +kernel) (pa_cons pe_int (pa_cons (pe_callB (call_mn rfl) rfl T.n_min (by decide +kernel) (pa_cons (pe_callB call_len1 rfl T.n_len (by decide +kernel) (pa_cons (pv 0) pa_nil)) (pa_cons pe_int pa_nil))) pa_nil))) pa_nil)) (pg_name (i := 1) sc_law.nd rfl (by first | exact Or.inl rfl | exact Or.inr rfl)) (pss_one (ps_if (pt_not (pt_val (pe_u U_l_pairs_right hG (hr.mono (by decide)) rfl (pa_cons (pe_op op_sub (pe_u U_l_draw hG (hr.mono (by decide)) rfl (pa_cons (pe_u U_l_pen hG (hr.mono (by decide)) rfl (pa_cons (pe_u U_l_cell hG (hr.mono (by decide)) rfl (pa_cons (pv 0) (pa_cons (pv 1) pa_nil))) pa_nil)) (pa_cons pe_int pa_nil))) pe_int) pa_nil)))) (pss_one (ps_ret pe_bl)) pss_nil)))
  (pss_one (ps_ret (pe_u0 U_l_codes_right hG hr rfl)))), fun es hp => by
    obtain ⟨ns, rfl, hz⟩ := hp
    refine ws_seq <| ws_for <| wi_rng1 <| wa_cons <| w_cb <| wa_cons <| w_int <| wa_cons <| w_cb <| wa_cons <| w_lenScr (ns := ns) rfl <| wa_cons <| w_int <| wa_nil <| b_min2 <| wa_nil <| b_max2 <| wa_nil ⟨_, rfl, by split <;> omega, by split <;> split <;> omega, fun i δ' => ∃ y, δ' = [.scr ns, y], ⟨_, rfl⟩, ?_, ?_⟩
    · rintro i x δ' hx ⟨y, rfl⟩
      obtain ⟨hi, rfl⟩ := up_get hx
      rw [Int.zero_add]
      refine g_name <| ws_if <| wt_not <| wt_B <| w_callA <| wa_cons <| w_op <| w_callPen <| wa_cons <| w_call <| wa_scr rfl <| wa_cons <| w_var rfl <| wa_nil ⟨⟨ns, i, rfl, by omega⟩, fun r hr => ?_⟩
      obtain ⟨c, rfl⟩ := hr
      refine wa_nil ⟨c, rfl, wa_cons <| w_int <| wa_nil ⟨⟨40, rfl, by decide, by decide⟩, fun r hr => ?_⟩⟩
      obtain ⟨m, b, e1, rfl, b0, b1⟩ := hr
      have e2 := int_inj (es2p e1)
      subst e2
      exact w_int <| k_sub <| wa_nil ⟨b - 20, rfl, trivial, fun r hr => ⟨true, hr, iteF <| ws_next ⟨_, rfl⟩⟩⟩
    · rintro δ' ⟨y, rfl⟩
      exact ws_ret <| w_callA <| wa_nil ⟨(), rfl, trivial, fun r hr => hr⟩⟩)
end
theorem law_end (ns : List Int) (h : ns.length ≤ 63) : ct_law.pre [.scr ns] ∧ ∀ r, ct_law.post [.scr ns] r → r = .bool true := ⟨⟨ns, rfl, h⟩, fun _ h => h⟩

section
variable {P : Program} {w : World} {K : PySem.W.Frag} {mg : Str → Option Value} {base : Heap}
theorem all_defs (T : Tx K mg) (base : Heap) (f : Addr) (fd : FuncData) (F : Fun K "law" "law" s_law f fd) : FnG P w K mg base 13 f fd ["_law_script"] (spD K ct_law) := by
  have U_l_cell := u_l_cell (P := P) (w := w) (base := base) T
  have U_l_same := u_l_same (P := P) (w := w) (base := base) T
  have U_is_integer := u_is_integer (P := P) (w := w) (base := base) T
  have U_is_integer_from := u_is_integer_from (P := P) (w := w) (base := base) T U_is_integer
  have U_check_code := u_check_code (P := P) (w := w) (base := base) T U_is_integer_from
  have U_is_set := u_is_set (P := P) (w := w) (base := base) T U_is_integer_from
  have U_is_pattern := u_is_pattern (P := P) (w := w) (base := base) T U_is_integer_from U_is_set
  have U_check_pattern := u_check_pattern (P := P) (w := w) (base := base) T U_is_pattern
  have U_distances := u_distances (P := P) (w := w) (base := base) T U_check_pattern
  have U_code_rows := u_code_rows (P := P) (w := w) (base := base) T U_distances
  have U_nothing_common := u_nothing_common (P := P) (w := w) (base := base) T
  have U_first_code := u_first_code (P := P) (w := w) (base := base) T U_nothing_common 9
  have U_code_size := u_code_size (P := P) (w := w) (base := base) T U_check_code U_code_rows U_first_code
  have U_smallest_code := u_smallest_code (P := P) (w := w) (base := base) T U_check_code U_code_rows U_first_code U_is_integer_from
  have U_l_codes_right := u_l_codes_right (P := P) (w := w) (base := base) T U_l_same U_code_size U_smallest_code
  have U_l_draw := u_l_draw (P := P) (w := w) (base := base) T
  have U_meet_once := u_meet_once (P := P) (w := w) (base := base) T U_check_pattern U_distances U_nothing_common
  have U_turned_slots := u_turned_slots (P := P) (w := w) (base := base) T
  have U_turned := u_turned (P := P) (w := w) (base := base) T U_check_pattern U_is_integer U_turned_slots
  have U_l_pairs_right := u_l_pairs_right (P := P) (w := w) (base := base) T U_l_same U_distances U_meet_once U_turned
  have U_l_pen := u_l_pen (P := P) (w := w) (base := base) T
  exact g_law T U_l_cell U_l_codes_right U_l_draw U_l_pairs_right U_l_pen F
end
end K58
open PySem PySem.W PyProof.Rows
set_option maxRecDepth 100000 in
set_option maxHeartbeats 0 in
theorem PySem.Challenge.cw_anyshift_k58_codes_by_hand_and_by_names_holds : PySem.Challenge.rw_anyshift_k58_codes_by_hand_and_by_names.Holds := by
  w_on; o_law; k_head; (case hw => w_witness2)
  k_fill
  letI : DW.Tabl := ⟨[]⟩
  refine DW.ends_g (l := PySem.Challenge.rw_anyshift_k58_codes_by_hand_and_by_names) (n := 63) (k := 13) (x := "_law_script") (c := K58.ct_law) rfl (by decide) rfl ⟨rfl, by decide, by decide⟩ (fun w h Y => PySem.W.kIn_of Y) [] ?CS ?HT ?F (fun ns hl _ => K58.law_end ns hl)
  case CS => exact fun _ _ z => nomatch z
  case HT => exact fun _ z => nomatch z
  case F =>
    intro w mg fa h KX G hmg
    have T : K58.TxIn KX mg := by
      unfold K58.TxIn
      refine' ⟨DW.dfn_mk KX G ?a_l_cell ?l_l_cell ?c_l_cell ?k_l_cell (fun _ _ _ _ _ _ us hl => match us, hl with | [_, _], _ => rfl) (fun _ _ _ _ _ _ us hl => match us, hl with | [_, _], _ => ⟨rfl, rfl, rfl⟩),
        DW.dfn_mk KX G ?a_l_same ?l_l_same ?c_l_same ?k_l_same (fun _ _ _ _ _ _ us hl => match us, hl with | [_, _], _ => rfl) (fun _ _ _ _ _ _ us hl => match us, hl with | [_, _], _ => ⟨rfl, rfl, rfl⟩),
        DW.dfn_mk KX G ?a_is_integer ?l_is_integer ?c_is_integer ?k_is_integer (fun _ _ _ _ _ _ us hl => match us, hl with | [_], _ => rfl) (fun _ _ _ _ _ _ us hl => match us, hl with | [_], _ => ⟨rfl, rfl, rfl⟩),
        DW.dfn_mk KX G ?a_is_integer_from ?l_is_integer_from ?c_is_integer_from ?k_is_integer_from (fun _ _ _ _ _ _ us hl => match us, hl with | [_, _, _], _ => rfl) (fun _ _ _ _ _ _ us hl => match us, hl with | [_, _, _], _ => ⟨rfl, rfl, rfl⟩),
        DW.dfn_mk KX G ?a_check_code ?l_check_code ?c_check_code ?k_check_code (fun _ _ _ _ _ _ us hl => match us, hl with | [_, _], _ => rfl) (fun _ _ _ _ _ _ us hl => match us, hl with | [_, _], _ => ⟨rfl, rfl, rfl⟩),
        DW.dfn_mk KX G ?a_is_set ?l_is_set ?c_is_set ?k_is_set (fun _ _ _ _ _ _ us hl => match us, hl with | [_, _, _], _ => rfl) (fun _ _ _ _ _ _ us hl => match us, hl with | [_, _, _], _ => ⟨rfl, rfl, rfl⟩),
        DW.dfn_mk KX G ?a_is_pattern ?l_is_pattern ?c_is_pattern ?k_is_pattern (fun _ _ _ _ _ _ us hl => match us, hl with | [_], _ => rfl) (fun _ _ _ _ _ _ us hl => match us, hl with | [_], _ => ⟨rfl, rfl, rfl⟩),
        DW.dfn_mk KX G ?a_check_pattern ?l_check_pattern ?c_check_pattern ?k_check_pattern (fun _ _ _ _ _ _ us hl => match us, hl with | [_], _ => rfl) (fun _ _ _ _ _ _ us hl => match us, hl with | [_], _ => ⟨rfl, rfl, rfl⟩),
        DW.dfn_mk KX G ?a_distances ?l_distances ?c_distances ?k_distances (fun _ _ _ _ _ _ us hl => match us, hl with | [_], _ => rfl) (fun _ _ _ _ _ _ us hl => match us, hl with | [_], _ => ⟨rfl, rfl, rfl⟩),
        DW.dfn_mk KX G ?a_code_rows ?l_code_rows ?c_code_rows ?k_code_rows (fun _ _ _ _ _ _ us hl => match us, hl with | [_, _], _ => rfl) (fun _ _ _ _ _ _ us hl => match us, hl with | [_, _], _ => ⟨rfl, rfl, rfl⟩),
        DW.dfn_mk KX G ?a_nothing_common ?l_nothing_common ?c_nothing_common ?k_nothing_common (fun _ _ _ _ _ _ us hl => match us, hl with | [_, _], _ => rfl) (fun _ _ _ _ _ _ us hl => match us, hl with | [_, _], _ => ⟨rfl, rfl, rfl⟩),
        DW.dfn_mk KX G ?a_first_code ?l_first_code ?c_first_code ?k_first_code (fun _ _ _ _ _ _ us hl => match us, hl with | [_, _], _ => rfl) (fun _ _ _ _ _ _ us hl => match us, hl with | [_, _], _ => ⟨rfl, rfl, rfl⟩),
        DW.dfn_mk KX G ?a_code_size ?l_code_size ?c_code_size ?k_code_size (fun _ _ _ _ _ _ us hl => match us, hl with | [_, _], _ => rfl) (fun _ _ _ _ _ _ us hl => match us, hl with | [_, _], _ => ⟨rfl, rfl, rfl⟩),
        DW.dfn_mk KX G ?a_smallest_code ?l_smallest_code ?c_smallest_code ?k_smallest_code (fun _ _ _ _ _ _ us hl => match us, hl with | [_, _, _], _ => rfl) (fun _ _ _ _ _ _ us hl => match us, hl with | [_, _, _], _ => ⟨rfl, rfl, rfl⟩),
        DW.dfn_mk KX G ?a_l_codes_right ?l_l_codes_right ?c_l_codes_right ?k_l_codes_right (fun _ _ _ _ _ _ us hl => match us, hl with | [], _ => rfl) (fun _ _ _ _ _ _ us hl => match us, hl with | [], _ => ⟨rfl, rfl, rfl⟩),
        DW.dfn_mk KX G ?a_l_draw ?l_l_draw ?c_l_draw ?k_l_draw (fun _ _ _ _ _ _ us hl => match us, hl with | [_, _], _ => rfl) (fun _ _ _ _ _ _ us hl => match us, hl with | [_, _], _ => ⟨rfl, rfl, rfl⟩),
        DW.dfn_mk KX G ?a_meet_once ?l_meet_once ?c_meet_once ?k_meet_once (fun _ _ _ _ _ _ us hl => match us, hl with | [_, _], _ => rfl) (fun _ _ _ _ _ _ us hl => match us, hl with | [_, _], _ => ⟨rfl, rfl, rfl⟩),
        DW.dfn_mk KX G ?a_turned_slots ?l_turned_slots ?c_turned_slots ?k_turned_slots (fun _ _ _ _ _ _ us hl => match us, hl with | [_, _], _ => rfl) (fun _ _ _ _ _ _ us hl => match us, hl with | [_, _], _ => ⟨rfl, rfl, rfl⟩),
        DW.dfn_mk KX G ?a_turned ?l_turned ?c_turned ?k_turned (fun _ _ _ _ _ _ us hl => match us, hl with | [_, _], _ => rfl) (fun _ _ _ _ _ _ us hl => match us, hl with | [_, _], _ => ⟨rfl, rfl, rfl⟩),
        DW.dfn_mk KX G ?a_l_pairs_right ?l_l_pairs_right ?c_l_pairs_right ?k_l_pairs_right (fun _ _ _ _ _ _ us hl => match us, hl with | [_], _ => rfl) (fun _ _ _ _ _ _ us hl => match us, hl with | [_], _ => ⟨rfl, rfl, rfl⟩),
        DW.dfn_mk KX G ?a_l_pen ?l_l_pen ?c_l_pen ?k_l_pen (fun _ _ _ _ _ _ us hl => match us, hl with | [_], _ => rfl) (fun _ _ _ _ _ _ us hl => match us, hl with | [_], _ => ⟨rfl, rfl, rfl⟩),
        DW.dfn_mk KX G ?a_law ?l_law ?c_law ?k_law (fun _ _ _ _ _ _ us hl => match us, hl with | [_], _ => rfl) (fun _ _ _ _ _ _ us hl => match us, hl with | [_], _ => ⟨rfl, rfl, rfl⟩),
        PySem.W.mg_none_of KX G ?n_all,
        PySem.W.mg_none_of KX G ?n_any,
        PySem.W.mg_none_of KX G ?n_bool,
        PySem.W.mg_none_of KX G ?n_enumerate,
        PySem.W.mg_none_of KX G ?n_int,
        PySem.W.mg_none_of KX G ?n_isinstance,
        PySem.W.mg_none_of KX G ?n_len,
        PySem.W.mg_none_of KX G ?n_max,
        PySem.W.mg_none_of KX G ?n_min,
        PySem.W.mg_none_of KX G ?n_range,
        PySem.W.mg_none_of KX G ?n_repr,
        PySem.W.mg_none_of KX G ?n_sorted,
        PySem.W.mg_none_of KX G ?n_tuple,
        PySem.W.mg_none_of KX G ?n_zip,
        DW.gv_mk KX G ?d_GREATEST_CODE_PERIOD,
        DW.gv_mk KX G ?d_GREATEST_PERIOD,
        DW.gv_mk KX G ?d_LEAST_PERIOD,
        DW.gv_mk KX G ?d_LEAST_SLOTS,
        DW.gv_mk KX G ?d_MOST_PATTERNS,
        DW.gv_mk KX G ?d_MOST_SLOTS⟩
      (case a_l_cell => k_is)
      (case l_l_cell => k_is)
      (case c_l_cell => k_is)
      (case k_l_cell => k_is)
      (case a_l_same => k_is)
      (case l_l_same => k_is)
      (case c_l_same => k_is)
      (case k_l_same => k_is)
      (case a_is_integer => k_is)
      (case l_is_integer => k_is)
      (case c_is_integer => k_is)
      (case k_is_integer => k_is)
      (case a_is_integer_from => k_is)
      (case l_is_integer_from => k_is)
      (case c_is_integer_from => k_is)
      (case k_is_integer_from => k_is)
      (case a_check_code => k_is)
      (case l_check_code => k_is)
      (case c_check_code => k_is)
      (case k_check_code => k_is)
      (case a_is_set => k_is)
      (case l_is_set => k_is)
      (case c_is_set => k_is)
      (case k_is_set => k_is)
      (case a_is_pattern => k_is)
      (case l_is_pattern => k_is)
      (case c_is_pattern => k_is)
      (case k_is_pattern => k_is)
      (case a_check_pattern => k_is)
      (case l_check_pattern => k_is)
      (case c_check_pattern => k_is)
      (case k_check_pattern => k_is)
      (case a_distances => k_is)
      (case l_distances => k_is)
      (case c_distances => k_is)
      (case k_distances => k_is)
      (case a_code_rows => k_is)
      (case l_code_rows => k_is)
      (case c_code_rows => k_is)
      (case k_code_rows => k_is)
      (case a_nothing_common => k_is)
      (case l_nothing_common => k_is)
      (case c_nothing_common => k_is)
      (case k_nothing_common => k_is)
      (case a_first_code => k_is)
      (case l_first_code => k_is)
      (case c_first_code => k_is)
      (case k_first_code => k_is)
      (case a_code_size => k_is)
      (case l_code_size => k_is)
      (case c_code_size => k_is)
      (case k_code_size => k_is)
      (case a_smallest_code => k_is)
      (case l_smallest_code => k_is)
      (case c_smallest_code => k_is)
      (case k_smallest_code => k_is)
      (case a_l_codes_right => k_is)
      (case l_l_codes_right => k_is)
      (case c_l_codes_right => k_is)
      (case k_l_codes_right => k_is)
      (case a_l_draw => k_is)
      (case l_l_draw => k_is)
      (case c_l_draw => k_is)
      (case k_l_draw => k_is)
      (case a_meet_once => k_is)
      (case l_meet_once => k_is)
      (case c_meet_once => k_is)
      (case k_meet_once => k_is)
      (case a_turned_slots => k_is)
      (case l_turned_slots => k_is)
      (case c_turned_slots => k_is)
      (case k_turned_slots => k_is)
      (case a_turned => k_is)
      (case l_turned => k_is)
      (case c_turned => k_is)
      (case k_turned => k_is)
      (case a_l_pairs_right => k_is)
      (case l_l_pairs_right => k_is)
      (case c_l_pairs_right => k_is)
      (case k_l_pairs_right => k_is)
      (case a_l_pen => k_is)
      (case l_l_pen => k_is)
      (case c_l_pen => k_is)
      (case k_l_pen => k_is)
      (case a_law => k_is)
      (case l_law => k_is)
      (case c_law => k_is)
      (case k_law => k_is)
      (case n_all => k_is)
      (case n_any => k_is)
      (case n_bool => k_is)
      (case n_enumerate => k_is)
      (case n_int => k_is)
      (case n_isinstance => k_is)
      (case n_len => k_is)
      (case n_max => k_is)
      (case n_min => k_is)
      (case n_range => k_is)
      (case n_repr => k_is)
      (case n_sorted => k_is)
      (case n_tuple => k_is)
      (case n_zip => k_is)
      (case d_GREATEST_CODE_PERIOD => k_is)
      (case d_GREATEST_PERIOD => k_is)
      (case d_LEAST_PERIOD => k_is)
      (case d_LEAST_SLOTS => k_is)
      (case d_MOST_PATTERNS => k_is)
      (case d_MOST_SLOTS => k_is)
    exact DW.law_fdT hmg T.f_law fun base TB => K58.all_defs T base
