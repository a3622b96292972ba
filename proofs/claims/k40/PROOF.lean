import PyProof.Rows.All
import Wide.All
import OpenK.AllK
import Wide.FinOn
import HandS.ForMost
import HandS.ForExc
import HandS.Wide
import HandS.WideBits
import HandS.Gcd
import HandS.IsInst
import HandS.ExcIs
import PyProof.ReprRoads
import HandS.More
import PyProof.ReprBulk
import PyProof.FitsInt
import HandS.TryOnly
import HandS.Flt
import HandS.RaiseMore
import HandS.Style
import HandS.SuiteRaise
import HandS.RaiseFrom
import HandS.Iter
import KE.KMathGC
import HandS.TryMany
import PyProof.Rows.Digits
import HandS.FStr
import PyProof.FString3
import PyProof.Rows.StrIntSpec
import HandS.DictComp
import PySem.Challenge.RW_lastcoffer_k40_values_and_means
set_option Elab.async false
set_option linter.all false
set_option maxRecDepth 100000
set_option maxHeartbeats 4000000
/-! Data upon the heap: what a body does, said of plain data. G is the published part (never written again), H all that is tracked. A slot may own a tree of hidden things. -/
namespace DL
open PySem L2
abbrev D := PyData
def keyD : Key → D
  | .inl i => .int i
  | .inr x => .str x
/-- a dict that is published -/
def dictD (kvs : List (Key × D)) : D := .dict ((.bool true, .none) :: kvs.map fun p => (keyD p.1, p.2))
/-- a dict with tuples as keys -/
def dictT (kvs : List (List Key × D)) : D := .dict ((.none, .none) :: kvs.map fun p => (.tuple (p.1.map keyD), p.2))
/-- an instance of the class at C -/
def objD (C : Addr) (fs : List (Str × D)) : D := .dict ((.int (C : Nat), .none) :: fs.map fun p => (.str p.1, p.2))
theorem keyD_inj : ∀ {a b : Key}, keyD a = keyD b → a = b
  | .inl _, .inl _, h => by simp only [keyD] at h; rw [PyData.int.inj h]
  | .inr _, .inr _, h => by simp only [keyD] at h; rw [PyData.str.inj h]
  | .inl _, .inr _, h => nomatch h
  | .inr _, .inl _, h => nomatch h
theorem map_inj2 {α β : Type} {f : α → β} (hf : ∀ {a b : α}, f a = f b → a = b) : ∀ {x y : List α}, x.map f = y.map f → x = y
  | [], [], _ => rfl
  | a :: x, b :: y, h => by
    rw [List.map_cons, List.map_cons] at h
    injection h with h1 h2
    rw [hf h1, map_inj2 hf h2]
  | [], _ :: _, h => nomatch h
  | _ :: _, [], h => nomatch h
theorem dictD_inj {a b : List (Key × D)} (h : dictD a = dictD b) : a = b := by
  unfold dictD at h
  injection h with h
  injection h with _ h
  exact map_inj2 (fun {p q} e => Prod.ext (keyD_inj (congrArg Prod.fst e)) (congrArg (fun z : D × D => z.2) e)) h
theorem objD_inj {C E : Addr} {a b : List (Str × D)} (h : objD C a = objD E b) : C = E ∧ a = b := by
  unfold objD at h
  injection h with h
  injection h with h1 h
  injection h1 with h1 _
  injection h1 with h1
  refine ⟨Int.ofNat.inj h1, map_inj2 (fun {p q} e => Prod.ext (PyData.str.inj (congrArg Prod.fst e)) (congrArg (fun z : D × D => z.2) e)) h⟩
theorem dictT_inj {a b : List (List Key × D)} (h : dictT a = dictT b) : a = b := by
  unfold dictT at h
  injection h with h
  injection h with _ h
  exact map_inj2 (fun {p q} e => Prod.ext (map_inj2 keyD_inj (PyData.tuple.inj (congrArg Prod.fst e))) (congrArg (fun z : D × D => z.2) e)) h
theorem dictD_ne_objD {a : List (Key × D)} {C : Addr} {b : List (Str × D)} (h : dictD a = objD C b) : False := by
  unfold dictD objD at h; injection h with h; injection h with h1 _; injection h1 with h1 _; cases h1
theorem dictD_ne_dictT {a : List (Key × D)} {b : List (List Key × D)} (h : dictD a = dictT b) : False := by
  unfold dictD dictT at h; injection h with h; injection h with h1 _; injection h1 with h1 _; cases h1
theorem dictT_ne_objD {a : List (List Key × D)} {C : Addr} {b : List (Str × D)} (h : dictT a = objD C b) : False := by
  unfold dictT objD at h; injection h with h; injection h with h1 _; injection h1 with h1 _; cases h1

/-! ### data at a value -/
/-- what is locked at a, for good -/
def Rk (G : Hp) (a : Addr) (o : HO) : Prop := ∃ ob, G a = some (.frz ob o)
theorem Rk.mono {G G' : Hp} {a : Addr} {o : HO} (e : Same G G') (h : Rk G a o) : Rk G' a o := by
  obtain ⟨ob, h⟩ := h
  exact ⟨ob, e _ _ h⟩
mutual
inductive Dd (K : PySem.W.Frag) (G : Hp) : V → D → Prop
  | non : Dd K G .non .none
  | bl (b : Bool) : Dd K G (.bl b) (.bool b)
  | int (i : Int) : Dd K G (.int i) (.int i)
  | str (x : Str) : Dd K G (.str x) (.str x)
  | lst {a : Addr} {xs : List V} {ds : List D} : G a = some (.lst xs) → Dds K G xs ds → Dd K G (.ref a) (.list ds)
  | tup {a : Addr} {xs : List V} {ds : List D} : SqT K G a xs → Dds K G xs ds → Dd K G (.ref a) (.tuple ds)
  | dct {a : Addr} {kv : List (Key × V)} {kvs : List (Key × D)} : Rk G a (.dK kv) → kv.map (·.1) = kvs.map (·.1) → Dds K G (kv.map (·.2)) (kvs.map (·.2)) → Dd K G (.ref a) (dictD kvs)
  | dtt {a : Addr} {kv : List (List Key × V)} {kvs : List (List Key × D)} : Rk G a (.dT kv) → kv.map (·.1) = kvs.map (·.1) → Dds K G (kv.map (·.2)) (kvs.map (·.2)) → Dd K G (.ref a) (dictT kvs)
  | obj {a C dx : Addr} {fs : List (Str × V)} {ds : List (Str × D)} : G a = some (.ins C dx fs) → fs.map (·.1) = ds.map (·.1) → Dds K G (fs.map (·.2)) (ds.map (·.2)) → Dd K G (.ref a) (objD C ds)
inductive Dds (K : PySem.W.Frag) (G : Hp) : List V → List D → Prop
  | nil : Dds K G [] []
  | cons {v : V} {vs : List V} {d : D} {ds : List D} : Dd K G v d → Dds K G vs ds → Dds K G (v :: vs) (d :: ds)
end
variable {K : PySem.W.Frag} {G G' G1 G2 H H' H1 H2 : Hp}

theorem sqT_mono {a : Addr} {xs : List V} (e : Same G G') (h : SqT K G a xs) : SqT K G' a xs := by
  rcases h with (h | ⟨o, h⟩) | h
  · exact .inl (.inl (e _ _ h))
  · exact .inl (.inr ⟨o, e _ _ h⟩)
  · exact .inr h
mutual
theorem Dd.mono (e : Same G G') : ∀ {v : V} {d : D}, Dd K G v d → Dd K G' v d
  | _, _, .non => .non
  | _, _, .bl b => .bl b
  | _, _, .int i => .int i
  | _, _, .str x => .str x
  | _, _, .lst h hs => .lst (e _ _ h) (hs.mono e)
  | _, _, .tup h hs => .tup (sqT_mono e h) (hs.mono e)
  | _, _, .dct h k hs => .dct (h.mono e) k (hs.mono e)
  | _, _, .dtt h k hs => .dtt (h.mono e) k (hs.mono e)
  | _, _, .obj h k hs => .obj (e _ _ h) k (hs.mono e)
theorem Dds.mono (e : Same G G') : ∀ {vs : List V} {ds : List D}, Dds K G vs ds → Dds K G' vs ds
  | _, _, .nil => .nil
  | _, _, .cons h hs => .cons (h.mono e) (hs.mono e)
end
mutual
theorem Dd.dp : ∀ {v : V} {d : D}, Dd K G v d → d.hasDict = false → Dp K G v d
  | _, _, .non, _ => .non
  | _, _, .bl b, _ => .bl b
  | _, _, .int i, _ => .int i
  | _, _, .str x, _ => .str x
  | _, _, .lst h hs, n => .lst (SqL.of h) (hs.dp (by simpa only [PyData.hasDict] using n))
  | _, _, .tup h hs, n => .tup h (hs.dp (by simpa only [PyData.hasDict] using n))
  | _, _, .dct h k hs, n => by simp [dictD, PyData.hasDict] at n
  | _, _, .dtt h k hs, n => by simp [dictT, PyData.hasDict] at n
  | _, _, .obj h k hs, n => by simp [objD, PyData.hasDict] at n
theorem Dds.dp : ∀ {vs : List V} {ds : List D}, Dds K G vs ds → PyData.hasDictAll ds = false → DpAll K G vs ds
  | _, _, .nil, _ => .nil
  | _, _, .cons h hs, n => by
    simp only [PyData.hasDictAll, Bool.or_eq_false_iff] at n
    exact .cons (h.dp n.1) (hs.dp n.2)
end
mutual
theorem noDict_lay : ∀ {d : D}, d.canLay0 = true → d.hasDict = false
  | .none, _ => rfl
  | .bool _, _ => rfl
  | .int _, _ => rfl
  | .str _, _ => rfl
  | .list xs, h => by simp only [PyData.canLay0] at h; simp only [PyData.hasDict]; exact noDict_layAll h
  | .tuple xs, h => by simp only [PyData.canLay0] at h; simp only [PyData.hasDict]; exact noDict_layAll h
  | .dict _, h => by simp [PyData.canLay0] at h
theorem noDict_layAll : ∀ {ds : List D}, PyData.canLayAll0 ds = true → PyData.hasDictAll ds = false
  | [], _ => rfl
  | d :: ds, h => by
    simp only [PyData.canLayAll0, Bool.and_eq_true] at h
    simp only [PyData.hasDictAll, Bool.or_eq_false_iff]
    exact ⟨noDict_lay h.1, noDict_layAll h.2⟩
end
theorem noDict_shaped {d : D} (h : SeqAt.shaped d = true) : d.hasDict = false := noDict_lay (SeqAt.canLay_of_shaped h)
theorem Dds.len : ∀ {vs : List V} {ds : List D}, Dds K G vs ds → vs.length = ds.length
  | _, _, .nil => rfl
  | _, _, .cons _ hs => congrArg (· + 1) hs.len
theorem Dds.get : ∀ {vs : List V} {ds : List D} {i : Nat} {d : D}, Dds K G vs ds → ds[i]? = some d → ∃ v, vs[i]? = some v ∧ Dd K G v d
  | _, _, _, _, .nil, e => by simp at e
  | _, _, 0, _, .cons h _, e => ⟨_, rfl, by simp at e; subst e; exact h⟩
  | _, _, i + 1, d, .cons _ hs, e => by
    obtain ⟨v, h1, h2⟩ := hs.get (i := i) (d := d) (by simpa using e)
    exact ⟨v, by simpa using h1, h2⟩
theorem Dds.getV : ∀ {vs : List V} {ds : List D} {i : Nat} {v : V}, Dds K G vs ds → vs[i]? = some v → ∃ d, ds[i]? = some d ∧ Dd K G v d
  | _, _, _, _, .nil, e => by simp at e
  | _, _, 0, _, .cons h _, e => ⟨_, rfl, by simp at e; subst e; exact h⟩
  | _, _, i + 1, d, .cons _ hs, e => by
    obtain ⟨v, h1, h2⟩ := hs.getV (i := i) (v := d) (by simpa using e)
    exact ⟨v, by simpa using h1, h2⟩
theorem Dds.append : ∀ {vs ws : List V} {ds es : List D}, Dds K G vs ds → Dds K G ws es → Dds K G (vs ++ ws) (ds ++ es)
  | _, _, _, _, .nil, h => h
  | _, _, _, _, .cons a b, h => .cons a (b.append h)
theorem Dds.take (n : Nat) : ∀ {vs : List V} {ds : List D}, Dds K G vs ds → Dds K G (vs.take n) (ds.take n) := by
  induction n with
  | zero => intro vs ds _; simp; exact .nil
  | succ n ih =>
    intro vs ds h
    cases h with
    | nil => simp; exact .nil
    | cons a b => simp; exact .cons a (ih b)
theorem Dds.drop (n : Nat) : ∀ {vs : List V} {ds : List D}, Dds K G vs ds → Dds K G (vs.drop n) (ds.drop n) := by
  induction n with
  | zero => intro vs ds h; simpa using h
  | succ n ih =>
    intro vs ds h
    cases h with
    | nil => simp; exact .nil
    | cons a b => simpa using ih b
theorem Dds.set {v : V} {d : D} (hv : Dd K G v d) : ∀ {vs : List V} {ds : List D} (i : Nat), Dds K G vs ds → Dds K G (vs.set i v) (ds.set i d)
  | _, _, _, .nil => .nil
  | _, _, 0, .cons _ b => .cons hv b
  | _, _, i + 1, .cons a b => .cons a (Dds.set hv i b)
theorem Dd.int_inv {v : V} {i : Int} (h : Dd K G v (.int i)) : v = .int i := by cases h; rfl
theorem Dd.bl_inv {v : V} {b : Bool} (h : Dd K G v (.bool b)) : v = .bl b := by cases h; rfl
theorem Dd.str_inv {v : V} {x : Str} (h : Dd K G v (.str x)) : v = .str x := by cases h; rfl
theorem Dd.non_inv {v : V} (h : Dd K G v .none) : v = .non := by cases h; rfl
theorem Dd.tup_inv {v : V} {ds : List D} (h : Dd K G v (.tuple ds)) : ∃ a xs, v = .ref a ∧ SqT K G a xs ∧ Dds K G xs ds := by cases h with | tup a b => exact ⟨_, _, rfl, a, b⟩
theorem Dd.lst_inv {v : V} {ds : List D} (h : Dd K G v (.list ds)) : ∃ a xs, v = .ref a ∧ G a = some (.lst xs) ∧ Dds K G xs ds := by cases h with | lst a b => exact ⟨_, _, rfl, a, b⟩
theorem Dd.dct_inv {v : V} {ds : List (Key × D)} (h : Dd K G v (dictD ds)) : ∃ a kv, v = .ref a ∧ Rk G a (.dK kv) ∧ kv.map (·.1) = ds.map (·.1) ∧ Dds K G (kv.map (·.2)) (ds.map (·.2)) := by
  generalize e : dictD ds = z at h
  cases h with
  | dct a b c => obtain rfl := dictD_inj e; exact ⟨_, _, rfl, a, b, c⟩
  | dtt a b c => exact (dictD_ne_dictT e).elim
  | obj a b c => exact (dictD_ne_objD e).elim
  | _ => cases e
theorem Dd.dtt_inv {v : V} {ds : List (List Key × D)} (h : Dd K G v (dictT ds)) : ∃ a kv, v = .ref a ∧ Rk G a (.dT kv) ∧ kv.map (·.1) = ds.map (·.1) ∧ Dds K G (kv.map (·.2)) (ds.map (·.2)) := by
  generalize e : dictT ds = z at h
  cases h with
  | dtt a b c => obtain rfl := dictT_inj e; exact ⟨_, _, rfl, a, b, c⟩
  | dct a b c => exact (dictD_ne_dictT e.symm).elim
  | obj a b c => exact (dictT_ne_objD e).elim
  | _ => cases e
theorem Dd.obj_inv {v : V} {C : Addr} {ds : List (Str × D)} (h : Dd K G v (objD C ds)) : ∃ a dx fs, v = .ref a ∧ G a = some (.ins C dx fs) ∧ fs.map (·.1) = ds.map (·.1) ∧ Dds K G (fs.map (·.2)) (ds.map (·.2)) := by
  generalize e : objD C ds = z at h
  cases h with
  | obj a b c => obtain ⟨rfl, rfl⟩ := objD_inj e; exact ⟨_, _, _, rfl, a, b, c⟩
  | dtt a b c => exact (dictT_ne_objD e.symm).elim
  | dct a b c => exact (dictD_ne_objD e.symm).elim
  | _ => cases e
theorem Dds.ints_inv : ∀ {vs : List V} {ns : List Int}, Dds K G vs (ns.map PyData.int) → vs = ns.map V.int
  | _, [], .nil => rfl
  | _, n :: ns, .cons h hs => by rw [h.int_inv, hs.ints_inv]; rfl
theorem Dds.ints : ∀ (ns : List Int), Dds K G (ns.map V.int) (ns.map PyData.int)
  | [] => .nil
  | n :: ns => .cons (.int n) (Dds.ints ns)
theorem Dds.bls_inv : ∀ {vs : List V} {ns : List Bool}, Dds K G vs (ns.map PyData.bool) → vs = ns.map V.bl
  | _, [], .nil => rfl
  | _, n :: ns, .cons h hs => by rw [h.bl_inv, hs.bls_inv]; rfl

/-! ### going on: G' publishes more, H' keeps all -/
structure Fw (G H G' H' : Hp) : Prop where
  gg : Same G G'
  gh : Same G' H'
  hh : Same H H'
  fr : ∀ l, H l ≠ none → G l = none → G' l = none
theorem Fw.refl (gh : Same G H) : Fw G H G H := ⟨Same.refl _, gh, Same.refl _, fun _ _ h => h⟩
theorem Fw.trans (a : Fw G H G1 H1) (b : Fw G1 H1 G2 H2) : Fw G H G2 H2 :=
  ⟨a.gg.trans b.gg, b.gh, a.hh.trans b.hh, fun l hl gl => b.fr l (fun z => hl (by
    cases q : H l with
    | none => rfl
    | some o => rw [a.hh l o q] at z; cases z)) (a.fr l hl gl)⟩
theorem same_upd {p : Addr} {o : HO} (h : H p = none) : Same H (upd H p o) := fun b x e => by
  rw [upd_ne (ne_of_none e h)]; exact e
theorem same_upd2 {p : Addr} {o : HO} (gh : Same G H) (h : G p = none) : Same G (upd H p o) := fun b x e => by
  rw [upd_ne (ne_of_none e h)]; exact gh _ _ e
/-- a new object, published at once -/
theorem Fw.new {p : Addr} {o : HO} (gh : Same G H) (h : H p = none) : Fw G H (upd G p o) (upd H p o) := by
  have hg : G p = none := gh.free h
  refine ⟨same_upd hg, fun b x e => ?_, same_upd h, fun l hl gl => ?_⟩
  · by_cases hb : b = p
    · subst hb; rw [upd_same] at e ⊢; exact e
    · rw [upd_ne hb] at e ⊢; exact gh _ _ e
  · rw [upd_ne (fun z => hl (by rw [z]; exact h))]; exact gl
/-- a new object, not published -/
theorem Fw.hid {p : Addr} {o : HO} (gh : Same G H) (h : H p = none) : Fw G H G (upd H p o) :=
  ⟨Same.refl _, same_upd2 gh (gh.free h), same_upd h, fun _ _ g => g⟩
/-- what stands hidden is published -/
theorem Fw.pub {p : Addr} {o : HO} (a : Fw G H G' H') (h : H p = none) (h' : H' p = some o) (g' : G' p = none) : Fw G H (upd G' p o) H' := by
  refine ⟨a.gg.trans (same_upd g'), fun b x e => ?_, a.hh, fun l hl gl => ?_⟩
  · by_cases hb : b = p
    · subst hb; rw [upd_same] at e; rw [h', e]
    · rw [upd_ne hb] at e; exact a.gh _ _ e
  · rw [upd_ne (fun z => hl (by rw [z]; exact h))]; exact a.fr l hl gl
open Classical in
/-- all that stands at S is published -/
noncomputable def pubG (G H : Hp) (S : List Addr) : Hp := fun a => if a ∈ S then H a else G a
theorem pubG_in {S : List Addr} {a : Addr} (h : a ∈ S) : pubG G H S a = H a := by unfold pubG; rw [if_pos h]
theorem pubG_out {S : List Addr} {a : Addr} (h : a ∉ S) : pubG G H S a = G a := by unfold pubG; rw [if_neg h]
theorem pubG_same {S : List Addr} (gh : Same G H) : Same G (pubG G H S) := fun a o e => by
  by_cases h : a ∈ S
  · rw [pubG_in h]; exact gh _ _ e
  · rw [pubG_out h]; exact e
theorem pubG_gh {S : List Addr} (gh : Same G H) : Same (pubG G H S) H := fun a o e => by
  by_cases h : a ∈ S
  · rw [pubG_in h] at e; exact e
  · rw [pubG_out h] at e; exact gh _ _ e
theorem Fw.pubs {S : List Addr} (a : Fw G H G' H') (h : ∀ x ∈ S, H x = none) : Fw G H (pubG G' H' S) H' :=
  ⟨a.gg.trans (pubG_same a.gh), pubG_gh a.gh, a.hh, fun l hl gl => by rw [pubG_out fun z => hl (h l z)]; exact a.fr l hl gl⟩

/-! ### trees of hidden things -/
inductive T where
  | d (x : D)
  | l (ts : List T)
  | m (kvs : List (Key × T))
  | mt (kvs : List (List Key × T))
  | o (C : Addr) (fs : List (Str × T))
  | x (v : V)
mutual
/-- at v stands the tree t; fp: where its hidden things stand -/
inductive Tr (K : PySem.W.Frag) (G H : Hp) : V → T → List Addr → Prop
  | d {v : V} {x : D} : Dd K G v x → Tr K G H v (.d x) []
  | x {v : V} : Tr K G H v (.x v) []
  | l {a : Addr} {xs : List V} {ts : List T} {fp : List Addr} : G a = none → H a = some (.lst xs) → Trs K G H xs ts fp → a ∉ fp → Tr K G H (.ref a) (.l ts) (a :: fp)
  | m {a : Addr} {kv : List (Key × V)} {kvs : List (Key × T)} {fp : List Addr} : G a = none → H a = some (.dK kv) → kv.map (·.1) = kvs.map (·.1) → Trs K G H (kv.map (·.2)) (kvs.map (·.2)) fp → a ∉ fp → Tr K G H (.ref a) (.m kvs) (a :: fp)
  | mt {a : Addr} {kv : List (List Key × V)} {kvs : List (List Key × T)} {fp : List Addr} : G a = none → H a = some (.dT kv) → kv.map (·.1) = kvs.map (·.1) → Trs K G H (kv.map (·.2)) (kvs.map (·.2)) fp → a ∉ fp → Tr K G H (.ref a) (.mt kvs) (a :: fp)
  | o {a dx C : Addr} {fs : List (Str × V)} {ts : List (Str × T)} {fp : List Addr} : G a = none → H a = some (.ins C dx fs) → fs.map (·.1) = ts.map (·.1) → Trs K G H (fs.map (·.2)) (ts.map (·.2)) fp → a ∉ fp → Tr K G H (.ref a) (.o C ts) (a :: fp)
inductive Trs (K : PySem.W.Frag) (G H : Hp) : List V → List T → List Addr → Prop
  | nil : Trs K G H [] [] []
  | cons {v : V} {vs : List V} {t : T} {ts : List T} {f g : List Addr} : Tr K G H v t f → Trs K G H vs ts g → (∀ a ∈ f, a ∉ g) → Trs K G H (v :: vs) (t :: ts) (f ++ g)
end
mutual
theorem Tr.fw (a : Fw G H G' H') : ∀ {v : V} {t : T} {fp : List Addr}, Tr K G H v t fp → Tr K G' H' v t fp
  | _, _, _, .d h => .d (h.mono a.gg)
  | _, _, _, .x => .x
  | _, _, _, .l g h s n => .l (a.fr _ (by rw [h]; simp) g) (a.hh _ _ h) (s.fw a) n
  | _, _, _, .m g h k s n => .m (a.fr _ (by rw [h]; simp) g) (a.hh _ _ h) k (s.fw a) n
  | _, _, _, .mt g h k s n => .mt (a.fr _ (by rw [h]; simp) g) (a.hh _ _ h) k (s.fw a) n
  | _, _, _, .o g h k s n => .o (a.fr _ (by rw [h]; simp) g) (a.hh _ _ h) k (s.fw a) n
theorem Trs.fw (a : Fw G H G' H') : ∀ {vs : List V} {ts : List T} {fp : List Addr}, Trs K G H vs ts fp → Trs K G' H' vs ts fp
  | _, _, _, .nil => .nil
  | _, _, _, .cons h s n => .cons (h.fw a) (s.fw a) n
end
mutual
theorem Tr.own : ∀ {v : V} {t : T} {fp : List Addr}, Tr K G H v t fp → ∀ x ∈ fp, G x = none ∧ H x ≠ none
  | _, _, _, .d _, x, h => by cases h
  | _, _, _, .x, x, h => by cases h
  | _, _, _, .l g h s n, x, hx => by
    rcases List.mem_cons.mp hx with e | e
    · subst e; exact ⟨g, by rw [h]; simp⟩
    · exact s.own x e
  | _, _, _, .m g h k s n, x, hx => by
    rcases List.mem_cons.mp hx with e | e
    · subst e; exact ⟨g, by rw [h]; simp⟩
    · exact s.own x e
  | _, _, _, .mt g h k s n, x, hx => by
    rcases List.mem_cons.mp hx with e | e
    · subst e; exact ⟨g, by rw [h]; simp⟩
    · exact s.own x e
  | _, _, _, .o g h k s n, x, hx => by
    rcases List.mem_cons.mp hx with e | e
    · subst e; exact ⟨g, by rw [h]; simp⟩
    · exact s.own x e
theorem Trs.own : ∀ {vs : List V} {ts : List T} {fp : List Addr}, Trs K G H vs ts fp → ∀ x ∈ fp, G x = none ∧ H x ≠ none
  | _, _, _, .nil, x, h => by cases h
  | _, _, _, .cons h s n, x, hx => by
    rcases List.mem_append.mp hx with e | e
    · exact h.own x e
    · exact s.own x e
end
mutual
/-- what changes elsewhere -/
theorem Tr.keep (gg : Same G G') : ∀ {v : V} {t : T} {fp : List Addr}, Tr K G H v t fp → (∀ x ∈ fp, G' x = none) → (∀ x ∈ fp, H' x = H x) → Tr K G' H' v t fp
  | _, _, _, .d h, _, _ => .d (h.mono gg)
  | _, _, _, .x, _, _ => .x
  | _, _, _, .l g h s n, a, b => .l (a _ List.mem_cons_self) ((b _ List.mem_cons_self).trans h) (s.keep gg (fun x hx => a x (List.mem_cons_of_mem _ hx)) (fun x hx => b x (List.mem_cons_of_mem _ hx))) n
  | _, _, _, .m g h k s n, a, b => .m (a _ List.mem_cons_self) ((b _ List.mem_cons_self).trans h) k (s.keep gg (fun x hx => a x (List.mem_cons_of_mem _ hx)) (fun x hx => b x (List.mem_cons_of_mem _ hx))) n
  | _, _, _, .mt g h k s n, a, b => .mt (a _ List.mem_cons_self) ((b _ List.mem_cons_self).trans h) k (s.keep gg (fun x hx => a x (List.mem_cons_of_mem _ hx)) (fun x hx => b x (List.mem_cons_of_mem _ hx))) n
  | _, _, _, .o g h k s n, a, b => .o (a _ List.mem_cons_self) ((b _ List.mem_cons_self).trans h) k (s.keep gg (fun x hx => a x (List.mem_cons_of_mem _ hx)) (fun x hx => b x (List.mem_cons_of_mem _ hx))) n
theorem Trs.keep (gg : Same G G') : ∀ {vs : List V} {ts : List T} {fp : List Addr}, Trs K G H vs ts fp → (∀ x ∈ fp, G' x = none) → (∀ x ∈ fp, H' x = H x) → Trs K G' H' vs ts fp
  | _, _, _, .nil, _, _ => .nil
  | _, _, _, .cons h s n, a, b => .cons (h.keep gg (fun x hx => a x (List.mem_append_left _ hx)) (fun x hx => b x (List.mem_append_left _ hx))) (s.keep gg (fun x hx => a x (List.mem_append_right _ hx)) (fun x hx => b x (List.mem_append_right _ hx))) n
end
mutual
/-- a tree without holes and dicts, as data -/
inductive Pb : T → D → Prop
  | d {x : D} : Pb (.d x) x
  | l {ts : List T} {ds : List D} : Pbs ts ds → Pb (.l ts) (.list ds)
  | o {C : Addr} {fs : List (Str × T)} {ds : List (Str × D)} : fs.map (·.1) = ds.map (·.1) → Pbs (fs.map (·.2)) (ds.map (·.2)) → Pb (.o C fs) (objD C ds)
inductive Pbs : List T → List D → Prop
  | nil : Pbs [] []
  | cons {t : T} {ts : List T} {d : D} {ds : List D} : Pb t d → Pbs ts ds → Pbs (t :: ts) (d :: ds)
end
theorem Pbs.ds : ∀ (ds : List D), Pbs (ds.map T.d) ds
  | [] => .nil
  | _ :: ds => .cons .d (Pbs.ds ds)
mutual
theorem Tr.pub {S : List Addr} (gh : Same G H) : ∀ {v : V} {t : T} {fp : List Addr} {d : D}, Tr K G H v t fp → (∀ x ∈ fp, x ∈ S) → Pb t d → Dd K (pubG G H S) v d
  | _, _, _, _, .d h, _, .d => h.mono (pubG_same gh)
  | _, _, _, _, .l g h s n, hS, .l p => .lst ((pubG_in (hS _ List.mem_cons_self)).trans h) (s.pub gh (fun x hx => hS x (List.mem_cons_of_mem _ hx)) p)
  | _, _, _, _, .o g h k s n, hS, .o k2 p => .obj ((pubG_in (hS _ List.mem_cons_self)).trans h) (k.trans k2) (s.pub gh (fun x hx => hS x (List.mem_cons_of_mem _ hx)) p)
theorem Trs.pub {S : List Addr} (gh : Same G H) : ∀ {vs : List V} {ts : List T} {fp : List Addr} {ds : List D}, Trs K G H vs ts fp → (∀ x ∈ fp, x ∈ S) → Pbs ts ds → Dds K (pubG G H S) vs ds
  | _, _, _, _, .nil, _, .nil => .nil
  | _, _, _, _, .cons h s n, hS, .cons p q => .cons (h.pub gh (fun x hx => hS x (List.mem_append_left _ hx)) p) (s.pub gh (fun x hx => hS x (List.mem_append_right _ hx)) q)
end
mutual
/-- a tree without holes, as data (its dicts are locked for good) -/
inductive Pf : T → D → Prop
  | d {x : D} : Pf (.d x) x
  | l {ts : List T} {ds : List D} : Pfs ts ds → Pf (.l ts) (.list ds)
  | m {kvs : List (Key × T)} {ds : List (Key × D)} : kvs.map (·.1) = ds.map (·.1) → Pfs (kvs.map (·.2)) (ds.map (·.2)) → Pf (.m kvs) (dictD ds)
  | mt {kvs : List (List Key × T)} {ds : List (List Key × D)} : kvs.map (·.1) = ds.map (·.1) → Pfs (kvs.map (·.2)) (ds.map (·.2)) → Pf (.mt kvs) (dictT ds)
  | o {C : Addr} {fs : List (Str × T)} {ds : List (Str × D)} : fs.map (·.1) = ds.map (·.1) → Pfs (fs.map (·.2)) (ds.map (·.2)) → Pf (.o C fs) (objD C ds)
inductive Pfs : List T → List D → Prop
  | nil : Pfs [] []
  | cons {t : T} {ts : List T} {d : D} {ds : List D} : Pf t d → Pfs ts ds → Pfs (t :: ts) (d :: ds)
end
theorem Pfs.ds : ∀ (ds : List D), Pfs (ds.map T.d) ds
  | [] => .nil
  | _ :: ds => .cons .d (Pfs.ds ds)
theorem Pf.md (kvs : List (Key × D)) : Pf (.m (kvs.map fun p => (p.1, T.d p.2))) (dictD kvs) := .m (by rw [List.map_map]; rfl) (by rw [List.map_map]; have := Pfs.ds (kvs.map (·.2)); rw [List.map_map] at this; exact this)
theorem Pf.mdt (kvs : List (List Key × D)) : Pf (.mt (kvs.map fun p => (p.1, T.d p.2))) (dictT kvs) := .mt (by rw [List.map_map]; rfl) (by rw [List.map_map]; have := Pfs.ds (kvs.map (·.2)); rw [List.map_map] at this; exact this)
/-- the dicts at S are locked -/
def isDK : Option HO → Bool
  | some (.dK _) => true
  | some (.dT _) => true
  | _ => false
structure Frz (H : Hp) (S : List Addr) (H' : Hp) : Prop where
  out : ∀ a, a ∉ S → H' a = H a
  yes : ∀ a ∈ S, isDK (H a) = true → ∃ ob u, H a = some u ∧ H' a = some (.frz ob u)
  no : ∀ a ∈ S, isDK (H a) = false → H' a = H a
mutual
theorem Tr.pubF {S : List Addr} (gg : Same G (pubG G H' S)) (fz : Frz H S H') : ∀ {v : V} {t : T} {fp : List Addr} {d : D}, Tr K G H v t fp → (∀ x ∈ fp, x ∈ S) → Pf t d → Dd K (pubG G H' S) v d
  | _, _, _, _, .d h, _, .d => h.mono gg
  | _, _, _, _, .l g h s n, hS, .l p => .lst ((pubG_in (hS _ List.mem_cons_self)).trans ((fz.no _ (hS _ List.mem_cons_self) (by rw [h]; rfl)).trans h)) (s.pubF gg fz (fun x hx => hS x (List.mem_cons_of_mem _ hx)) p)
  | _, _, _, _, .m (a := a) g h k s n, hS, .m k2 p => .dct (by
      obtain ⟨ob, u, e1, e2⟩ := fz.yes a (hS _ List.mem_cons_self) (by rw [h]; rfl)
      rw [h] at e1
      cases e1
      exact ⟨ob, (pubG_in (hS _ List.mem_cons_self)).trans e2⟩) (k.trans k2) (s.pubF gg fz (fun x hx => hS x (List.mem_cons_of_mem _ hx)) p)
  | _, _, _, _, .mt (a := a) g h k s n, hS, .mt k2 p => .dtt (by
      obtain ⟨ob, u, e1, e2⟩ := fz.yes a (hS _ List.mem_cons_self) (by rw [h]; rfl)
      rw [h] at e1
      cases e1
      exact ⟨ob, (pubG_in (hS _ List.mem_cons_self)).trans e2⟩) (k.trans k2) (s.pubF gg fz (fun x hx => hS x (List.mem_cons_of_mem _ hx)) p)
  | _, _, _, _, .o g h k s n, hS, .o k2 p => .obj ((pubG_in (hS _ List.mem_cons_self)).trans ((fz.no _ (hS _ List.mem_cons_self) (by rw [h]; rfl)).trans h)) (k.trans k2) (s.pubF gg fz (fun x hx => hS x (List.mem_cons_of_mem _ hx)) p)
theorem Trs.pubF {S : List Addr} (gg : Same G (pubG G H' S)) (fz : Frz H S H') : ∀ {vs : List V} {ts : List T} {fp : List Addr} {ds : List D}, Trs K G H vs ts fp → (∀ x ∈ fp, x ∈ S) → Pfs ts ds → Dds K (pubG G H' S) vs ds
  | _, _, _, _, .nil, _, .nil => .nil
  | _, _, _, _, .cons h s n, hS, .cons p q => .cons (h.pubF gg fz (fun x hx => hS x (List.mem_append_left _ hx)) p) (s.pubF gg fz (fun x hx => hS x (List.mem_append_right _ hx)) q)
end
theorem Trs.of : ∀ {vs : List V} {ds : List D}, Dds K G vs ds → Trs K G H vs (ds.map T.d) []
  | _, _, .nil => .nil
  | _, _, .cons h hs => .cons (f := []) (.d h) (Trs.of hs) fun _ z => nomatch z
theorem Trs.dds : ∀ {vs : List V} {ds : List D} {fp : List Addr}, Trs K G H vs (ds.map T.d) fp → Dds K G vs ds ∧ fp = []
  | _, [], _, .nil => ⟨.nil, rfl⟩
  | _, d :: ds, _, .cons (.d h) hs _ => by
    obtain ⟨h1, h2⟩ := hs.dds
    subst h2
    exact ⟨.cons h h1, rfl⟩
theorem Tr.of_ml {a : Addr} {xs : List V} {ds : List D} (g : G a = none) (h : H a = some (.lst xs)) (hd : Dds K G xs ds) : Tr K G H (.ref a) (.l (ds.map T.d)) [a] := .l g h (Trs.of hd) (by simp)
theorem Tr.ml {v : V} {ds : List D} {fp : List Addr} (h : Tr K G H v (.l (ds.map T.d)) fp) : ∃ l xs, v = .ref l ∧ fp = [l] ∧ G l = none ∧ H l = some (.lst xs) ∧ Dds K G xs ds := by
  cases h with
  | l g h s n =>
    obtain ⟨h1, h2⟩ := s.dds
    subst h2
    exact ⟨_, _, rfl, rfl, g, h, h1⟩
theorem Tr.of_md {a : Addr} {kv : List (Key × V)} {kvs : List (Key × D)} (g : G a = none) (h : H a = some (.dK kv)) (hk : kv.map (·.1) = kvs.map (·.1)) (hd : Dds K G (kv.map (·.2)) (kvs.map (·.2))) : Tr K G H (.ref a) (.m (kvs.map fun p => (p.1, T.d p.2))) [a] :=
  .m g h (by rw [List.map_map]; exact hk) (by rw [List.map_map]; have := Trs.of (H := H) hd; rw [List.map_map] at this; exact this) (by simp)
theorem Tr.md {v : V} {kvs : List (Key × D)} {fp : List Addr} (h : Tr K G H v (.m (kvs.map fun p => (p.1, T.d p.2))) fp) : ∃ l kv, v = .ref l ∧ fp = [l] ∧ G l = none ∧ H l = some (.dK kv) ∧ kv.map (·.1) = kvs.map (·.1) ∧ Dds K G (kv.map (·.2)) (kvs.map (·.2)) := by
  cases h with
  | m g h k s n =>
    rw [List.map_map] at k s
    have e : (kvs.map ((fun x : Key × T => x.2) ∘ fun p : Key × D => (p.1, T.d p.2))) = (kvs.map (·.2)).map T.d := by rw [List.map_map]; rfl
    rw [e] at s
    obtain ⟨h1, h2⟩ := s.dds
    subst h2
    exact ⟨_, _, rfl, rfl, g, h, k, h1⟩

/-! ### slots -/
inductive SD
  | un
  | dat (d : D)
  | tr (u : Option V) (t : T)
  | raw (v : V)
  | scr (ns : List Int)
/-- a hidden list of data -/
def SD.ml (ds : List D) : SD := .tr none (.l (ds.map T.d))
/-- a hidden dict of data -/
def SD.md (kvs : List (Key × D)) : SD := .tr none (.m (kvs.map fun p => (p.1, T.d p.2)))
def SlOk (K : PySem.W.Frag) (G H : Hp) (o : Option V) : SD → Prop
  | .un => True
  | .dat d => ∃ v, o = some v ∧ Dd K G v d
  | .tr _ _ => False
  | .raw v => o = some v
  | .scr ns => ∃ a, o = some (.ref a) ∧ SqL K G a (ns.map V.int)
/-- .. with what it owns -/
def SlF (K : PySem.W.Frag) (G H : Hp) (o : Option V) (s : SD) (fp : List Addr) : Prop :=
  match s with
  | .tr u t => ∃ v, o = some v ∧ (∀ w, u = some w → v = w) ∧ Tr K G H v t fp
  | s => fp = [] ∧ SlOk K G H o s
def SD.isMut : SD → Bool
  | .tr _ _ => true
  | _ => false
theorem SlF.of {o : Option V} {s : SD} (hm : s.isMut = false) (h : SlOk K G H o s) : SlF K G H o s [] := by
  cases s with
  | tr u t => cases hm
  | _ => exact ⟨rfl, h⟩
theorem SlF.imm {o : Option V} {s : SD} {fp : List Addr} (hm : s.isMut = false) (h : SlF K G H o s fp) : fp = [] ∧ SlOk K G H o s := by
  cases s with
  | tr u t => cases hm
  | _ => exact h
abbrev EnvD := List SD
structure Slots (K : PySem.W.Frag) (G H0 H : Hp) (σ : St) (env : EnvD) (F : Nat → List Addr) : Prop where
  sl : ∀ (i : Nat) (s : SD), env[i]? = some s → ∃ o, σ[i]? = some o ∧ SlF K G H o s (F i)
  fresh : ∀ (i : Nat) (a : Addr), a ∈ F i → H0 a = none
  apart : ∀ (i j : Nat) (a : Addr), i ≠ j → a ∈ F i → a ∉ F j
  inn : ∀ (i : Nat) (a : Addr), a ∈ F i → G a = none ∧ H a ≠ none
/-- the body's state: entered at G0, H0; now G, H; the slots are as env says -/
structure Ok (K : PySem.W.Frag) (G0 H0 G H : Hp) (σ : St) (env : EnvD) : Prop where
  gh : Same G H
  fw : Fw G0 H0 G H
  len : σ.length = env.length
  ex : ∃ F : Nat → List Addr, Slots K G H0 H σ env F
variable {G0 H0 : Hp} {σ σ' : St} {env env' : EnvD}

theorem SlOk.fw {o : Option V} {s : SD} (a : Fw G H G' H') (h : SlOk K G H o s) : SlOk K G' H' o s := by
  cases s with
  | un => trivial
  | dat d => obtain ⟨v, e, hd⟩ := h; exact ⟨v, e, hd.mono a.gg⟩
  | tr u t => exact h.elim
  | raw v => exact h
  | scr ns => obtain ⟨l, e, hl⟩ := h; exact ⟨l, e, a.gg.seq hl⟩
theorem SlF.fw {o : Option V} {s : SD} {fp : List Addr} (a : Fw G H G' H') (h : SlF K G H o s fp) : SlF K G' H' o s fp := by
  cases s with
  | tr u t => obtain ⟨v, e, hu, hd⟩ := h; exact ⟨v, e, hu, hd.fw a⟩
  | un => exact ⟨h.1, h.2.fw a⟩
  | dat d => exact ⟨h.1, h.2.fw a⟩
  | raw d => exact ⟨h.1, h.2.fw a⟩
  | scr d => exact ⟨h.1, h.2.fw a⟩
theorem SlF.keep {o : Option V} {s : SD} {fp : List Addr} (gg : Same G G') (h : SlF K G H o s fp) (h1 : ∀ x ∈ fp, G' x = none) (h2 : ∀ x ∈ fp, H' x = H x) : SlF K G' H' o s fp := by
  cases s with
  | tr u t => obtain ⟨v, e, hu, hd⟩ := h; exact ⟨v, e, hu, hd.keep gg h1 h2⟩
  | un => exact ⟨h.1, trivial⟩
  | dat d => obtain ⟨e0, v, e, hd⟩ := h; exact ⟨e0, v, e, hd.mono gg⟩
  | raw d => exact h
  | scr ns => obtain ⟨e0, l, e, hl⟩ := h; exact ⟨e0, l, e, gg.seq hl⟩
theorem Ok.go (ok : Ok K G0 H0 G H σ env) (a : Fw G H G' H') : Ok K G0 H0 G' H' σ env := by
  obtain ⟨F, h⟩ := ok.ex
  refine ⟨a.gh, ok.fw.trans a, ok.len, F, fun i s hi => ?_, h.fresh, h.apart, fun i x hx => ?_⟩
  · obtain ⟨o, h1, h2⟩ := h.sl i s hi
    exact ⟨o, h1, h2.fw a⟩
  · obtain ⟨h1, h2⟩ := h.inn i x hx
    exact ⟨a.fr x h2 h1, fun z => h2 (a.hh.free z)⟩
theorem get_set {α : Type} {l : List α} {i j : Nat} {x y : α} (h : (l.set i x)[j]? = some y) : (i = j ∧ j < l.length ∧ y = x) ∨ (i ≠ j ∧ l[j]? = some y) := by
  by_cases e : i = j
  · subst e
    rw [List.getElem?_set_self'] at h
    cases q : l[i]? with
    | none => rw [q] at h; simp at h
    | some z =>
      rw [q] at h
      simp at h
      exact .inl ⟨rfl, (List.getElem?_eq_some_iff.mp q).1, h.symm⟩
  · rw [List.getElem?_set_ne e] at h
    exact .inr ⟨e, h⟩
/-- the slot of an unowned thing -/
theorem Ok.sl (ok : Ok K G0 H0 G H σ env) (i : Nat) (s : SD) (h : env[i]? = some s) (hm : s.isMut = false := by rfl) : ∃ o, σ[i]? = some o ∧ SlOk K G H o s := by
  obtain ⟨F, hs⟩ := ok.ex
  obtain ⟨o, h1, h2⟩ := hs.sl i s h
  exact ⟨o, h1, (h2.imm hm).2⟩
theorem Ok.slM (ok : Ok K G0 H0 G H σ env) (i : Nat) {ds : List D} (h : env[i]? = some (.ml ds)) : ∃ o, σ[i]? = some o ∧ ∃ l xs, o = some (.ref l) ∧ G l = none ∧ H l = some (.lst xs) ∧ Dds K G xs ds := by
  obtain ⟨F, hs⟩ := ok.ex
  obtain ⟨o, h1, v, e, _, h2⟩ := hs.sl i _ h
  obtain ⟨l, xs, e2, _, g, hl, hd⟩ := h2.ml
  exact ⟨o, h1, l, xs, by rw [e, e2], g, hl, hd⟩
theorem Ok.slD (ok : Ok K G0 H0 G H σ env) (i : Nat) {ds : List (Key × D)} (h : env[i]? = some (.md ds)) : ∃ o, σ[i]? = some o ∧ ∃ l kv, o = some (.ref l) ∧ G l = none ∧ H l = some (.dK kv) ∧ kv.map (·.1) = ds.map (·.1) ∧ Dds K G (kv.map (·.2)) (ds.map (·.2)) := by
  obtain ⟨F, hs⟩ := ok.ex
  obtain ⟨o, h1, v, e, _, h2⟩ := hs.sl i _ h
  obtain ⟨l, xs, e2, _, g, hl, hd⟩ := h2.md
  exact ⟨o, h1, l, xs, by rw [e, e2], g, hl, hd⟩
/-- the slot of a tree, and what may become of it -/
theorem Ok.tree (ok : Ok K G0 H0 G H σ env) (a : Fw G H G1 H1) {i : Nat} {u : Option V} {t : T} (hi : env[i]? = some (.tr u t)) : ∃ v fp, σ[i]? = some (some v) ∧ (∀ w, u = some w → v = w) ∧ Tr K G1 H1 v t fp ∧ (∀ x ∈ fp, H0 x = none ∧ H x ≠ none) ∧
    ∀ (H' : Hp) (t' : T) (fp' : List Addr), (∀ x o, H1 x = some o → x ∉ fp → H' x = some o) → Tr K G1 H' v t' fp' → (∀ x ∈ fp', x ∈ fp ∨ H x = none) → Ok K G0 H0 G1 H' σ (env.set i (.tr u t')) := by
  obtain ⟨F, hs⟩ := ok.ex
  obtain ⟨o, h1, v, e, hu0, h2⟩ := hs.sl i _ hi
  subst e
  have fresh1 : ∀ j x, x ∈ F j → G1 x = none ∧ H1 x ≠ none := fun j x hx => ⟨a.fr x (hs.inn j x hx).2 (hs.inn j x hx).1, fun z => (hs.inn j x hx).2 (a.hh.free z)⟩
  refine ⟨v, F i, h1, hu0, h2.fw a, fun x hx => ⟨hs.fresh i x hx, (hs.inn i x hx).2⟩, fun H' t' fp' k1 k3 k4 => ?_⟩
  have gh' : Same G1 H' := fun x o e => k1 x o (a.gh _ _ e) fun z => by rw [(fresh1 i x z).1] at e; cases e
  have hh' : Same H0 H' := fun x o e => k1 x o (a.hh _ _ (ok.fw.hh _ _ e)) fun z => by rw [hs.fresh i x z] at e; cases e
  have other : ∀ j, i ≠ j → ∀ x ∈ F j, H' x = H1 x := fun j hj x hx => by
    cases q : H1 x with
    | none => exact absurd q (fresh1 j x hx).2
    | some o => exact k1 x o q (hs.apart j i x (Ne.symm hj) hx)
  have fw1 := ok.fw.trans a
  refine ⟨gh', ⟨fw1.gg, gh', hh', fw1.fr⟩, by rw [List.length_set]; exact ok.len, fun j => if j = i then fp' else F j, fun j u hu => ?_, fun j x hx => ?_, fun j k x hjk ha hb => ?_, fun j x hx => ?_⟩
  · rcases get_set hu with ⟨e, _, e2⟩ | ⟨e, h4⟩
    · subst e; subst e2
      rw [if_pos rfl]
      exact ⟨_, h1, v, rfl, hu0, k3⟩
    · rw [if_neg (Ne.symm e)]
      obtain ⟨o, h5, h6⟩ := hs.sl j u h4
      exact ⟨o, h5, (h6.fw a).keep (Same.refl _) (fun x hx => (fresh1 j x hx).1) (other j e)⟩
  · by_cases e : j = i
    · subst e
      simp only [if_true] at hx
      rcases k4 x hx with z | z
      · exact hs.fresh _ x z
      · exact ok.fw.hh.free z
    · simp only [if_neg e] at hx
      exact hs.fresh j x hx
  · by_cases e : j = i
    · subst e
      simp only [if_true] at ha
      simp only [if_neg (Ne.symm hjk)] at hb
      rcases k4 x ha with z | z
      · exact hs.apart _ _ x hjk z hb
      · exact (hs.inn k x hb).2 z
    · simp only [if_neg e] at ha
      by_cases e2 : k = i
      · subst e2
        simp only [if_true] at hb
        rcases k4 x hb with z | z
        · exact hs.apart _ _ x hjk ha z
        · exact (hs.inn j x ha).2 z
      · simp only [if_neg e2] at hb
        exact hs.apart j k x hjk ha hb
  · by_cases e : j = i
    · subst e
      simp only [if_true] at hx
      exact k3.own x hx
    · simp only [if_neg e] at hx
      exact ⟨(fresh1 j x hx).1, by rw [other j (Ne.symm e) x hx]; exact (fresh1 j x hx).2⟩
/-- a slot is set; d is nothing owned -/
theorem Ok.set (ok : Ok K G0 H0 G H σ env) (i : Nat) {v : V} {s : SD} (hm : s.isMut = false) (h : SlOk K G H (some v) s) : Ok K G0 H0 G H (σ.set i (some v)) (env.set i s) := by
  obtain ⟨F, hs⟩ := ok.ex
  have sub : ∀ j a, a ∈ (if j = i then [] else F j) → a ∈ F j := fun j a ha => by
    by_cases e : j = i
    · rw [if_pos e] at ha; cases ha
    · rw [if_neg e] at ha; exact ha
  refine ⟨ok.gh, ok.fw, by rw [List.length_set, List.length_set]; exact ok.len, fun j => if j = i then [] else F j, fun j t ht => ?_, fun j a ha => hs.fresh j a (sub j a ha), fun j k a hjk ha hb => hs.apart j k a hjk (sub j a ha) (sub k a hb), fun j a ha => hs.inn j a (sub j a ha)⟩
  rcases get_set ht with ⟨e, hj, e2⟩ | ⟨e, h2⟩
  · subst e2
    subst e
    refine ⟨some v, by rw [List.getElem?_set_self (by rw [ok.len]; exact hj)], ?_⟩
    rw [if_pos rfl]
    exact SlF.of hm h
  · rw [if_neg (Ne.symm e)]
    obtain ⟨o, h3, h4⟩ := hs.sl j t h2
    exact ⟨o, by rw [List.getElem?_set_ne e]; exact h3, h4⟩
/-- a slot is set to a new tree -/
theorem Ok.setTree (ok : Ok K G0 H0 G H σ env) (a : Fw G H G1 H1) (i : Nat) {v : V} {t : T} {fp : List Addr} (h : Tr K G1 H1 v t fp) (hn : ∀ x ∈ fp, H x = none) : Ok K G0 H0 G1 H1 (σ.set i (some v)) (env.set i (.tr none t)) := by
  obtain ⟨F, hs⟩ := ok.ex
  obtain ⟨F1, hs1⟩ := (ok.go a).ex
  have ok1 := ok.go a
  refine ⟨ok1.gh, ok1.fw, by rw [List.length_set, List.length_set]; exact ok.len, fun j => if j = i then fp else F j, fun j t2 ht => ?_, fun j x hx => ?_, fun j k x hjk ha hb => ?_, fun j x hx => ?_⟩
  · rcases get_set ht with ⟨e, hj, e2⟩ | ⟨e, h2⟩
    · subst e2
      subst e
      refine ⟨some v, by rw [List.getElem?_set_self (by rw [ok.len]; exact hj)], ?_⟩
      rw [if_pos rfl]
      exact ⟨v, rfl, (fun _ z => by cases z), h⟩
    · rw [if_neg (Ne.symm e)]
      obtain ⟨o, h3, h4⟩ := hs.sl j t2 h2
      exact ⟨o, by rw [List.getElem?_set_ne e]; exact h3, h4.fw a⟩
  · by_cases e : j = i
    · simp only [if_pos e] at hx; exact ok.fw.hh.free (hn x hx)
    · simp only [if_neg e] at hx; exact hs.fresh j x hx
  · by_cases e : j = i
    · simp only [if_pos e] at ha
      simp only [if_neg (fun z : k = i => hjk (e.trans z.symm))] at hb
      exact (hs.inn k x hb).2 (hn x ha)
    · simp only [if_neg e] at ha
      by_cases e2 : k = i
      · simp only [if_pos e2] at hb
        exact (hs.inn j x ha).2 (hn x hb)
      · simp only [if_neg e2] at hb
        exact hs.apart j k x hjk ha hb
  · by_cases e : j = i
    · simp only [if_pos e] at hx; exact h.own x hx
    · simp only [if_neg e] at hx
      obtain ⟨h1, h2⟩ := hs.inn j x hx
      exact ⟨a.fr x h2 h1, fun z => h2 (a.hh.free z)⟩
/-- the tree of slot i is published -/
theorem Ok.publishT (ok : Ok K G0 H0 G H σ env) {i : Nat} {u : Option V} {t : T} {d : D} (hi : env[i]? = some (.tr u t)) (hp : Pb t d) : ∃ G', Ok K G0 H0 G' H σ (env.set i (.dat d)) := by
  obtain ⟨F, hs⟩ := ok.ex
  obtain ⟨o, h1, v, e, _, h2⟩ := hs.sl i _ hi
  subst e
  have sub : ∀ j a, a ∈ (if j = i then [] else F j) → j ≠ i ∧ a ∈ F j := fun j a ha => by
    by_cases e : j = i
    · rw [if_pos e] at ha; cases ha
    · rw [if_neg e] at ha; exact ⟨e, ha⟩
  refine ⟨pubG G H (F i), pubG_gh ok.gh, ok.fw.pubs (hs.fresh i), by rw [List.length_set]; exact ok.len, fun j => if j = i then [] else F j, fun j u hu => ?_, fun j a ha => hs.fresh j a (sub j a ha).2, fun j k a hjk ha hb => hs.apart j k a hjk (sub j a ha).2 (sub k a hb).2, fun j a ha => ?_⟩
  · rcases get_set hu with ⟨e, _, e2⟩ | ⟨e, h4⟩
    · subst e2; subst e
      refine ⟨_, h1, ?_⟩
      rw [if_pos rfl]
      exact ⟨rfl, v, rfl, h2.pub ok.gh (fun _ h => h) hp⟩
    · rw [if_neg (Ne.symm e)]
      obtain ⟨o, h3, h5⟩ := hs.sl j u h4
      exact ⟨o, h3, h5.keep (pubG_same ok.gh) (fun x hx => by rw [pubG_out (hs.apart j i x (Ne.symm e) hx)]; exact (hs.inn j x hx).1) (fun _ _ => rfl)⟩
  · obtain ⟨e, ha⟩ := sub j a ha
    exact ⟨by rw [pubG_out (hs.apart j i a e ha)]; exact (hs.inn j a ha).1, (hs.inn j a ha).2⟩
theorem Frz.some {S : List Addr} (fz : Frz H S H') (x : Addr) (h : H x ≠ none) : H' x ≠ none := by
  by_cases e : x ∈ S
  · cases c : isDK (H x) with
    | true => obtain ⟨ob, u, _, e2⟩ := fz.yes x e c; rw [e2]; simp
    | false => rw [fz.no x e c]; exact h
  · rw [fz.out x e]; exact h
/-- the tree of slot i is published, its dicts locked -/
theorem Ok.publishF (ok : Ok K G0 H0 G H σ env) {i : Nat} {u : Option V} {t : T} {d : D} (hi : env[i]? = some (.tr u t)) (hp : Pf t d) : ∃ S, ∀ H', Frz H S H' → ∃ G', Ok K G0 H0 G' H' σ (env.set i (.dat d)) := by
  obtain ⟨F, hs⟩ := ok.ex
  obtain ⟨o, h1, v, e, _, h2⟩ := hs.sl i _ hi
  subst e
  have sub : ∀ j a, a ∈ (if j = i then [] else F j) → j ≠ i ∧ a ∈ F j := fun j a ha => by
    by_cases e : j = i
    · rw [if_pos e] at ha; cases ha
    · rw [if_neg e] at ha; exact ⟨e, ha⟩
  refine ⟨F i, fun H' fz => ?_⟩
  have gS : ∀ x ∈ F i, G x = none := fun x hx => (hs.inn i x hx).1
  have gg : Same G (pubG G H' (F i)) := fun x o e => by
    by_cases z : x ∈ F i
    · rw [gS x z] at e; cases e
    · rw [pubG_out z]; exact e
  have gh : Same (pubG G H' (F i)) H' := fun x o e => by
    by_cases z : x ∈ F i
    · rw [pubG_in z] at e; exact e
    · rw [pubG_out z] at e; rw [fz.out x z]; exact ok.gh _ _ e
  have hh : Same H0 H' := fun x o e => by
    rw [fz.out x (fun z => by rw [hs.fresh i x z] at e; cases e)]; exact ok.fw.hh _ _ e
  refine ⟨pubG G H' (F i), gh, ⟨ok.fw.gg.trans gg, gh, hh, fun l hl gl => by rw [pubG_out fun z => hl (hs.fresh i l z)]; exact ok.fw.fr l hl gl⟩, by rw [List.length_set]; exact ok.len, fun j => if j = i then [] else F j, fun j u hu => ?_, fun j a ha => hs.fresh j a (sub j a ha).2, fun j k a hjk ha hb => hs.apart j k a hjk (sub j a ha).2 (sub k a hb).2, fun j a ha => ?_⟩
  · rcases get_set hu with ⟨e, _, e2⟩ | ⟨e, h4⟩
    · subst e2; subst e
      refine ⟨_, h1, ?_⟩
      rw [if_pos rfl]
      exact ⟨rfl, v, rfl, h2.pubF gg fz (fun _ h => h) hp⟩
    · rw [if_neg (Ne.symm e)]
      obtain ⟨o, h3, h5⟩ := hs.sl j u h4
      exact ⟨o, h3, h5.keep gg (fun x hx => by rw [pubG_out (hs.apart j i x (Ne.symm e) hx)]; exact (hs.inn j x hx).1) (fun x hx => fz.out x (hs.apart j i x (Ne.symm e) hx))⟩
  · obtain ⟨e, ha⟩ := sub j a ha
    exact ⟨by rw [pubG_out (hs.apart j i a e ha)]; exact (hs.inn j a ha).1, fz.some a (hs.inn j a ha).2⟩
theorem Ok.publish (ok : Ok K G0 H0 G H σ env) {i : Nat} {ds : List D} (hi : env[i]? = some (.ml ds)) : ∃ G', Ok K G0 H0 G' H σ (env.set i (.dat (.list ds))) := ok.publishT hi (.l (Pbs.ds ds))
/-- the hidden list of slot i is written -/
theorem Ok.writeM (ok : Ok K G0 H0 G H σ env) {i : Nat} {ds es : List D} {l : Addr} {ys : List V} (hi : env[i]? = some (.ml ds)) (hs : σ[i]? = some (some (.ref l))) (hd : Dds K G ys es) : Ok K G0 H0 G (upd H l (.lst ys)) σ (env.set i (.ml es)) := by
  obtain ⟨v, fp, h1, _, h2, _, h3⟩ := ok.tree (Fw.refl ok.gh) hi
  rw [hs] at h1
  cases h1
  obtain ⟨l', xs, e, e2, g, hl, _⟩ := h2.ml
  cases e
  subst e2
  refine h3 _ _ [l] (fun x o hx hn => by rw [upd_ne (fun z => hn (by simp [z]))]; exact hx) (Tr.of_ml g upd_same hd) (fun x hx => .inl hx)
theorem Ok.writeD (ok : Ok K G0 H0 G H σ env) {i : Nat} {ds es : List (Key × D)} {l : Addr} {kv : List (Key × V)} (hi : env[i]? = some (.md ds)) (hs : σ[i]? = some (some (.ref l))) (hk : kv.map (·.1) = es.map (·.1)) (hd : Dds K G (kv.map (·.2)) (es.map (·.2))) : Ok K G0 H0 G (upd H l (.dK kv)) σ (env.set i (.md es)) := by
  obtain ⟨v, fp, h1, _, h2, _, h3⟩ := ok.tree (Fw.refl ok.gh) hi
  rw [hs] at h1
  cases h1
  obtain ⟨l', xs, e, e2, g, hl, _⟩ := h2.md
  cases e
  subst e2
  refine h3 _ _ [l] (fun x o hx hn => by rw [upd_ne (fun z => hn (by simp [z]))]; exact hx) (Tr.of_md g upd_same hk hd) (fun x hx => .inl hx)
end DL

/-! What expressions, targets, iterators and statements do, said of plain data. -/
namespace DL
open PySem L2
variable {K : PySem.W.Frag} {E : XK} {env env' e1 e2 : EnvD}

/-! ### judgements -/
def EvD (K : PySem.W.Frag) (te : TE) (env : EnvD) (d : D) : Prop := ∀ (G0 H0 G H : Hp) (σ : L2.St), Ok K G0 H0 G H σ env → ∀ Q : VK, (∀ v G' H', Fw G H G' H' → Dd K G' v d → Q v H') → te σ H Q
/-- data that need not be published -/
def EvP (K : PySem.W.Frag) (te : TE) (env : EnvD) (d : D) : Prop := ∀ (G0 H0 G H : Hp) (σ : L2.St), Ok K G0 H0 G H σ env → ∀ Q : VK, (∀ v G' H', Fw G H G' H' → Dd K H' v d → Q v H') → te σ H Q
/-- a new list -/
def EvN (K : PySem.W.Frag) (te : TE) (env : EnvD) (ds : List D) : Prop := ∀ (G0 H0 G H : Hp) (σ : L2.St), Ok K G0 H0 G H σ env → ∀ Q : VK,
  (∀ p xs G' H', Fw G H G' H' → H p = none → G' p = none → H' p = some (.lst xs) → Dds K G' xs ds → Q (.ref p) H') → te σ H Q
def EvT (K : PySem.W.Frag) (tt : TT) (env : EnvD) (b : Bool) : Prop := ∀ (G0 H0 G H : Hp) (σ : L2.St), Ok K G0 H0 G H σ env → ∀ Q : Bool → Hp → Prop, (∀ G' H', Fw G H G' H' → Q b H') → tt σ H Q
inductive Args (K : PySem.W.Frag) (G H : Hp) : List V → List SD → Prop
  | nil : Args K G H [] []
  | cons {v : V} {vs : List V} {s : SD} {ss : List SD} : s.isMut = false → SlOk K G H (some v) s → Args K G H vs ss → Args K G H (v :: vs) (s :: ss)
theorem Args.fw {G H G' H' : Hp} (a : Fw G H G' H') : ∀ {vs : List V} {ss : List SD}, Args K G H vs ss → Args K G' H' vs ss
  | _, _, .nil => .nil
  | _, _, .cons m h hs => .cons m (h.fw a) (hs.fw a)
theorem Args.len {G H : Hp} : ∀ {vs : List V} {ss : List SD}, Args K G H vs ss → vs.length = ss.length
  | _, _, .nil => rfl
  | _, _, .cons _ _ hs => congrArg (· + 1) hs.len
def EvA (K : PySem.W.Frag) (ta : TA) (env : EnvD) (ss : List SD) : Prop := ∀ (G0 H0 G H : Hp) (σ : L2.St), Ok K G0 H0 G H σ env → ∀ Q : List V → Hp → Prop, (∀ vs G' H', Fw G H G' H' → Args K G' H' vs ss → Q vs H') → ta σ H Q
/-- the exact value, nothing made -/
def EvV (K : PySem.W.Frag) (te : TE) (env : EnvD) (s : SD) : Prop := ∀ (G0 H0 G H : Hp) (σ : L2.St), Ok K G0 H0 G H σ env → ∀ Q : VK, (∀ v G' H', Fw G H G' H' → SlOk K G' H' (some v) s → Q v H') → te σ H Q

theorem EvN.d {te : TE} {ds : List D} (h : EvN K te env ds) : EvD K te env (.list ds) := fun G0 H0 G H σ ok Q q =>
  h G0 H0 G H σ ok Q fun p xs G' H' a hp g' h' hs => q _ _ _ (Fw.pub a hp h' g') (.lst upd_same (hs.mono (same_upd g')))
theorem EvD.p {te : TE} {d : D} (h : EvD K te env d) : EvP K te env d := fun G0 H0 G H σ ok Q q => h G0 H0 G H σ ok Q fun v G' H' a hd => q v G' H' a (hd.mono a.gh)
theorem EvN.p {te : TE} {ds : List D} (h : EvN K te env ds) : EvP K te env (.list ds) := h.d.p
theorem EvD.v {te : TE} {d : D} (h : EvD K te env d) : EvV K te env (.dat d) := fun G0 H0 G H σ ok Q q => h G0 H0 G H σ ok Q fun v G' H' a hd => q v G' H' a ⟨v, rfl, hd⟩
theorem EvD.is {te : TE} {d d' : D} (h : EvD K te env d) (e : d = d') : EvD K te env d' := e ▸ h
theorem EvN.is {te : TE} {d d' : List D} (h : EvN K te env d) (e : d = d') : EvN K te env d' := e ▸ h
theorem EvT.is {te : TT} {d d' : Bool} (h : EvT K te env d) (e : d = d') : EvT K te env d' := e ▸ h

/-! ### names, constants -/
theorem ed_var {d : D} (i : Nat) (h : env[i]? = some (.dat d) := by rfl) : EvD K (tVar i) env d := fun G0 H0 G H σ ok Q q => by
  obtain ⟨o, h1, v, e, hd⟩ := ok.sl i _ h
  subst e
  exact ⟨v, h1, q v G H (Fw.refl ok.gh) hd⟩
theorem ep_var {ds : List D} (i : Nat) (h : env[i]? = some (.ml ds) := by rfl) : EvP K (tVar i) env (.list ds) := fun G0 H0 G H σ ok Q q => by
  obtain ⟨o, h1, l, xs, e, g, hl, hd⟩ := ok.slM i h
  subst e
  exact ⟨_, h1, q _ G H (Fw.refl ok.gh) (.lst hl (hd.mono ok.gh))⟩
theorem ev_raw {v : V} (i : Nat) (h : env[i]? = some (.raw v) := by rfl) : EvV K (tVar i) env (.raw v) := fun G0 H0 G H σ ok Q q => by
  obtain ⟨o, h1, e⟩ := ok.sl i _ h
  exact ⟨v, by rw [h1, show o = some v from e], q v G H (Fw.refl ok.gh) rfl⟩
theorem ed_int (n : Int) : EvD K (tC (.int n)) env (.int n) := fun _ _ G H _ ok _ q => q _ G H (Fw.refl ok.gh) (.int n)
theorem ed_bl (n : Bool) : EvD K (tC (.bl n)) env (.bool n) := fun _ _ G H _ ok _ q => q _ G H (Fw.refl ok.gh) (.bl n)
theorem ed_str (x : Str) : EvD K (tC (.str x)) env (.str x) := fun _ _ G H _ ok _ q => q _ G H (Fw.refl ok.gh) (.str x)
theorem ed_non : EvD K (tC .non) env .none := fun _ _ G H _ ok _ q => q _ G H (Fw.refl ok.gh) .non
/-- a constant of the written part -/
theorem ed_con {v : V} {d : D} (h : ∀ G : Hp, Dd K G v d) : EvD K (tC v) env d := fun _ _ G H _ ok _ q => q _ G H (Fw.refl ok.gh) (h G)

/-! ### operators -/
section
variable {ta tb tc : TE} {i j : Int} {x y : D}
theorem ed_2 {r : R2} {z : D} (ha : EvD K ta env x) (hb : EvD K tb env y) (hr : ∀ (v u : V) (G H : Hp), Same G H → Dd K G v x → Dd K G u y → ∀ Q : VK, (∀ w, Dd K G w z → Q w H) → r v u H Q) : EvD K (tOp r ta tb) env z :=
  fun G0 H0 G H σ ok Q q => ha G0 H0 G H σ ok _ fun v G1 H1 a1 hv => hb G0 H0 G1 H1 σ (ok.go a1) _ fun u G2 H2 a2 hu => hr v u G2 H2 a2.gh (hv.mono a2.gg) hu Q fun w hw => q w G2 H2 (a1.trans a2) hw
theorem ed_I {C : Int → Int → Prop} {g : Int → Int → Int} (ha : EvD K ta env (.int i)) (hb : EvD K tb env (.int j)) (hc : C i j) : EvD K (tOp (rI C fun i j => .int (g i j)) ta tb) env (.int (g i j)) :=
  ed_2 ha hb fun v u G H _ hv hu Q q => ⟨i, j, hv.int_inv, hu.int_inv, hc, q _ (.int _)⟩
theorem ed_I0 {g : Int → Int → Int} (ha : EvD K ta env (.int i)) (hb : EvD K tb env (.int j)) : EvD K (tOp (rI0 fun i j => .int (g i j)) ta tb) env (.int (g i j)) :=
  ed_2 ha hb fun v u G H _ hv hu Q q => ⟨i, j, hv.int_inv, hu.int_inv, q _ (.int _)⟩
theorem ed_B0 {g : Int → Int → Bool} (ha : EvD K ta env (.int i)) (hb : EvD K tb env (.int j)) : EvD K (tOp (rI0 fun i j => .bl (g i j)) ta tb) env (.bool (g i j)) :=
  ed_2 ha hb fun v u G H _ hv hu Q q => ⟨i, j, hv.int_inv, hu.int_inv, q _ (.bl _)⟩
theorem dec_int {i j : Int} : decide ((V.int i) = V.int j) = decide (i = j) := by
  by_cases h : i = j
  · subst h; simp
  · rw [decide_eq_false h, decide_eq_false (fun z => h (V.int.inj z))]
theorem dec_bl {i j : Bool} : decide ((V.bl i) = V.bl j) = decide (i = j) := by
  by_cases h : i = j
  · subst h; simp
  · rw [decide_eq_false h, decide_eq_false (fun z => h (V.bl.inj z))]
theorem dec_str {i j : Str} : decide ((V.str i) = V.str j) = decide (i = j) := by
  by_cases h : i = j
  · subst h; simp
  · rw [decide_eq_false h, decide_eq_false (fun z => h (V.str.inj z))]
theorem ed_eqI (ha : EvD K ta env (.int i)) (hb : EvD K tb env (.int j)) : EvD K (tOp rEq ta tb) env (.bool (decide (i = j))) :=
  ed_2 ha hb fun v u G H _ hv hu Q q => by rw [hv.int_inv, hu.int_inv]; exact ⟨rfl, by rw [dec_int]; exact q _ (.bl _)⟩
theorem ed_neI (ha : EvD K ta env (.int i)) (hb : EvD K tb env (.int j)) : EvD K (tOp rNe ta tb) env (.bool (!decide (i = j))) :=
  ed_2 ha hb fun v u G H _ hv hu Q q => by rw [hv.int_inv, hu.int_inv]; exact ⟨rfl, by rw [dec_int]; exact q _ (.bl _)⟩
theorem ed_eqB {i j : Bool} (ha : EvD K ta env (.bool i)) (hb : EvD K tb env (.bool j)) : EvD K (tOp rEq ta tb) env (.bool (decide (i = j))) :=
  ed_2 ha hb fun v u G H _ hv hu Q q => by rw [hv.bl_inv, hu.bl_inv]; exact ⟨rfl, by rw [dec_bl]; exact q _ (.bl _)⟩
theorem ed_neB {i j : Bool} (ha : EvD K ta env (.bool i)) (hb : EvD K tb env (.bool j)) : EvD K (tOp rNe ta tb) env (.bool (!decide (i = j))) :=
  ed_2 ha hb fun v u G H _ hv hu Q q => by rw [hv.bl_inv, hu.bl_inv]; exact ⟨rfl, by rw [dec_bl]; exact q _ (.bl _)⟩
theorem ed_eqS {i j : Str} (ha : EvD K ta env (.str i)) (hb : EvD K tb env (.str j)) : EvD K (tOp rEq ta tb) env (.bool (decide (i = j))) :=
  ed_2 ha hb fun v u G H _ hv hu Q q => by rw [hv.str_inv, hu.str_inv]; exact ⟨rfl, by rw [dec_str]; exact q _ (.bl _)⟩
theorem ed_neS {i j : Str} (ha : EvD K ta env (.str i)) (hb : EvD K tb env (.str j)) : EvD K (tOp rNe ta tb) env (.bool (!decide (i = j))) :=
  ed_2 ha hb fun v u G H _ hv hu Q q => by rw [hv.str_inv, hu.str_inv]; exact ⟨rfl, by rw [dec_str]; exact q _ (.bl _)⟩
theorem ep_2 {r : R2} {z : D} (ha : EvP K ta env x) (hb : EvP K tb env y) (hr : ∀ (v u : V) (H : Hp), Dd K H v x → Dd K H u y → ∀ Q : VK, (∀ w, (∀ G, Dd K G w z) → Q w H) → r v u H Q) : EvD K (tOp r ta tb) env z :=
  fun G0 H0 G H σ ok Q q => ha G0 H0 G H σ ok _ fun v G1 H1 a1 hv => hb G0 H0 G1 H1 σ (ok.go a1) _ fun u G2 H2 a2 hu => hr v u H2 (hv.mono a2.hh) hu Q fun w hw => q w G2 H2 (a1.trans a2) (hw G2)
/-- data compared -/
theorem ed_eqD (ha : EvP K ta env x) (hb : EvP K tb env y) (hx : SeqAt.shaped x = true) (hy : SeqAt.shaped y = true) : EvD K (tOp (rEqD K) ta tb) env (.bool (PyData.eqv x y)) :=
  ep_2 ha hb fun v u H hv hu Q q => ⟨x, y, hv.dp (noDict_shaped hx), hu.dp (noDict_shaped hy), hx, hy, q _ fun _ => .bl _⟩
theorem ed_neD (ha : EvP K ta env x) (hb : EvP K tb env y) (hx : SeqAt.shaped x = true) (hy : SeqAt.shaped y = true) : EvD K (tOp (rNeD K) ta tb) env (.bool (!PyData.eqv x y)) :=
  ep_2 ha hb fun v u H hv hu Q q => ⟨x, y, hv.dp (noDict_shaped hx), hu.dp (noDict_shaped hy), hx, hy, q _ fun _ => .bl _⟩
theorem ed_neg (ha : EvD K ta env (.int i)) : EvD K (tUn (rU fun i => .int (-i)) ta) env (.int (-i)) := fun G0 H0 G H σ ok Q q =>
  ha G0 H0 G H σ ok _ fun v G1 H1 a hv => ⟨i, hv.int_inv, q _ G1 H1 a (.int _)⟩
/-- items -/
theorem ed_ixT {ds : List D} {z : D} (ha : EvD K ta env (.tuple ds)) (hb : EvD K tb env (.int i)) (hz : atI ds i = some z) : EvD K (tOp (rIxT K) ta tb) env z :=
  ed_2 ha hb fun v u G H gh hv hu Q q => by
    obtain ⟨a, xs, e, hs, hd⟩ := hv.tup_inv
    subst e
    unfold atI at hz
    cases hk : ixN ds.length i with
    | none => rw [hk] at hz; cases hz
    | some k =>
      rw [hk] at hz
      obtain ⟨w, h1, h2⟩ := hd.get (i := k) (d := z) hz
      exact ⟨a, xs, i, w, rfl, hu.int_inv, sqT_mono gh hs, by unfold atI; rw [hd.len, hk]; exact h1, q w h2⟩
theorem ed_ixL {ds : List D} {z : D} (ha : EvD K ta env (.list ds)) (hb : EvD K tb env (.int i)) (hz : atI ds i = some z) : EvD K (tOp (rIxL K) ta tb) env z :=
  ed_2 ha hb fun v u G H gh hv hu Q q => by
    obtain ⟨a, xs, e, hs, hd⟩ := hv.lst_inv
    subst e
    unfold atI at hz
    cases hk : ixN ds.length i with
    | none => rw [hk] at hz; cases hz
    | some k =>
      rw [hk] at hz
      obtain ⟨w, h1, h2⟩ := hd.get (i := k) (d := z) hz
      exact ⟨a, xs, i, w, rfl, hu.int_inv, .inl (.inl (gh _ _ hs)), by unfold atI; rw [hd.len, hk]; exact h1, q w h2⟩
end
/-- an item of a hidden list -/
theorem ed_ixM {tb : TE} {m : Nat} {i : Int} {ds : List D} {z : D} (h : env[m]? = some (.ml ds)) (hb : EvD K tb env (.int i)) (hz : atI ds i = some z) : EvD K (tOp (rIxL K) (tVar m) tb) env z :=
  fun G0 H0 G H σ ok Q q => by
    obtain ⟨o, h1, l, xs, e, g, hl, hd⟩ := ok.slM m h
    subst e
    refine ⟨_, h1, hb G0 H0 G H σ ok _ fun u G1 H1 a hu => ?_⟩
    unfold atI at hz
    cases hk : ixN ds.length i with
    | none => rw [hk] at hz; cases hz
    | some k =>
      rw [hk] at hz
      obtain ⟨w, h1, h2⟩ := hd.get (i := k) (d := z) hz
      exact ⟨l, xs, i, w, rfl, hu.int_inv, .inl (.inl (a.hh _ _ hl)), by unfold atI; rw [hd.len, hk]; exact h1, q w G1 H1 a (h2.mono a.gg)⟩

/-! ### displays, arguments, calls -/
section
variable {ta tb tc te : TE} {t : TA} {s : SD} {ss : List SD}
theorem ea_nil : EvA K tNil env [] := fun _ _ G H _ ok _ q => q [] G H (Fw.refl ok.gh) .nil
theorem ea_cons (h : EvV K ta env s) (hm : s.isMut = false) (hs : EvA K t env ss) : EvA K (tCons ta t) env (s :: ss) := fun G0 H0 G H σ ok Q q =>
  h G0 H0 G H σ ok _ fun v G1 H1 a1 hv => hs G0 H0 G1 H1 σ (ok.go a1) _ fun vs G2 H2 a2 hvs => q _ G2 H2 (a1.trans a2) (.cons hm (hv.fw a2) hvs)
theorem ea_d {d : D} (h : EvD K ta env d) (hs : EvA K t env ss) : EvA K (tCons ta t) env (.dat d :: ss) := ea_cons h.v rfl hs
theorem Args.dds {G H : Hp} : ∀ {vs : List V} {ds : List D}, Args K G H vs (ds.map SD.dat) → Dds K G vs ds
  | _, [], .nil => .nil
  | _, d :: ds, .cons _ h hs => by
    obtain ⟨v, e, hd⟩ := h
    cases e
    exact .cons hd hs.dds
theorem ed_tup {ds : List D} (h : EvA K t env (ds.map SD.dat)) (hl : Nat.ble ds.length 1000 = true := by rfl) : EvD K (tTup t) env (.tuple ds) := fun G0 H0 G H σ ok Q q =>
  h G0 H0 G H σ ok _ fun vs G1 H1 a hv => ⟨by rw [hv.dds.len]; exact Nat.le_of_lt (small1000 (Nat.le_of_ble_eq_true hl)), fun p hp => q _ _ _ (a.trans (Fw.new a.gh hp)) (.tup (SqT.of upd_same) (hv.dds.mono (same_upd (a.gh.free hp))))⟩
theorem en_lst {ds : List D} (h : EvA K t env (ds.map SD.dat)) (hl : Nat.ble ds.length 1000 = true := by rfl) : EvN K (tLst t) env ds := fun G0 H0 G H σ ok Q q =>
  h G0 H0 G H σ ok _ fun vs G1 H1 a hv => ⟨by rw [hv.dds.len]; exact Nat.le_of_lt (small1000 (Nat.le_of_ble_eq_true hl)), fun p hp => q p vs G1 _ (a.trans (Fw.hid a.gh hp)) (by
    cases z : H p with
    | none => rfl
    | some o => rw [a.hh _ _ z] at hp; cases hp) (a.gh.free hp) upd_same hv.dds⟩
/-- built-in calls by values -/
theorem ed_CB {r : List V → Hp → VK → Prop} {z : D} (h : EvA K t env ss) (hr : ∀ (vs : List V) (G H : Hp), Same G H → Args K G H vs ss → ∀ Q : VK, (∀ w, Dd K G w z → Q w H) → r vs H Q) : EvD K (tCB r t) env z := fun G0 H0 G H σ ok Q q =>
  h G0 H0 G H σ ok _ fun vs G1 H1 a hv => hr vs G1 H1 a.gh hv Q fun w hw => q w G1 H1 a hw
theorem args1 {G H : Hp} {vs : List V} {d : D} (h : Args K G H vs [.dat d]) : ∃ v, vs = [v] ∧ Dd K G v d := by
  cases h with
  | cons _ h hs => cases hs; obtain ⟨v, e, hd⟩ := h; cases e; exact ⟨_, rfl, hd⟩
theorem args2 {G H : Hp} {vs : List V} {d e : D} (h : Args K G H vs [.dat d, .dat e]) : ∃ v u, vs = [v, u] ∧ Dd K G v d ∧ Dd K G u e := by
  cases h with
  | cons _ h hs =>
    obtain ⟨v, e, hd⟩ := h; cases e
    cases hs with
    | cons _ h hs => cases hs; obtain ⟨u, e, he⟩ := h; cases e; exact ⟨_, _, rfl, hd, he⟩
theorem ed_int1 {i : Int} (h : EvD K ta env (.int i)) : EvD K (tCB (fun xs H Q => (∃ i, xs = [.int i] ∧ Q (.int i) H) ∨ ∃ k, xs = [.bl k] ∧ Q (.int (if k then 1 else 0)) H) (tCons ta tNil)) env (.int i) :=
  ed_CB (ea_d h ea_nil) fun vs G H _ hv Q q => by
    obtain ⟨v, rfl, hd⟩ := args1 hv
    rw [hd.int_inv]
    exact .inl ⟨i, rfl, q _ (.int i)⟩
theorem ed_abs {i : Int} (h : EvD K ta env (.int i)) : EvD K (tCB (fun xs H Q => ∃ i, xs = [.int i] ∧ Q (.int (if i < 0 then -i else i)) H) (tCons ta tNil)) env (.int (if i < 0 then -i else i)) :=
  ed_CB (ea_d h ea_nil) fun vs G H _ hv Q q => by
    obtain ⟨v, rfl, hd⟩ := args1 hv
    rw [hd.int_inv]
    exact ⟨i, rfl, q _ (.int _)⟩
theorem ed_min2 {i j : Int} (h : EvD K ta env (.int i)) (h' : EvD K tb env (.int j)) : EvD K (tCB (fun xs H Q => ∃ i j, xs = [.int i, .int j] ∧ Q (.int (if j < i then j else i)) H) (tCons ta (tCons tb tNil))) env (.int (if j < i then j else i)) :=
  ed_CB (ea_d h (ea_d h' ea_nil)) fun vs G H _ hv Q q => by
    obtain ⟨v, u, rfl, hd, he⟩ := args2 hv
    rw [hd.int_inv, he.int_inv]
    exact ⟨i, j, rfl, q _ (.int _)⟩
theorem ed_max2 {i j : Int} (h : EvD K ta env (.int i)) (h' : EvD K tb env (.int j)) : EvD K (tCB (fun xs H Q => ∃ i j, xs = [.int i, .int j] ∧ Q (.int (if j > i then j else i)) H) (tCons ta (tCons tb tNil))) env (.int (if j > i then j else i)) :=
  ed_CB (ea_d h (ea_d h' ea_nil)) fun vs G H _ hv Q q => by
    obtain ⟨v, u, rfl, hd, he⟩ := args2 hv
    rw [hd.int_inv, he.int_inv]
    exact ⟨i, j, rfl, q _ (.int _)⟩
theorem ed_gcd {i j : Int} (h : EvD K ta env (.int i)) (h' : EvD K tb env (.int j)) : EvD K (tCB rGcd (tCons ta (tCons tb tNil))) env (.int ((Nat.gcd i.natAbs j.natAbs : Nat) : Int)) :=
  ed_CB (ea_d h (ea_d h' ea_nil)) fun vs G H _ hv Q q => by
    obtain ⟨v, u, rfl, hd, he⟩ := args2 hv
    rw [hd.int_inv, he.int_inv]
    exact ⟨i, j, rfl, q _ (.int _)⟩
theorem ed_bits {i : Int} (h : EvD K ta env (.int i)) : EvD K (tBits ta) env (.int (Builtin.Int.intBits i : Nat)) := fun G0 H0 G H σ ok Q q =>
  h G0 H0 G H σ ok _ fun v G1 H1 a hv => ⟨i, hv.int_inv, q _ G1 H1 a (.int _)⟩
/-- len of data -/
theorem ed_lenL {ds : List D} (h : EvP K ta env (.list ds)) : EvD K (tCB (fun xs H Q => ∃ p ys, xs = [.ref p] ∧ (SqL K H p ys ∨ SqT K H p ys) ∧ Q (.int ys.length) H) (tCons ta tNil)) env (.int ds.length) := fun G0 H0 G H σ ok Q q =>
  h G0 H0 G H σ ok _ fun v G1 H1 a hv => by
    obtain ⟨p, xs, e, hs, hd⟩ := hv.lst_inv
    subst e
    exact ⟨p, xs, rfl, .inl (SqL.of hs), by rw [hd.len]; exact q _ G1 H1 a (.int _)⟩
theorem ed_lenT {ds : List D} (h : EvP K ta env (.tuple ds)) : EvD K (tCB (fun xs H Q => ∃ p ys, xs = [.ref p] ∧ (SqL K H p ys ∨ SqT K H p ys) ∧ Q (.int ys.length) H) (tCons ta tNil)) env (.int ds.length) := fun G0 H0 G H σ ok Q q =>
  h G0 H0 G H σ ok _ fun v G1 H1 a hv => by
    obtain ⟨p, xs, e, hs, hd⟩ := hv.tup_inv
    subst e
    exact ⟨p, xs, rfl, .inr hs, by rw [hd.len]; exact q _ G1 H1 a (.int _)⟩

/-! ### promises -/
variable {α : Type} {fs : α → List SD} {pre : α → Prop} {f : α → D} {fl : α → List D} {fo : α → Option D} {C : Value} {E' : XK}
/-- hands back data -/
def SpD (K : PySem.W.Frag) (fs : α → List SD) (pre : α → Prop) (f : α → D) : Sp := fun vs H Q _ => ∃ (x : α) (G : Hp), Same G H ∧ Args K G H vs (fs x) ∧ pre x ∧ ∀ v G' H', Fw G H G' H' → Dd K G' v (f x) → Q v H'
/-- hands back a new list -/
def SpN (K : PySem.W.Frag) (fs : α → List SD) (pre : α → Prop) (fl : α → List D) : Sp := fun vs H Q _ => ∃ (x : α) (G : Hp), Same G H ∧ Args K G H vs (fs x) ∧ pre x ∧
  ∀ p xs G' H', Fw G H G' H' → H p = none → G' p = none → H' p = some (.lst xs) → Dds K G' xs (fl x) → Q (.ref p) H'
/-- hands back data, or raises an error of the class C -/
def SpX (K : PySem.W.Frag) (fs : α → List SD) (pre : α → Prop) (C : Value) (fo : α → Option D) : Sp := fun vs H Q E => ∃ (x : α) (G : Hp), Same G H ∧ Args K G H vs (fs x) ∧ pre x ∧
  (∀ d, fo x = some d → ∀ v G' H', Fw G H G' H' → Dd K G' v d → Q v H') ∧ (fo x = none → ∀ G' H', Fw G H G' H' → E C none H')
theorem ed_call {x : α} (h : EvA K t env ss) (e : ss = fs x) (hp : pre x) : EvD K (tCall (SpD K fs pre f) [] E' t) env (f x) := fun G0 H0 G H σ ok Q q =>
  h G0 H0 G H σ ok _ fun vs G1 H1 a hv => ⟨x, G1, a.gh, by rw [List.append_nil, ← e]; exact hv, hp, fun v G2 H2 a2 hd => q v G2 H2 (a.trans a2) hd⟩
theorem en_call {x : α} (h : EvA K t env ss) (e : ss = fs x) (hp : pre x) : EvN K (tCall (SpN K fs pre fl) [] E' t) env (fl x) := fun G0 H0 G H σ ok Q q =>
  h G0 H0 G H σ ok _ fun vs G1 H1 a hv => ⟨x, G1, a.gh, by rw [List.append_nil, ← e]; exact hv, hp, fun p xs G2 H2 a2 hp g2 h2 hd => q p xs G2 H2 (a.trans a2) (by
    cases z : H p with
    | none => rfl
    | some o => rw [a.hh _ _ z] at hp; cases hp) g2 h2 hd⟩
/-- .. where it does not raise -/
theorem ed_callX {x : α} {d : D} (h : EvA K t env ss) (e : ss = fs x) (hp : pre x) (hd : fo x = some d) : EvD K (tCall (SpX K fs pre C fo) [] E' t) env d := fun G0 H0 G H σ ok Q q =>
  h G0 H0 G H σ ok _ fun vs G1 H1 a hv => ⟨x, G1, a.gh, by rw [List.append_nil, ← e]; exact hv, hp, fun d' hd' v G2 H2 a2 hv2 => q v G2 H2 (a.trans a2) (by rw [hd] at hd'; cases hd'; exact hv2), fun z => by rw [hd] at z; cases z⟩

/-! ### tests -/
theorem et_test {b : Bool} (h : EvD K te env (.bool b)) : EvT K (tTest te) env b := fun G0 H0 G H σ ok Q q => h G0 H0 G H σ ok _ fun v G1 H1 a hv => ⟨b, hv.bl_inv, q G1 H1 a⟩
theorem et_B {b : Bool} (h : EvD K te env (.bool b)) : EvT K (tB te) env b := fun G0 H0 G H σ ok Q q => h G0 H0 G H σ ok _ fun v G1 H1 a hv => ⟨b, hv.bl_inv, q G1 H1 a⟩
theorem et_not {t1 : TT} {b : Bool} (h : EvT K t1 env b) : EvT K (tNot t1) env (!b) := fun G0 H0 G H σ ok Q q => h G0 H0 G H σ ok _ fun G1 H1 a => q G1 H1 a
theorem et_and {t1 t2 : TT} {b c : Bool} (h : EvT K t1 env b) (h2 : b = true → EvT K t2 env c) : EvT K (tAnd t1 t2) env (b && c) := fun G0 H0 G H σ ok Q q => h G0 H0 G H σ ok _ fun G1 H1 a => by
  cases b with
  | true => exact iteT (h2 rfl G0 H0 G1 H1 σ (ok.go a) _ fun G2 H2 a2 => q G2 H2 (a.trans a2))
  | false => exact iteF (q G1 H1 a)
theorem et_or {t1 t2 : TT} {b c : Bool} (h : EvT K t1 env b) (h2 : b = false → EvT K t2 env c) : EvT K (tOr t1 t2) env (b || c) := fun G0 H0 G H σ ok Q q => h G0 H0 G H σ ok _ fun G1 H1 a => by
  cases b with
  | true => exact iteT (q G1 H1 a)
  | false => exact iteF (h2 rfl G0 H0 G1 H1 σ (ok.go a) _ fun G2 H2 a2 => q G2 H2 (a.trans a2))
theorem ed_andV {b c : Bool} (h : EvD K ta env (.bool b)) (h2 : b = true → EvD K tb env (.bool c)) : EvD K (tAndV ta tb) env (.bool (b && c)) := fun G0 H0 G H σ ok Q q => h G0 H0 G H σ ok _ fun v G1 H1 a hv => ⟨b, hv.bl_inv, by
  cases b with
  | true => exact iteT (h2 rfl G0 H0 G1 H1 σ (ok.go a) _ fun w G2 H2 a2 hw => q w G2 H2 (a.trans a2) hw)
  | false => exact iteF (q _ G1 H1 a (.bl false))⟩
theorem ed_orV {b c : Bool} (h : EvD K ta env (.bool b)) (h2 : b = false → EvD K tb env (.bool c)) : EvD K (tOrV ta tb) env (.bool (b || c)) := fun G0 H0 G H σ ok Q q => h G0 H0 G H σ ok _ fun v G1 H1 a hv => ⟨b, hv.bl_inv, by
  cases b with
  | true => exact iteT (q _ G1 H1 a (.bl true))
  | false => exact iteF (h2 rfl G0 H0 G1 H1 σ (ok.go a) _ fun w G2 H2 a2 hw => q w G2 H2 (a.trans a2) hw)⟩
theorem ed_notV {b : Bool} (h : EvD K ta env (.bool b)) : EvD K (tNotV ta) env (.bool (!b)) := fun G0 H0 G H σ ok Q q => h G0 H0 G H σ ok _ fun v G1 H1 a hv => ⟨b, hv.bl_inv, q _ G1 H1 a (.bl _)⟩
theorem ed_if {t1 : TT} {b : Bool} {d : D} (h : EvT K t1 env b) (h1 : b = true → EvD K ta env d) (h2 : b = false → EvD K tb env d) : EvD K (tIf t1 ta tb) env d := fun G0 H0 G H σ ok Q q => h G0 H0 G H σ ok _ fun G1 H1 a => by
  cases b with
  | true => exact iteT (h1 rfl G0 H0 G1 H1 σ (ok.go a) _ fun w G2 H2 a2 hw => q w G2 H2 (a.trans a2) hw)
  | false => exact iteF (h2 rfl G0 H0 G1 H1 σ (ok.go a) _ fun w G2 H2 a2 hw => q w G2 H2 (a.trans a2) hw)
end

/-! ### targets -/
def Sets (ts : List Nat) (σ σ' : L2.St) : Prop := σ'.length = σ.length ∧ ∀ i, i ∉ ts → σ'[i]? = σ[i]?
theorem Sets.refl (ts : List Nat) (σ : L2.St) : Sets ts σ σ := ⟨rfl, fun _ _ => rfl⟩
theorem Sets.trans {ts : List Nat} {a b c : L2.St} (h : Sets ts a b) (h' : Sets ts b c) : Sets ts a c := ⟨h'.1.trans h.1, fun i hi => (h'.2 i hi).trans (h.2 i hi)⟩
theorem Sets.set {ts : List Nat} {σ : L2.St} {i : Nat} {v : Option V} (h : i ∈ ts) : Sets ts σ (σ.set i v) := ⟨List.length_set, fun j hj => List.getElem?_set_ne fun e => hj (by rw [← e]; exact h)⟩
/-- the target takes the data d -/
def EvG (K : PySem.W.Frag) (g : TG) (ts : List Nat) (env : EnvD) (d : D) (env' : EnvD) : Prop := ∀ (G0 H0 G H : Hp) (σ : L2.St) (v : V) (Nx : L2.St → Hp → Prop), Ok K G0 H0 G H σ env → Dd K G v d → (∀ σ', Sets ts σ σ' → Ok K G0 H0 G H σ' env' → Nx σ' H) → g v σ H Nx
def EvGs (K : PySem.W.Frag) (g : TGs) (ts : List Nat) (env : EnvD) (ds : List D) (env' : EnvD) : Prop := ∀ (G0 H0 G H : Hp) (σ : L2.St) (vs : List V) (Nx : L2.St → Hp → Prop), Ok K G0 H0 G H σ env → Dds K G vs ds → (∀ σ', Sets ts σ σ' → Ok K G0 H0 G H σ' env' → Nx σ' H) → g vs σ H Nx
theorem eg_name {ts : List Nat} {i : Nat} {d : D} (h : i ∈ ts) : EvG K (gName i) ts env d (env.set i (.dat d)) := fun G0 H0 G H σ v Nx ok hv q => q _ (Sets.set h) (ok.set i rfl ⟨v, rfl, hv⟩)
theorem egs_nil {ts : List Nat} : EvGs K gNil ts env [] env := fun G0 H0 G H σ vs Nx ok hv q => by
  cases hv
  exact ⟨rfl, q σ (Sets.refl _ _) ok⟩
theorem egs_cons {ts : List Nat} {g : TG} {gs : TGs} {d : D} {ds : List D} (h : EvG K g ts env d e1) (hs : EvGs K gs ts e1 ds e2) : EvGs K (gCons g gs) ts env (d :: ds) e2 := fun G0 H0 G H σ vs Nx ok hv q => by
  cases hv with
  | cons a b => exact ⟨_, _, rfl, h G0 H0 G H σ _ _ ok a fun σ1 s1 ok1 => hs G0 H0 G H σ1 _ _ ok1 b fun σ2 s2 ok2 => q σ2 (s1.trans s2) ok2⟩
theorem eg_tup {ts : List Nat} {n : Nat} {gs : TGs} {ds : List D} (h : EvGs K gs ts env ds env') (hn : ds.length = n) : EvG K (gTup K n gs) ts env (.tuple ds) env' := fun G0 H0 G H σ v Nx ok hv q => by
  obtain ⟨a, xs, e, hs, hd⟩ := hv.tup_inv
  subst e
  exact ⟨a, xs, rfl, sqT_mono ok.gh hs, by rw [hd.len]; exact hn, h G0 H0 G H σ xs Nx ok hd q⟩

/-! ### what a for walks -/
/-- it draws the data ds, one after the other -/
structure Walks (K : PySem.W.Frag) (J : It) (G1 : Hp) (ds : List D) : Prop where
  stop : ∀ (G H : Hp), Same G1 G → Same G H → J.stop ds.length H
  go : ∀ (i : Nat) (d : D) (G H : Hp), ds[i]? = some d → Same G1 G → Same G H → J.go i H ∧ ∀ x H', J.yld i H x H' → ∃ G', Fw G H G' H' ∧ Dd K G' x d
def EvI (K : PySem.W.Frag) (wi : TI) (env : EnvD) (ds : List D) : Prop := ∀ (G0 H0 G H : Hp) (σ : L2.St), Ok K G0 H0 G H σ env → ∀ R : It → Hp → Prop, (∀ J G' H', Fw G H G' H' → Walks K J G' ds → R J H') → wi σ H R
theorem SqL.gh {G H : Hp} {a : Addr} {xs : List V} (gh : Same G H) (h : G a = some (.lst xs)) : SqL K H a xs := .inl (.inl (gh _ _ h))
theorem ei_list {tl : TE} {ds : List D} (h : EvD K tl env (.list ds)) : EvI K (iList K tl) env ds := fun G0 H0 G H σ ok R q =>
  h G0 H0 G H σ ok _ fun v G1 H1 a hv => by
    obtain ⟨p, xs, e, hs, hd⟩ := hv.lst_inv
    subst e
    refine ⟨p, rfl, ⟨xs, SqL.gh a.gh hs⟩, q _ G1 H1 a ⟨fun G2 H2 g1 g2 => ⟨xs, SqL.gh g2 (g1 _ _ hs), by rw [hd.len]; exact Nat.le_refl _⟩, fun i d G2 H2 hi g1 g2 => ?_⟩⟩
    obtain ⟨w, h1, h2⟩ := hd.get hi
    refine ⟨⟨xs, w, SqL.gh g2 (g1 _ _ hs), h1⟩, fun x H' hy => ?_⟩
    obtain ⟨e1, e2⟩ := hy
    have e3 := e2 xs (SqL.gh g2 (g1 _ _ hs))
    rw [h1] at e3
    cases e3
    rw [e1]
    exact ⟨G2, Fw.refl g2, h2.mono g1⟩
theorem ei_tup {tl : TE} {ds : List D} (h : EvD K tl env (.tuple ds)) : EvI K (iTup K tl) env ds := fun G0 H0 G H σ ok R q =>
  h G0 H0 G H σ ok _ fun v G1 H1 a hv => by
    obtain ⟨p, xs, e, hs, hd⟩ := hv.tup_inv
    subst e
    refine ⟨p, rfl, ⟨xs, sqT_mono a.gh hs⟩, q _ G1 H1 a ⟨fun G2 H2 g1 g2 => ⟨xs, sqT_mono g2 (sqT_mono g1 hs), by rw [hd.len]; exact Nat.le_refl _⟩, fun i d G2 H2 hi g1 g2 => ?_⟩⟩
    obtain ⟨w, h1, h2⟩ := hd.get hi
    refine ⟨⟨xs, w, sqT_mono g2 (sqT_mono g1 hs), h1⟩, fun x H' hy => ?_⟩
    obtain ⟨e1, e2⟩ := hy
    have e3 := e2 xs (sqT_mono g2 (sqT_mono g1 hs))
    rw [h1] at e3
    cases e3
    rw [e1]
    exact ⟨G2, Fw.refl g2, h2.mono g1⟩
/-- lo, lo + c, .. -/
def rngD (lo c : Int) (n : Nat) : List D := (List.range n).map fun (i : Nat) => .int (lo + (i : Int) * c)
theorem rngD_len (lo c : Int) (n : Nat) : (rngD lo c n).length = n := by unfold rngD; rw [List.length_map, List.length_range]
theorem rngD_get {lo c : Int} {n i : Nat} {d : D} (h : (rngD lo c n)[i]? = some d) : i < n ∧ d = .int (lo + (i : Int) * c) := by
  have hi : i < n := by
    have := (List.getElem?_eq_some_iff.mp h).1
    rwa [rngD_len] at this
  refine ⟨hi, ?_⟩
  unfold rngD at h
  rw [List.getElem?_map, List.getElem?_range hi] at h
  simpa using h.symm
theorem rngD_at {lo c : Int} {n i : Nat} (h : i < n) : (rngD lo c n)[i]? = some (.int (lo + (i : Int) * c)) := by
  unfold rngD
  rw [List.getElem?_map, List.getElem?_range h]
  rfl
theorem walks_r {lo : Int} {n : Nat} {G1 : Hp} : Walks K (Itr lo n) G1 (rngD lo 1 n) := by
  refine ⟨fun G H _ _ => ?_, fun i d G H hi _ gh => ?_⟩
  · rw [rngD_len]; exact Nat.le_refl _
  · obtain ⟨h1, h2⟩ := rngD_get hi
    refine ⟨h1, fun x H' hy => ?_⟩
    obtain ⟨e1, e2⟩ := hy
    rw [e1, e2, h2, Int.mul_one]
    exact ⟨G, Fw.refl gh, .int _⟩
theorem walks_c {lo c : Int} {n : Nat} {G1 : Hp} : Walks K (Itc lo c n) G1 (rngD lo c n) := by
  refine ⟨fun G H _ _ => ?_, fun i d G H hi _ gh => ?_⟩
  · rw [rngD_len]; exact Nat.le_refl _
  · obtain ⟨h1, h2⟩ := rngD_get hi
    refine ⟨h1, fun x H' hy => ?_⟩
    obtain ⟨e1, e2⟩ := hy
    rw [e1, e2, h2]
    exact ⟨G, Fw.refl gh, .int _⟩
theorem ei_rng1 {ta : TE} {j : Int} (h : EvD K ta env (.int j)) (hb : -(2 ^ 62) ≤ j ∧ j < 2 ^ 62) : EvI K (iRng1 (tCons ta tNil)) env (rngD 0 1 j.toNat) := fun G0 H0 G H σ ok R q =>
  h G0 H0 G H σ ok _ fun v G1 H1 a hv => ⟨j, by rw [hv.int_inv], hb.1, hb.2, q _ G1 H1 a walks_r⟩
theorem ei_rng2 {ta tb : TE} {i j : Int} (h : EvD K ta env (.int i)) (h' : EvD K tb env (.int j)) (hb : -(2 ^ 62) ≤ i ∧ i < 2 ^ 62 ∧ -(2 ^ 62) ≤ j ∧ j < 2 ^ 62) : EvI K (iRng2 (tCons ta (tCons tb tNil))) env (rngD i 1 (j - i).toNat) := fun G0 H0 G H σ ok R q =>
  h G0 H0 G H σ ok _ fun v G1 H1 a hv => h' G0 H0 G1 H1 σ (ok.go a) _ fun u G2 H2 a2 hu => ⟨i, j, by rw [hv.int_inv, hu.int_inv], hb, q _ G2 H2 (a.trans a2) walks_r⟩
theorem ei_rng3 {ta tb tc : TE} {i j c : Int} {n : Nat} (h : EvD K ta env (.int i)) (h' : EvD K tb env (.int j)) (h'' : EvD K tc env (.int c)) (hb : RgC i j c n) : EvI K (iRng3 (tCons ta (tCons tb (tCons tc tNil)))) env (rngD i c n) := fun G0 H0 G H σ ok R q =>
  h G0 H0 G H σ ok _ fun v G1 H1 a hv => h' G0 H0 G1 H1 σ (ok.go a) _ fun u G2 H2 a2 hu => h'' G0 H0 G2 H2 σ ((ok.go a).go a2) _ fun w G3 H3 a3 hw => ⟨i, j, c, n, by rw [hv.int_inv, hu.int_inv, hw.int_inv], hb, q _ G3 H3 ((a.trans a2).trans a3) walks_c⟩
end DL

namespace DL
open PySem L2
variable {K : PySem.W.Frag} {E : XK} {env env' e1 e2 : EnvD}

/-! ### statements -/
inductive RD
  | nx (env : EnvD)
  | rt (d : D)
  | rn (ds : List D)
  | ex (cls : Value)
  | bk (env : EnvD)
  | ct (env : EnvD)
  | rm (v : V) (t : T) (d : D)
def Post (K : PySem.W.Frag) (E : XK) (G0 H0 : Hp) (D : Ends) : RD → Prop
  | .nx e => ∀ G H σ, Ok K G0 H0 G H σ e → D.nx σ H
  | .bk e => ∀ G H σ, Ok K G0 H0 G H σ e → D.bk σ H
  | .ct e => ∀ G H σ, Ok K G0 H0 G H σ e → D.ct σ H
  | .rt d => ∀ v G H, Fw G0 H0 G H → Dd K G v d → D.rt v H
  | .rn ds => ∀ p xs G H, Fw G0 H0 G H → H0 p = none → G p = none → H p = some (.lst xs) → Dds K G xs ds → D.rt (.ref p) H
  | .ex c => ∀ G H, Fw G0 H0 G H → E c none H
  | .rm v t d => ∀ u G H fp, Fw G0 H0 G H → Dd K G u d → Tr K G H v t fp → (∀ x ∈ fp, H0 x = none) → D.rt u H
def Run (K : PySem.W.Frag) (E : XK) (ts : TS) (env : EnvD) (r : RD) : Prop := ∀ (G0 H0 G H : Hp) (σ : L2.St) (D : Ends), Ok K G0 H0 G H σ env → Post K E G0 H0 D r → ts D σ H
section
variable {t u : TS} {te : TE} {r : RD} {tc : TT}
theorem run_seq (h : Run K E t env (.nx e1)) (h' : Run K E u e1 r) : Run K E (tSeq t u) env r := fun G0 H0 G H σ D ok q => h G0 H0 G H σ _ ok fun G1 H1 σ1 ok1 => h' G0 H0 G1 H1 σ1 D ok1 q
theorem run_seqX (h : Run K E t env r) (hr : ∀ e, r ≠ .nx e) : Run K E (tSeq t u) env r := fun G0 H0 G H σ D ok q => h G0 H0 G H σ _ ok (by
  cases r with
  | nx e => exact absurd rfl (hr e)
  | rt d => exact q
  | rn d => exact q
  | ex d => exact q
  | bk d => exact q
  | ct d => exact q
  | rm _ _ _ => exact q)
theorem run_seqR {d : D} (h : Run K E t env (.rt d)) : Run K E (tSeq t u) env (.rt d) := run_seqX h fun _ z => nomatch z
theorem run_seqN {d : List D} (h : Run K E t env (.rn d)) : Run K E (tSeq t u) env (.rn d) := run_seqX h fun _ z => nomatch z
theorem run_seqE {c : Value} (h : Run K E t env (.ex c)) : Run K E (tSeq t u) env (.ex c) := run_seqX h fun _ z => nomatch z
theorem run_next : Run K E tNext env (.nx env) := fun G0 H0 G H σ D ok q => q G H σ ok
theorem run_break : Run K E tBreak env (.bk env) := fun G0 H0 G H σ D ok q => q G H σ ok
theorem run_cont : Run K E tCont env (.ct env) := fun G0 H0 G H σ D ok q => q G H σ ok
theorem run_set {i : Nat} {d : D} (h : EvD K te env d) : Run K E (tAsg te (gName i)) env (.nx (env.set i (.dat d))) := fun G0 H0 G H σ D ok q =>
  h G0 H0 G H σ ok _ fun v G1 H1 a hv => q G1 H1 _ ((ok.go a).set i rfl ⟨v, rfl, hv⟩)
theorem free0 {G H G' H' : Hp} {p : Addr} (a : Fw G H G' H') (h : H' p = none) : H p = none := a.hh.free h
theorem run_setN {i : Nat} {ds : List D} (h : EvN K te env ds) : Run K E (tAsg te (gName i)) env (.nx (env.set i (.ml ds))) := fun G0 H0 G H σ D ok q =>
  h G0 H0 G H σ ok _ fun p xs G1 H1 a hp g1 h1 hd => q G1 H1 _ (ok.setTree a i (Tr.of_ml g1 h1 hd) fun x hx => by rw [List.mem_singleton.mp hx]; exact hp)
theorem run_asg {g : TG} {ts : List Nat} {d : D} (h : EvD K te env d) (hg : EvG K g ts env d e1) : Run K E (tAsg te g) env (.nx e1) := fun G0 H0 G H σ D ok q =>
  h G0 H0 G H σ ok _ fun v G1 H1 a hv => hg G0 H0 G1 H1 σ v _ (ok.go a) hv fun σ' _ ok' => q G1 H1 σ' ok'
theorem run_ret {d : D} (h : EvD K te env d) : Run K E (tRet te) env (.rt d) := fun G0 H0 G H σ D ok q =>
  h G0 H0 G H σ ok _ fun v G1 H1 a hv => q v G1 H1 (ok.fw.trans a) hv
theorem run_retN {ds : List D} (h : EvN K te env ds) : Run K E (tRet te) env (.rn ds) := fun G0 H0 G H σ D ok q =>
  h G0 H0 G H σ ok _ fun p xs G1 H1 a hp g1 h1 hd => q p xs G1 H1 (ok.fw.trans a) (free0 ok.fw hp) g1 h1 hd
/-- a hidden list is handed back -/
theorem run_retM (i : Nat) {ds : List D} (h : env[i]? = some (.ml ds) := by rfl) : Run K E (tRet (tVar i)) env (.rn ds) := fun G0 H0 G H σ D ok q => by
  obtain ⟨v, fp, h1, _, h2, h3, _⟩ := ok.tree (Fw.refl ok.gh) (t := .l (ds.map T.d)) h
  obtain ⟨l, xs, e, e2, g, hl, hd⟩ := h2.ml
  subst e; subst e2
  exact ⟨_, h1, q l xs G H ok.fw (h3 l (by simp)).1 g hl hd⟩
theorem run_retNone : Run K E tRetN env (.rt .none) := fun G0 H0 G H σ D ok q => q _ G H ok.fw .non
theorem run_if {b : Bool} (h : EvT K tc env b) (h1 : b = true → Run K E t env r) (h2 : b = false → Run K E u env r) : Run K E (tIfS tc t u) env r := fun G0 H0 G H σ D ok q => h G0 H0 G H σ ok _ fun G1 H1 a => by
  cases b with
  | true => exact iteT (h1 rfl G0 H0 G1 H1 σ D (ok.go a) q)
  | false => exact iteF (h2 rfl G0 H0 G1 H1 σ D (ok.go a) q)
theorem run_drop {s : SD} (h : EvV K te env s) : Run K E (tDrop te) env (.nx env) := fun G0 H0 G H σ D ok q => h G0 H0 G H σ ok _ fun v G1 H1 a _ => q G1 H1 σ (ok.go a)
theorem run_is {r' : RD} (h : Run K E t env r) (e : r = r') : Run K E t env r' := e ▸ h
/-- a hidden list is published ahead of a statement -/
theorem run_pub (i : Nat) {ds : List D} (hi : env[i]? = some (.ml ds)) (h : Run K E t (env.set i (.dat (.list ds))) r) : Run K E t env r := fun G0 H0 G H σ D ok q => by
  obtain ⟨G', ok'⟩ := ok.publish hi
  exact h G0 H0 G' H σ D ok' q
/-- xs.append(e) -/
theorem run_append {i : Nat} {ds : List D} {d : D} (hi : env[i]? = some (.ml ds)) (h : EvD K te env d) (hl : ds.length < 10000000) : Run K E (tDrop (tBM K "list" rAppend (tVar i) (tCons te tNil))) env (.nx (env.set i (.ml (ds ++ [d])))) := fun G0 H0 G H σ D ok q => by
  obtain ⟨o, h1, l, xs, e, g, hl0, hd⟩ := ok.slM i hi
  subst e
  refine ⟨_, h1, .inl ⟨rfl, xs, SqL.of hl0⟩, h G0 H0 G H σ ok _ fun v G1 H1 a hv => ⟨l, xs, v, rfl, rfl, a.hh _ _ hl0, ?_, ?_⟩⟩
  · rw [hd.len, sizeLine_eq]; omega
  · have g1 : G1 l = none := a.fr l (by rw [hl0]; simp) g
    exact q G1 _ σ ((ok.go a).writeM hi h1 ((hd.mono a.gg).append (.cons hv .nil)))
end

/-! ### less said of the slots -/
inductive Less : EnvD → EnvD → Prop
  | nil : Less [] []
  | un {s : SD} {a b : EnvD} : Less a b → Less (s :: a) (.un :: b)
  | eq {s : SD} {a b : EnvD} : Less a b → Less (s :: a) (s :: b)
theorem Less.refl : ∀ e : EnvD, Less e e
  | [] => .nil
  | _ :: e => .eq (Less.refl e)
theorem Less.get : ∀ {a b : EnvD}, Less a b → ∀ (i : Nat) (s : SD), b[i]? = some s → s = .un ∧ i < a.length ∨ a[i]? = some s
  | _, _, .nil, i, s, h => by simp at h
  | _, _, .un l, 0, s, h => by simp at h; exact .inl ⟨h.symm, by simp⟩
  | _, _, .un l, i + 1, s, h => by
    rcases l.get i s (by simpa using h) with ⟨e, hi⟩ | e
    · exact .inl ⟨e, by simpa using hi⟩
    · exact .inr (by simpa using e)
  | _, _, .eq l, 0, s, h => by simp at h; exact .inr (by simp [h])
  | _, _, .eq l, i + 1, s, h => by
    rcases l.get i s (by simpa using h) with ⟨e, hi⟩ | e
    · exact .inl ⟨e, by simpa using hi⟩
    · exact .inr (by simpa using e)
theorem Less.len : ∀ {a b : EnvD}, Less a b → a.length = b.length
  | _, _, .nil => rfl
  | _, _, .un l => congrArg (· + 1) l.len
  | _, _, .eq l => congrArg (· + 1) l.len
open Classical in
theorem Ok.less {G0 H0 G H : Hp} {σ : L2.St} (ok : Ok K G0 H0 G H σ env) (l : Less env env') : Ok K G0 H0 G H σ env' := by
  obtain ⟨F, hs⟩ := ok.ex
  have sub : ∀ j a, a ∈ (if env'[j]? = some .un then [] else F j) → a ∈ F j := fun j a ha => by
    by_cases e : env'[j]? = some .un
    · rw [if_pos e] at ha; cases ha
    · rw [if_neg e] at ha; exact ha
  refine ⟨ok.gh, ok.fw, ok.len.trans l.len, fun j => if env'[j]? = some .un then [] else F j, fun i s hi => ?_, fun j a ha => hs.fresh j a (sub j a ha), fun j k a hjk ha hb => hs.apart j k a hjk (sub j a ha) (sub k a hb), fun j a ha => hs.inn j a (sub j a ha)⟩
  by_cases e : s = .un
  · subst e
    rw [if_pos hi]
    have hl : i < env'.length := (List.getElem?_eq_some_iff.mp hi).1
    have : i < σ.length := by rw [ok.len, l.len]; exact hl
    exact ⟨σ[i], List.getElem?_eq_getElem this, rfl, trivial⟩
  · rw [if_neg (fun z => e (Option.some.inj (hi.symm.trans z)))]
    rcases l.get i s hi with ⟨e2, _⟩ | e2
    · exact absurd e2 e
    · exact hs.sl i s e2
theorem run_less {t : TS} (h : Run K E t env (.nx e1)) (l : Less e1 e2) : Run K E t env (.nx e2) := fun G0 H0 G H σ D ok q => h G0 H0 G H σ D ok fun G1 H1 σ1 ok1 => q G1 H1 σ1 (ok1.less l)
theorem run_more {t : TS} {r : RD} (l : Less env e1) (h : Run K E t e1 r) : Run K E t env r := fun G0 H0 G H σ D ok q => h G0 H0 G H σ D (ok.less l) q

/-! ### for -/
theorem Fw.base {G0 H0 G1 H1 G H : Hp} (a : Fw G0 H0 G1 H1) (b : Fw G1 H0 G H) : Fw G0 H0 G H := ⟨a.gg.trans b.gg, b.gh, b.hh, fun l hl gl => b.fr l hl (a.fr l hl gl)⟩
theorem Ok.rebase {G0 H0 G H : Hp} {σ : L2.St} (ok : Ok K G0 H0 G H σ env) : Ok K G H0 G H σ env := ⟨ok.gh, ⟨Same.refl _, ok.gh, ok.fw.hh, fun _ _ h => h⟩, ok.len, ok.ex⟩
theorem Ok.unbase {G0 H0 G1 H1 G H : Hp} {σ : L2.St} (a : Fw G0 H0 G1 H1) (ok : Ok K G1 H0 G H σ env) : Ok K G0 H0 G H σ env := ⟨ok.gh, a.base ok.fw, ok.len, ok.ex⟩
theorem Post.base {G0 H0 G1 H1 : Hp} {D : Ends} {r : RD} (a : Fw G0 H0 G1 H1) (q : Post K E G0 H0 D r) : Post K E G1 H0 D r := by
  cases r with
  | nx e => exact fun G H σ ok => q G H σ (ok.unbase a)
  | bk e => exact fun G H σ ok => q G H σ (ok.unbase a)
  | ct e => exact fun G H σ ok => q G H σ (ok.unbase a)
  | rt d => exact fun v G H f hv => q v G H (a.base f) hv
  | rn ds => exact fun p xs G H f => q p xs G H (a.base f)
  | ex c => exact fun G H f => q G H (a.base f)
  | rm v t d => exact fun u G H fp f => q u G H fp (a.base f)
/-- what a turn leaves: the next turn's slots -/
def Turn1 (K : PySem.W.Frag) (E : XK) (tb : TS) (env e' : EnvD) : Prop := Run K E tb env (.nx e') ∨ Run K E tb env (.ct e')
theorem Turn1.n {tb : TS} (h : Run K E tb env (.nx e1)) (l : Less e1 e2) : Turn1 K E tb env e2 := .inl (run_less h l)
/-- n turns go on, then the loop ends (n is all), or the turn n leaves it -/
theorem run_forX {wi : TI} {g : TG} {tb : TS} {ts : List Nat} {ds : List D} {r : RD} (Es : Nat → EnvD) (n : Nat) (hi : EvI K wi env ds) (h0 : Less env (Es 0))
    (ht : ∀ (i : Nat) (d : D), i < n → ds[i]? = some d → ∃ em, EvG K g ts (Es i) d em ∧ Turn1 K E tb em (Es (i + 1)))
    (he : (n = ds.length ∧ r = .nx (Es n)) ∨ (∃ d em, ds[n]? = some d ∧ EvG K g ts (Es n) d em ∧ ((Run K E tb em r ∧ (∀ e, r ≠ .nx e) ∧ (∀ e, r ≠ .ct e) ∧ (∀ e, r ≠ .bk e)) ∨ ∃ e, r = .nx e ∧ Run K E tb em (.bk e)))) :
    Run K E (tFor wi g tb) env r := fun G0 H0 G H σ D ok q =>
  hi G0 H0 G H σ ok _ fun J G1 H1 a wk => by
    have hn : n ≤ ds.length := by
      rcases he with ⟨e, _⟩ | ⟨d, em, h, _⟩
      · omega
      · have := (List.getElem?_eq_some_iff.mp h).1; omega
    refine ⟨fun i m σ2 H2 => i + m = n ∧ ∃ G2, Same G1 G2 ∧ Ok K G0 H0 G2 H2 σ2 (Es i), ⟨n, Nat.zero_add _, G1, Same.refl _, (ok.go a).less h0⟩, ?_⟩
    rintro i m σ2 H2 ⟨him, G2, g2, ok2⟩
    by_cases hlt : i < n
    · have hd := List.getElem?_eq_getElem (show i < ds.length by omega)
      obtain ⟨hgo, hy⟩ := wk.go i _ G2 H2 hd g2 ok2.gh
      refine .inr ⟨hgo, fun σ' H' => ∃ G3, Same G1 G3 ∧ Ok K G0 H0 G3 H' σ' (Es (i + 1)), fun σ' H' hN => ⟨m - 1, by omega, by omega, hN⟩, fun x H3 hx => ?_⟩
      obtain ⟨G3, a3, hx3⟩ := hy x H3 hx
      obtain ⟨em, hg, htb⟩ := ht i _ hlt hd
      refine hg G0 H0 G3 H3 σ2 x _ (ok2.go a3) hx3 fun σ3 _ ok3 => ?_
      have g13 : Same G1 G3 := g2.trans a3.gg
      rcases htb with htb | htb
      · exact htb G3 H0 G3 H3 σ3 _ ok3.rebase fun G4 H4 σ4 ok4 => ⟨G4, g13.trans ok4.fw.gg, ok4.unbase ok3.fw⟩
      · exact htb G3 H0 G3 H3 σ3 _ ok3.rebase fun G4 H4 σ4 ok4 => ⟨G4, g13.trans ok4.fw.gg, ok4.unbase ok3.fw⟩
    · have e : i = n := by omega
      subst e
      rcases he with ⟨e, er⟩ | ⟨d, em, hd, hg, hr⟩
      · subst e
        subst er
        exact .inl ⟨wk.stop G2 H2 g2 ok2.gh, q G2 H2 σ2 ok2⟩
      · obtain ⟨hgo, hy⟩ := wk.go i d G2 H2 hd g2 ok2.gh
        refine .inr ⟨hgo, fun _ _ => False, fun _ _ z => z.elim, fun x H3 hx => ?_⟩
        obtain ⟨G3, a3, hx3⟩ := hy x H3 hx
        refine hg G0 H0 G3 H3 σ2 x _ (ok2.go a3) hx3 fun σ3 _ ok3 => ?_
        rcases hr with ⟨hr, r1, r2, r3⟩ | ⟨e, er, hr⟩
        · refine hr G0 H0 G3 H3 σ3 _ ok3 ?_
          cases r with
          | nx e => exact absurd rfl (r1 e)
          | ct e => exact absurd rfl (r2 e)
          | bk e => exact absurd rfl (r3 e)
          | rt d => exact q
          | rn d => exact q
          | ex d => exact q
          | rm _ _ _ => exact q
        · subst er
          exact hr G0 H0 G3 H3 σ3 _ ok3 q
theorem run_for {wi : TI} {g : TG} {tb : TS} {ts : List Nat} {ds : List D} (Es : Nat → EnvD) (hi : EvI K wi env ds) (h0 : Less env (Es 0))
    (ht : ∀ (i : Nat) (d : D), i < ds.length → ds[i]? = some d → ∃ em, EvG K g ts (Es i) d em ∧ Turn1 K E tb em (Es (i + 1))) : Run K E (tFor wi g tb) env (.nx (Es ds.length)) :=
  run_forX Es ds.length hi h0 ht (.inl ⟨rfl, rfl⟩)
/-- the turn n hands back d -/
theorem run_forR {wi : TI} {g : TG} {tb : TS} {ts : List Nat} {ds : List D} {z : D} (Es : Nat → EnvD) (n : Nat) (hi : EvI K wi env ds) (h0 : Less env (Es 0))
    (ht : ∀ (i : Nat) (d : D), i < n → ds[i]? = some d → ∃ em, EvG K g ts (Es i) d em ∧ Turn1 K E tb em (Es (i + 1)))
    {d : D} {em : EnvD} (hd : ds[n]? = some d) (hg : EvG K g ts (Es n) d em) (hr : Run K E tb em (.rt z)) : Run K E (tFor wi g tb) env (.rt z) :=
  run_forX Es n hi h0 ht (.inr ⟨d, em, hd, hg, .inl ⟨hr, (by intro _ z; cases z), (by intro _ z; cases z), (by intro _ z; cases z)⟩⟩)

/-! ### comprehensions -/
def wipeD (env : EnvD) : List Nat → EnvD
  | [] => env
  | v :: vs => (wipeD env vs).set v .un
theorem Ok.unset {G0 H0 G H : Hp} {σ : L2.St} (ok : Ok K G0 H0 G H σ env) (i : Nat) : Ok K G0 H0 G H (σ.set i none) (env.set i .un) := by
  obtain ⟨F, hs⟩ := ok.ex
  have sub : ∀ j a, a ∈ (if j = i then [] else F j) → a ∈ F j := fun j a ha => by
    by_cases e : j = i
    · rw [if_pos e] at ha; cases ha
    · rw [if_neg e] at ha; exact ha
  refine ⟨ok.gh, ok.fw, by rw [List.length_set, List.length_set]; exact ok.len, fun j => if j = i then [] else F j, fun j t ht => ?_, fun j a ha => hs.fresh j a (sub j a ha), fun j k a hjk ha hb => hs.apart j k a hjk (sub j a ha) (sub k a hb), fun j a ha => hs.inn j a (sub j a ha)⟩
  rcases get_set ht with ⟨e, hj, e2⟩ | ⟨e, h2⟩
  · subst e2
    subst e
    refine ⟨none, by rw [List.getElem?_set_self (by rw [ok.len]; exact hj)], ?_⟩
    rw [if_pos rfl]
    exact ⟨rfl, trivial⟩
  · rw [if_neg (Ne.symm e)]
    obtain ⟨o, h3, h4⟩ := hs.sl j t h2
    exact ⟨o, by rw [List.getElem?_set_ne e]; exact h3, h4⟩
theorem Ok.wipe {G0 H0 G H : Hp} {σ : L2.St} (ok : Ok K G0 H0 G H σ env) : ∀ vs : List Nat, Ok K G0 H0 G H (L2.wipe σ vs) (wipeD env vs)
  | [] => ok
  | v :: vs => (Ok.wipe ok vs).unset v
theorem wipe_get (σ : L2.St) : ∀ (vs : List Nat) (i : Nat), (L2.wipe σ vs)[i]? = if i ∈ vs then (if i < σ.length then some none else none) else σ[i]?
  | [], i => by simp [L2.wipe]
  | v :: vs, i => by
    show ((L2.wipe σ vs).set v none)[i]? = _
    by_cases e : v = i
    · subst e
      rw [if_pos (by simp)]
      by_cases hl : v < σ.length
      · rw [if_pos hl, List.getElem?_set_self (by rw [wipe_length]; exact hl)]
      · rw [if_neg hl, List.getElem?_eq_none (by rw [List.length_set, wipe_length]; omega)]
    · rw [List.getElem?_set_ne e, wipe_get σ vs i]
      have : (i ∈ v :: vs) ↔ (i ∈ vs) := by
        simp only [List.mem_cons]
        exact ⟨fun h => h.resolve_left (fun z => e z.symm), .inr⟩
      by_cases hm : i ∈ vs
      · rw [if_pos hm, if_pos (this.mpr hm)]
      · rw [if_neg hm, if_neg (fun z => hm (this.mp z))]
theorem wipe_sets {σ σ2 : L2.St} {vs ts : List Nat} (h : Sets ts (L2.wipe σ vs) σ2) (hs : ∀ i ∈ ts, i ∈ vs) : L2.wipe σ2 vs = L2.wipe σ vs := by
  have hl : σ2.length = σ.length := by rw [h.1, wipe_length]
  refine List.ext_getElem? fun i => ?_
  rw [wipe_get, wipe_get, hl]
  by_cases hm : i ∈ vs
  · rw [if_pos hm, if_pos hm]
  · rw [if_neg hm, if_neg hm, h.2 i (fun z => hm (hs i z)), wipe_get, if_neg hm]
/-- which items a comprehension keeps -/
inductive Lc (K : PySem.W.Frag) (g : TG) (ts : List Nat) (tt : TT) (te : TE) (env : EnvD) : List D → List D → Prop
  | nil : Lc K g ts tt te env [] []
  | keep {d z : D} {ds zs : List D} {em : EnvD} : EvG K g ts env d em → EvT K tt em true → EvD K te em z → Lc K g ts tt te env ds zs → Lc K g ts tt te env (d :: ds) (z :: zs)
  | skip {d : D} {ds zs : List D} {em : EnvD} : EvG K g ts env d em → EvT K tt em false → Lc K g ts tt te env ds zs → Lc K g ts tt te env (d :: ds) zs
theorem et_yes : EvT K tYes env true := fun _ _ G H σ ok Q q => q G H (Fw.refl ok.gh)
theorem Lc.le {g : TG} {ts : List Nat} {tt : TT} {te : TE} : ∀ {ds zs : List D}, Lc K g ts tt te env ds zs → zs.length ≤ ds.length
  | _, _, .nil => Nat.le_refl _
  | _, _, .keep _ _ _ l => Nat.succ_le_succ l.le
  | _, _, .skip _ _ l => Nat.le_succ_of_le l.le
/-- the turn i: what is left of ds from i on, what is left of zs from j on -/
theorem Lc.at {g : TG} {ts : List Nat} {tt : TT} {te : TE} : ∀ {ds zs : List D}, Lc K g ts tt te env ds zs → ∀ (i : Nat), i ≤ ds.length → ∃ j, j ≤ zs.length ∧ j ≤ i ∧ (i = ds.length → j = zs.length) ∧ Lc K g ts tt te env (ds.drop i) (zs.drop j) ∧ Lc K g ts tt te env (ds.take i) (zs.take j)
  | _, _, .nil, i, hi => ⟨0, Nat.le_refl _, Nat.zero_le _, fun _ => rfl, by simpa using Lc.nil, by simpa using Lc.nil⟩
  | d :: ds, z :: zs, .keep a b c l, 0, hi => ⟨0, Nat.zero_le _, Nat.le_refl _, fun e => by simp at e, .keep a b c l, .nil⟩
  | d :: ds, z :: zs, .keep a b c l, i + 1, hi => by
    obtain ⟨j, h1, h2, h3, h4, h5⟩ := l.at i (by simpa using hi)
    exact ⟨j + 1, by simpa using h1, by omega, fun e => by have := h3 (by simpa using e); simp [this], by simpa using h4, by simpa using Lc.keep a b c h5⟩
  | d :: ds, zs, .skip a b l, 0, hi => ⟨0, Nat.zero_le _, Nat.le_refl _, fun e => by simp at e, .skip a b l, by simpa using Lc.nil⟩
  | d :: ds, zs, .skip a b l, i + 1, hi => by
    obtain ⟨j, h1, h2, h3, h4, h5⟩ := l.at i (by simpa using hi)
    exact ⟨j, h1, by omega, fun e => h3 (by simpa using e), by simpa using h4, by simpa using Lc.skip a b h5⟩
theorem en_lc {wi : TI} {g : TG} {tt : TT} {te : TE} {vs ts : List Nat} {ds zs : List D} (hi : EvI K wi env ds) (hts : ∀ i ∈ ts, i ∈ vs) (hl : Lc K g ts tt te (wipeD env vs) ds zs) (hlen : ds.length ≤ 10000000) : EvN K (tLc wi g tt te vs) env zs := fun G0 H0 G H σ ok Q q =>
  hi G0 H0 G H σ ok _ fun J G1 H1 a wk Dl hD => by
    have hz := hl.le
    have fr1 : Fw G H G1 (upd H1 Dl (.lst [])) := a.trans (Fw.hid a.gh hD)
    have hDH : H Dl = none := a.hh.free hD
    -- turn i: j items so far
    refine ⟨fun i m H2 => i + m = ds.length ∧ ∃ (G2 : Hp) (j : Nat) (acc : List V), Same G1 G2 ∧ Fw G H G2 H2 ∧ G2 Dl = none ∧ H2 Dl = some (.lst acc) ∧ Dds K G2 acc (zs.take j) ∧ j ≤ i ∧ j ≤ zs.length ∧ (i = ds.length → j = zs.length) ∧ Lc K g ts tt te (wipeD env vs) (ds.drop i) (zs.drop j),
      ⟨ds.length, Nat.zero_add _, G1, 0, [], Same.refl _, fr1, a.gh.free hD, upd_same, .nil, Nat.le_refl _, Nat.zero_le _, fun e => by have := hz; omega, hl⟩, ?_⟩
    rintro i m H2 ⟨him, G2, j, acc, g12, f2, gD, hDl, hacc, hji, hjz, hend, hlc⟩
    by_cases hlt : i < ds.length
    · have hd := List.getElem?_eq_getElem hlt
      obtain ⟨hgo, hy⟩ := wk.go i _ G2 H2 hd g12 f2.gh
      refine .inr ⟨hgo, fun H' => ∃ (G3 : Hp) (j' : Nat) (acc' : List V), Same G1 G3 ∧ Fw G H G3 H' ∧ G3 Dl = none ∧ H' Dl = some (.lst acc') ∧ Dds K G3 acc' (zs.take j') ∧ j' ≤ i + 1 ∧ j' ≤ zs.length ∧ (i + 1 = ds.length → j' = zs.length) ∧ Lc K g ts tt te (wipeD env vs) (ds.drop (i + 1)) (zs.drop j'), fun H' hN => ⟨m - 1, by omega, by omega, hN⟩, fun x H3 hx => ?_⟩
      obtain ⟨G3, a3, hx3⟩ := hy x H3 hx
      have ok3 : Ok K G0 H0 G3 H3 (L2.wipe σ vs) (wipeD env vs) := ((ok.go f2).go a3).wipe vs
      have e1 : ds.drop i = ds[i] :: ds.drop (i + 1) := List.drop_eq_getElem_cons hlt
      rw [e1] at hlc
      have hDne : H2 Dl ≠ none := by rw [hDl]; simp
      generalize hr1 : ds.drop (i + 1) = r1 at hlc ⊢
      generalize hr2 : zs.drop j = r2 at hlc
      have endLen : i + 1 = ds.length → r1 = [] := fun e => by rw [← hr1, e]; simp
      cases hlc with
      | keep hg ht he hl' =>
        refine hg G0 H0 G3 H3 _ x _ ok3 hx3 fun σ4 s4 ok4 => ⟨wipe_sets s4 hts, ht G0 H0 G3 H3 σ4 ok4 _ fun G5 H5 a5 => iteT (he G0 H0 G5 H5 σ4 (ok4.go a5) _ fun y G6 H6 a6 hy6 => ?_)⟩
        rename_i z zs'
        have hjz' : j < zs.length := by
          by_cases hh : j < zs.length
          · exact hh
          · rw [List.drop_eq_nil_of_le (by omega)] at hr2; cases hr2
        have ez : zs.drop j = zs[j] :: zs.drop (j + 1) := List.drop_eq_getElem_cons hjz'
        rw [ez] at hr2
        injection hr2 with hr2a hr2b
        have a36 : Fw G2 H2 G6 H6 := (a3.trans a5).trans a6
        have g6 : G6 Dl = none := a36.fr Dl hDne gD
        refine ⟨acc, a36.hh _ _ hDl, ?_, G6, j + 1, acc ++ [y], g12.trans a36.gg, ?_, g6, upd_same, ?_, by omega, by omega, fun e => ?_, ?_⟩
        · rw [hacc.len, List.length_take, sizeLine_eq]; omega
        · exact ⟨(f2.trans a36).gg, same_upd2 a36.gh g6, fun b o e => by rw [upd_ne (ne_of_none e hDH)]; exact (f2.trans a36).hh _ _ e, (f2.trans a36).fr⟩
        · rw [List.take_add_one, List.getElem?_eq_getElem hjz']
          refine (hacc.mono a36.gg).append ?_
          rw [hr2a]
          exact .cons hy6 .nil
        · have hl2 := hl'.le
          rw [endLen e] at hl2
          rw [← hr2b, List.length_drop] at hl2
          simp at hl2
          omega
        · rw [hr2b]; exact hl'
      | skip hg ht hl' =>
        refine hg G0 H0 G3 H3 _ x _ ok3 hx3 fun σ4 s4 ok4 => ⟨wipe_sets s4 hts, ht G0 H0 G3 H3 σ4 ok4 _ fun G5 H5 a5 => iteF ?_⟩
        have a36 : Fw G2 H2 G5 H5 := a3.trans a5
        refine ⟨G5, j, acc, g12.trans a36.gg, f2.trans a36, a36.fr Dl hDne gD, a36.hh _ _ hDl, hacc.mono a36.gg, by omega, hjz, fun e => ?_, ?_⟩
        · have hl2 := hl'.le
          rw [endLen e, ← hr2, List.length_drop] at hl2
          simp at hl2
          omega
        · rw [hr2]; exact hl'
    · have e : i = ds.length := by omega
      subst e
      have ej := hend rfl
      subst ej
      rw [List.take_length] at hacc
      exact .inl ⟨wk.stop G2 H2 g12 f2.gh, q Dl acc G2 H2 f2 hDH gD hDl hacc⟩
end DL

namespace DL
open PySem L2
variable {K : PySem.W.Frag} {E : XK} {env env' e1 e2 : EnvD}

/-! ### defs -/
theorem args_get {G H : Hp} : ∀ {vs : List V} {ss : List SD}, Args K G H vs ss → ∀ (i : Nat) (s : SD), ss[i]? = some s → s.isMut = false ∧ ∃ v, vs[i]? = some v ∧ SlOk K G H (some v) s
  | _, _, .nil, i, s, h => by simp at h
  | _, _, .cons m a r, 0, s, h => by simp at h; subst h; exact ⟨m, _, rfl, a⟩
  | _, _, .cons m a r, i + 1, s, h => by
    obtain ⟨m', v, h1, h2⟩ := args_get r i s (by simpa using h)
    exact ⟨m', v, by simpa using h1, h2⟩
/-- the slots at the entry -/
def envOf (N : List Str) (ss : List SD) : EnvD := ss ++ List.replicate (N.length - ss.length) .un
theorem ok_start {G H : Hp} {N : List Str} {vs : List V} {ss : List SD} (gh : Same G H) (h : Args K G H vs ss) : Ok K G H G H (L2.start N vs) (envOf N ss) := by
  have hl := h.len
  refine ⟨gh, Fw.refl gh, ?_, fun _ => [], fun i s hi => ?_, fun _ _ z => (by cases z), fun _ _ _ _ z => (by cases z), fun _ _ z => (by cases z)⟩
  · unfold L2.start envOf
    simp only [List.length_append, List.length_map, List.length_replicate]
    omega
  · unfold envOf at hi
    unfold L2.start
    by_cases hlt : i < ss.length
    · rw [List.getElem?_append_left hlt] at hi
      obtain ⟨hm, v, h1, h2⟩ := args_get h i s hi
      refine ⟨some v, ?_, SlF.of hm h2⟩
      rw [List.getElem?_append_left (by rw [List.length_map]; omega), List.getElem?_map, h1]
      rfl
    · rw [List.getElem?_append_right (by omega), List.getElem?_replicate] at hi
      split at hi
      · cases hi
        refine ⟨none, ?_, rfl, trivial⟩
        rw [List.getElem?_append_right (by rw [List.length_map]; omega), List.getElem?_replicate, List.length_map, if_pos (by omega)]
      · cases hi
section
variable {P : Program} {w : World} {mg : Str → Option Value} {base : Heap} {x qual : Str} {st : Stmt} {f : Addr} {fd : FuncData} {N ps : List Str} {k : Nat} {α : Type} {fs : α → List SD} {pre : α → Prop} {fv : α → D} {fl : α → List D} {fo : α → Option D} {C : Value}
abbrev cx0 (P : Program) (w : World) (K : PySem.W.Frag) (mg : Str → Option Value) (base : Heap) (N : List Str) (qual : Str) (st : Stmt) (f : Addr) (cdv : Value) (A : Around) (outer : List Env) (s : Shared) (H : Hp) (E : XK) : Cx := (cxOf CX0 P w K mg base N qual (defScope st) f cdv A outer s H E).nox
abbrev cxX (P : Program) (w : World) (K : PySem.W.Frag) (mg : Str → Option Value) (base : Heap) (N : List Str) (qual : Str) (st : Stmt) (f : Addr) (cdv : Value) (A : Around) (outer : List Env) (s : Shared) (H : Hp) (E : XK) : Cx := cxOf (L2.CX P w) P w K mg base N qual (defScope st) f cdv A outer s H E
/-- a def that hands back data -/
theorem fn_D (F : Fun K x qual st f fd) (S : FnScope N ps (defScope st)) (hn : ∀ a, (fs a).length = ps.length)
    (body : ∀ (cdv : Value) (A : Around) (outer : List Env) (s : Shared) (H : Hp) (E : XK), Room k (A.deeper (PyProof.Rows.envOfC qual (defScope st) s.heap.objs.size f cdv)) →
      ∃ t, PSs (cx0 P w K mg base N qual st f cdv A outer s H E) (defBody st) t ∧ ∀ a, pre a → Run K E t (envOf N (fs a)) (.rt (fv a))) : FnOk P w K mg base CX0 (k + 1) f fd ps (SpD K fs pre fv) := by
  refine F.ok S (fun vs H Q E h => ?_) (fun cdv A outer s H vs Q E hr h => ?_)
  · obtain ⟨a, G, gh, ha, _⟩ := h
    rw [ha.len, hn a]
  · obtain ⟨a, G, gh, ha, hp, q⟩ := h
    obtain ⟨t, h1, h2⟩ := body cdv A outer s H E hr
    exact ⟨t, h1, h2 a hp G H G H _ _ (ok_start gh ha) fun v G' H' fw hv => q v G' H' fw hv⟩
/-- a def that runs to its end: None -/
theorem fn_0 (F : Fun K x qual st f fd) (S : FnScope N ps (defScope st)) (hn : ∀ a, (fs a).length = ps.length)
    (body : ∀ (cdv : Value) (A : Around) (outer : List Env) (s : Shared) (H : Hp) (E : XK), Room k (A.deeper (PyProof.Rows.envOfC qual (defScope st) s.heap.objs.size f cdv)) →
      ∃ t, PSs (cx0 P w K mg base N qual st f cdv A outer s H E) (defBody st) t ∧ ∀ a, pre a → ∃ e, Run K E t (envOf N (fs a)) (.nx e)) : FnOk P w K mg base CX0 (k + 1) f fd ps (SpD K fs pre fun _ => .none) := by
  refine F.ok S (fun vs H Q E h => ?_) (fun cdv A outer s H vs Q E hr h => ?_)
  · obtain ⟨a, G, gh, ha, _⟩ := h
    rw [ha.len, hn a]
  · obtain ⟨a, G, gh, ha, hp, q⟩ := h
    obtain ⟨t, h1, h2⟩ := body cdv A outer s H E hr
    obtain ⟨e, h3⟩ := h2 a hp
    exact ⟨t, h1, h3 G H G H _ _ (ok_start gh ha) fun G' H' σ' ok' => q _ G' H' ok'.fw .non⟩
/-- a def that hands back a new list -/
theorem fn_N (F : Fun K x qual st f fd) (S : FnScope N ps (defScope st)) (hn : ∀ a, (fs a).length = ps.length)
    (body : ∀ (cdv : Value) (A : Around) (outer : List Env) (s : Shared) (H : Hp) (E : XK), Room k (A.deeper (PyProof.Rows.envOfC qual (defScope st) s.heap.objs.size f cdv)) →
      ∃ t, PSs (cx0 P w K mg base N qual st f cdv A outer s H E) (defBody st) t ∧ ∀ a, pre a → Run K E t (envOf N (fs a)) (.rn (fl a))) : FnOk P w K mg base CX0 (k + 1) f fd ps (SpN K fs pre fl) := by
  refine F.ok S (fun vs H Q E h => ?_) (fun cdv A outer s H vs Q E hr h => ?_)
  · obtain ⟨a, G, gh, ha, _⟩ := h
    rw [ha.len, hn a]
  · obtain ⟨a, G, gh, ha, hp, q⟩ := h
    obtain ⟨t, h1, h2⟩ := body cdv A outer s H E hr
    exact ⟨t, h1, h2 a hp G H G H _ _ (ok_start gh ha) fun p xs G' H' fw h0 g' h' hd => q p xs G' H' fw h0 g' h' hd⟩
/-- a def that hands back data or raises -/
theorem fn_X (F : Fun K x qual st f fd) (S : FnScope N ps (defScope st)) (hn : ∀ a, (fs a).length = ps.length)
    (body : ∀ (cdv : Value) (A : Around) (outer : List Env) (s : Shared) (H : Hp) (E : XK), Room k (A.deeper (PyProof.Rows.envOfC qual (defScope st) s.heap.objs.size f cdv)) →
      ∃ t, PSs (cxX P w K mg base N qual st f cdv A outer s H E) (defBody st) t ∧ ∀ a, pre a → (∀ d, fo a = some d → Run K E t (envOf N (fs a)) (.rt d) ∨ (d = .none ∧ ∃ e, Run K E t (envOf N (fs a)) (.nx e))) ∧ (fo a = none → Run K E t (envOf N (fs a)) (.ex C))) :
    FnOk P w K mg base (L2.CX P w) (k + 1) f fd ps (SpX K fs pre C fo) := by
  refine F.okX S (fun vs H Q E h => ?_) (fun cdv A outer s H vs Q E hr h => ?_)
  · obtain ⟨a, G, gh, ha, _⟩ := h
    rw [ha.len, hn a]
  · obtain ⟨a, G, gh, ha, hp, q1, q2⟩ := h
    obtain ⟨t, h1, h2⟩ := body cdv A outer s H E hr
    refine ⟨t, h1, ?_⟩
    obtain ⟨h3, h4⟩ := h2 a hp
    cases e : fo a with
    | none => exact h4 e G H G H _ _ (ok_start gh ha) fun G' H' fw => q2 e G' H' fw
    | some d =>
      rcases h3 d e with h5 | ⟨ed, en, h5⟩
      · exact h5 G H G H _ _ (ok_start gh ha) fun v G' H' fw hv => q1 d e v G' H' fw hv
      · subst ed
        exact h5 G H G H _ _ (ok_start gh ha) fun G' H' σ' ok' => q1 _ e _ G' H' ok'.fw .non
/-- a def that stands in the module's names -/
def Callee (P : Program) (w : World) (K : PySem.W.Frag) (mg : Str → Option Value) (base : Heap) (CX : CXT) (k : Nat) (x : Str) (ps : List Str) (sp : Sp) : Prop :=
  ∃ f fd, FnOk P w K mg base CX k f fd ps sp ∧ mg x = some (.ref f) ∧ PySem.W.keepIn K (.ref f) = true ∧ Binds K fd ps []
end
section
variable {X : Cx} {CX : CXT} {k : Nat} {ps : List Str} {sp : Sp} {x : Str} {p pos : Pos} {e : Expr} {es : List Expr} {t : TA}
theorem pe_c (C : Callee X.prog X.w X.K X.mg X.base CX k x ps sp) (hr : Room k X.A) (hx : Passes CX X E) (ha : PA X (e :: es) t) (hg : Gl X x := by rfl)
    (hdb : (x == ("__debug__" : Str)) = false := by decide) (he : starEach (e :: es) X.env = (false, eval e X.env) :: starEach es X.env := by rfl) (hpl : (backTo pos (starEach es X.env)).any (·.1) = false := by rfl) :
    PE X (.Call (.Name x p) (e :: es) [] pos) (tCall sp [] E t) := by
  obtain ⟨f, fd, F, m, kp, b⟩ := C
  exact pe_call F hr hg m kp b .nil hx ha hdb he hpl
end
/-- // by any divisor but 0, below 2 ^ 9000 -/
def CDivZ (_ j : Int) : Prop := j ≠ 0 ∧ j.natAbs.log2 < 9000
theorem op_fdivZ {X : Cx} : OpR X (binaryOp .FloorDiv) (rI CDivZ fun i j => .int (i.fdiv j)) := opI fun i j _ _ _ _ _ hc q =>
  PyProof.Rows.floordiv_int hc.1 q (.inl (PyProof.noPylong_of_log2 hc.2))
end DL

namespace DL
open PySem L2
variable {K : PySem.W.Frag} {E : XK} {env env' e1 e2 : EnvD}
/-! ### lists, published or not -/
def EvL (K : PySem.W.Frag) (te : TE) (env : EnvD) (ds : List D) : Prop := ∀ (G0 H0 G H : Hp) (σ : L2.St), Ok K G0 H0 G H σ env → ∀ Q : VK, (∀ p xs G' H', Fw G H G' H' → H' p = some (.lst xs) → Dds K G' xs ds → Q (.ref p) H') → te σ H Q
theorem EvD.l {te : TE} {ds : List D} (h : EvD K te env (.list ds)) : EvL K te env ds := fun G0 H0 G H σ ok Q q => h G0 H0 G H σ ok _ fun v G1 H1 a hv => by
  obtain ⟨p, xs, e, hs, hd⟩ := hv.lst_inv
  subst e
  exact q p xs G1 H1 a (a.gh _ _ hs) hd
theorem EvN.l {te : TE} {ds : List D} (h : EvN K te env ds) : EvL K te env ds := fun G0 H0 G H σ ok Q q => h G0 H0 G H σ ok _ fun p xs G1 H1 a _ _ h1 hd => q p xs G1 H1 a h1 hd
theorem EvL.p {te : TE} {ds : List D} (h : EvL K te env ds) : EvP K te env (.list ds) := fun G0 H0 G H σ ok Q q => h G0 H0 G H σ ok _ fun p xs G1 H1 a h1 hd => q _ G1 H1 a (.lst h1 (hd.mono a.gh))
theorem el_var {ds : List D} (i : Nat) (h : env[i]? = some (.ml ds)) : EvL K (tVar i) env ds := fun G0 H0 G H σ ok Q q => by
  obtain ⟨o, h1, l, xs, e, g, hl, hd⟩ := ok.slM i h
  subst e
  exact ⟨_, h1, q _ xs G H (Fw.refl ok.gh) hl hd⟩
section
variable {ta tb tc te : TE} {ds es : List D} {i j : Int} {z : D}
theorem ed_ixl (ha : EvL K ta env ds) (hb : EvD K tb env (.int i)) (hz : atI ds i = some z) : EvD K (tOp (rIxL K) ta tb) env z := fun G0 H0 G H σ ok Q q =>
  ha G0 H0 G H σ ok _ fun p xs G1 H1 a h1 hd => hb G0 H0 G1 H1 σ (ok.go a) _ fun u G2 H2 a2 hu => by
    unfold atI at hz
    cases hk : ixN ds.length i with
    | none => rw [hk] at hz; cases hz
    | some k =>
      rw [hk] at hz
      obtain ⟨w, h3, h4⟩ := hd.get (i := k) (d := z) hz
      exact ⟨p, xs, i, w, rfl, hu.int_inv, .inl (.inl (a2.hh _ _ h1)), by unfold atI; rw [hd.len, hk]; exact h3, q w G2 H2 (a.trans a2) (h4.mono a2.gg)⟩
theorem ed_lenl (ha : EvL K ta env ds) : EvD K (tCB (fun xs H Q => ∃ p ys, xs = [.ref p] ∧ (SqL K H p ys ∨ SqT K H p ys) ∧ Q (.int ys.length) H) (tCons ta tNil)) env (.int ds.length) := ed_lenL ha.p
theorem en_cat (ha : EvL K ta env ds) (hb : EvL K tb env es) (hl : ds.length + es.length ≤ 1000000) : EvN K (tOp rCat ta tb) env (ds ++ es) := fun G0 H0 G H σ ok Q q =>
  ha G0 H0 G H σ ok _ fun p xs G1 H1 a h1 hd => hb G0 H0 G1 H1 σ (ok.go a) _ fun u ys G2 H2 a2 h2 he =>
    ⟨p, u, xs, ys, rfl, rfl, a2.hh _ _ h1, h2, by rw [hd.len, he.len, sizeLine_eq]; omega, fun r hr => q r _ G2 _ ((a.trans a2).trans (Fw.hid a2.gh hr)) ((a.trans a2).hh.free hr) (a2.gh.free hr) upd_same ((hd.mono a2.gg).append he)⟩
theorem Dds.rep {G : Hp} {xs : List V} (h : Dds K G xs ds) : ∀ n : Nat, Dds K G (List.replicate n xs).flatten (List.replicate n ds).flatten
  | 0 => .nil
  | n + 1 => by rw [List.replicate_succ, List.replicate_succ, List.flatten_cons, List.flatten_cons]; exact h.append (Dds.rep h n)
theorem en_rep (ha : EvL K ta env ds) (hb : EvD K tb env (.int i)) (hl : ds.length * i.toNat ≤ 1000000 ∧ -1000000 ≤ i ∧ i ≤ 1000000) : EvN K (tOp rRep ta tb) env (List.replicate i.toNat ds).flatten := fun G0 H0 G H σ ok Q q =>
  ha G0 H0 G H σ ok _ fun p xs G1 H1 a h1 hd => hb G0 H0 G1 H1 σ (ok.go a) _ fun u G2 H2 a2 hu =>
    ⟨p, i, xs, rfl, hu.int_inv, a2.hh _ _ h1, by omega, by omega, by rw [hd.len, sizeLine_eq]; omega, fun r hr => q r _ G2 _ ((a.trans a2).trans (Fw.hid a2.gh hr)) ((a.trans a2).hh.free hr) (a2.gh.free hr) upd_same ((hd.mono a2.gg).rep _)⟩
/-- slices -/
def EvO (K : PySem.W.Frag) (to : TO) (env : EnvD) (o : Option Int) : Prop := ∀ (G0 H0 G H : Hp) (σ : L2.St), Ok K G0 H0 G H σ env → ∀ Q : Option Int → Hp → Prop, (∀ G' H', Fw G H G' H' → Q o H') → to σ H Q
theorem eo_none : EvO K tNoPart env none := fun _ _ G H _ ok _ q => q G H (Fw.refl ok.gh)
theorem eo_some (h : EvD K ta env (.int i)) : EvO K (tPart ta) env (some i) := fun G0 H0 G H σ ok Q q => h G0 H0 G H σ ok _ fun v G1 H1 a hv => ⟨i, hv.int_inv, q G1 H1 a⟩
def cutD (xs : List D) (lo hi : Option Int) : List D := (xs.drop (HT.sIx xs.length 0 lo)).take (HT.sIx xs.length xs.length hi - HT.sIx xs.length 0 lo)
theorem en_slice {tl th : TO} {lo hi : Option Int} (ha : EvL K ta env ds) (hl : EvO K tl env lo) (hh : EvO K th env hi) : EvN K (tSl (rSlL K) ta tl th) env (cutD ds lo hi) := fun G0 H0 G H σ ok Q q =>
  ha G0 H0 G H σ ok _ fun p xs G1 H1 a h1 hd => hl G0 H0 G1 H1 σ (ok.go a) _ fun G2 H2 a2 => hh G0 H0 G2 H2 σ ((ok.go a).go a2) _ fun G3 H3 a3 =>
    ⟨p, xs, rfl, .inl (.inl ((a2.trans a3).hh _ _ h1)), fun r hr => q r _ G3 _ (((a.trans a2).trans a3).trans (Fw.hid a3.gh hr)) (((a.trans a2).trans a3).hh.free hr) (a3.gh.free hr) upd_same (by
      unfold cutV cutD
      rw [hd.len]
      exact ((hd.mono (a2.trans a3).gg).drop _).take _)⟩
theorem ed_sum {ns : List Int} (ha : EvL K ta env (ns.map PyData.int)) : EvD K (tCB (rSum K) (tCons ta tNil)) env (.int ns.sum) := fun G0 H0 G H σ ok Q q =>
  ha G0 H0 G H σ ok _ fun p xs G1 H1 a h1 hd => ⟨p, ns, rfl, by rw [← hd.ints_inv]; exact SqL.of h1, q _ G1 H1 a (.int _)⟩
theorem ed_any {bs : List Bool} (ha : EvL K ta env (bs.map PyData.bool)) : EvD K (tCB (rAny K) (tCons ta tNil)) env (.bool (bs.any id)) := fun G0 H0 G H σ ok Q q =>
  ha G0 H0 G H σ ok _ fun p xs G1 H1 a h1 hd => ⟨p, bs, rfl, by rw [← hd.bls_inv]; exact SqL.of h1, q _ G1 H1 a (.bl _)⟩
/-- the script -/
theorem ev_scr {ns : List Int} (i : Nat) (h : env[i]? = some (.scr ns)) : EvV K (tVar i) env (.scr ns) := fun G0 H0 G H σ ok Q q => by
  obtain ⟨o, h1, a, e, hs⟩ := ok.sl i _ h
  subst e
  exact ⟨_, h1, q _ G H (Fw.refl ok.gh) ⟨a, rfl, hs⟩⟩
theorem ed_lenR {ns : List Int} (i : Nat) (h : env[i]? = some (.scr ns)) : EvD K (tCB (fun xs H Q => ∃ p ys, xs = [.ref p] ∧ (SqL K H p ys ∨ SqT K H p ys) ∧ Q (.int ys.length) H) (tCons (tVar i) tNil)) env (.int ns.length) := fun G0 H0 G H σ ok Q q =>
  ev_scr i h G0 H0 G H σ ok _ fun v G1 H1 a hv => by
    obtain ⟨p, e, hs⟩ := hv
    cases e
    refine ⟨p, _, rfl, .inl (a.gh.seq hs), ?_⟩
    rw [List.length_map]
    exact q _ G1 H1 a (.int _)
theorem ed_ixR {ns : List Int} {n : Int} (m : Nat) (h : env[m]? = some (.scr ns)) (hb : EvD K tb env (.int i)) (hz : atI ns i = some n) : EvD K (tOp (rIxL K) (tVar m) tb) env (.int n) := fun G0 H0 G H σ ok Q q =>
  ev_scr m h G0 H0 G H σ ok _ fun v G1 H1 a hv => by
    obtain ⟨p, e, hs⟩ := hv
    cases e
    refine hb G0 H0 G1 H1 σ (ok.go a) _ fun u G2 H2 a2 hu => ⟨p, _, i, .int n, rfl, hu.int_inv, (a.trans a2).gh.seq (a2.gg.seq hs) |> fun z => a2.gh.seq (a2.gg.seq hs), ?_, q _ G2 H2 (a.trans a2) (.int n)⟩
    unfold atI at hz ⊢
    rw [List.length_map]
    cases hk : ixN ns.length i with
    | none => rw [hk] at hz; cases hz
    | some k =>
      rw [hk] at hz
      show (ns.map V.int)[k]? = _
      rw [List.getElem?_map, show ns[k]? = some n from hz]
      rfl
/-- isinstance -/
def tyName : D → String
  | .none => "NoneType"
  | .bool _ => "bool"
  | .int _ => "int"
  | .str _ => "str"
  | .list _ => "list"
  | .tuple _ => "tuple"
  | .dict _ => "dict"
def isDictD : D → Bool
  | .dict _ => true
  | _ => false
theorem Dd.tyx {H : Hp} {v : V} {d : D} (h : Dd K H v d) (hn : isDictD d = false) : TyX K H v (.type (tyName d)) := by
  cases h with
  | dct _ _ _ => cases hn
  | dtt _ _ _ => cases hn
  | obj _ _ _ => cases hn
  | non => exact .base .non
  | bl b => exact .base (.bl b)
  | int i => exact .base (.int i)
  | str x => exact .base (.str x)
  | lst hs _ => exact .base (.lst hs)
  | tup hs _ =>
    rcases hs with (h | ⟨o, h⟩) | ⟨o, its, n, hk, hc, _⟩
    · exact .base (.tup h)
    · exact .fTuple h
    · exact .kTuple hk hc
theorem ed_isi {d : D} {T : String} {b : Bool} (h : EvP K ta env d) (hb : kitB (tyName d) T = some b) (hn : isDictD d = false := by rfl) : EvD K (tCB (rIsi K) (tCons ta (tCons (tC (.ty T)) tNil))) env (.bool b) := fun G0 H0 G H σ ok Q q =>
  h G0 H0 G H σ ok _ fun v G1 H1 a hv => ⟨v, .ty T, _, _, b, rfl, .ty T, hv.tyx hn, kit_ty hb, q _ G1 H1 a (.bl b)⟩
theorem ed_isN {d : D} (h : EvP K ta env d) : EvD K (tOp (fun x y H Q => y = .non ∧ Q (.bl (decide (x = .non))) H) ta (tC .non)) env (.bool (match d with | .none => true | _ => false)) := fun G0 H0 G H σ ok Q q =>
  h G0 H0 G H σ ok _ fun v G1 H1 a hv => ⟨rfl, by
    cases hv with
    | non => exact q _ G1 H1 a (.bl true)
    | bl b => exact q _ G1 H1 a (.bl false)
    | int b => exact q _ G1 H1 a (.bl false)
    | str b => exact q _ G1 H1 a (.bl false)
    | lst _ _ => exact q _ G1 H1 a (.bl false)
    | tup _ _ => exact q _ G1 H1 a (.bl false)
    | dct _ _ _ => exact q _ G1 H1 a (.bl false)
    | dtt _ _ _ => exact q _ G1 H1 a (.bl false)
    | obj _ _ _ => exact q _ G1 H1 a (.bl false)⟩
theorem ed_notN {d : D} (h : EvP K ta env d) : EvD K (tOp (fun x y H Q => y = .non ∧ Q (.bl (!decide (x = .non))) H) ta (tC .non)) env (.bool (match d with | .none => false | _ => true)) := fun G0 H0 G H σ ok Q q =>
  h G0 H0 G H σ ok _ fun v G1 H1 a hv => ⟨rfl, by
    cases hv with
    | non => exact q _ G1 H1 a (.bl false)
    | bl b => exact q _ G1 H1 a (.bl true)
    | int b => exact q _ G1 H1 a (.bl true)
    | str b => exact q _ G1 H1 a (.bl true)
    | lst _ _ => exact q _ G1 H1 a (.bl true)
    | tup _ _ => exact q _ G1 H1 a (.bl true)
    | dct _ _ _ => exact q _ G1 H1 a (.bl true)
    | dtt _ _ _ => exact q _ G1 H1 a (.bl true)
    | obj _ _ _ => exact q _ G1 H1 a (.bl true)⟩
end
/-! ### an if whose test is known -/
theorem run_ifF {tc : TT} {t u : TS} {r : RD} (h : EvT K tc env false) (h2 : Run K E u env r) : Run K E (tIfS tc t u) env r := run_if h (fun z => nomatch z) fun _ => h2
theorem run_ifT {tc : TT} {t u : TS} {r : RD} (h : EvT K tc env true) (h2 : Run K E t env r) : Run K E (tIfS tc t u) env r := run_if h (fun _ => h2) fun z => nomatch z
theorem et_orF {t1 t2 : TT} (h : EvT K t1 env false) (h2 : EvT K t2 env false) : EvT K (tOr t1 t2) env false := et_or h fun _ => h2
theorem et_andF {t1 t2 : TT} (h : EvT K t1 env false) : EvT K (tAnd t1 t2) env false := fun G0 H0 G H σ ok Q q => h G0 H0 G H σ ok _ fun G1 H1 a => iteF (q G1 H1 a)
theorem et_notT {t1 : TT} (h : EvT K t1 env true) : EvT K (tNot t1) env false := et_not h

/-! ### errors -/
/-- a class of errors of the program's own, as the written part has it -/
structure ErrC (K : PySem.W.Frag) (mg : Str → Option Value) (x : Str) (C : Addr) : Prop where
  g : mg x = some (.ref C)
  ex : PySem.W.excIn K C [.type "ValueError", .type "Exception", .type "BaseException", .type "object"] "ValueError.__new__" = true
  kp : PySem.W.keepIn K (.ref C) = true
  sub : PySem.W.subIn K (.ref C) (.type "BaseException") = some true
  ty : PySem.W.typeIn K (.ref C) = some (.type "type")
  own : ExcC K C
  self : PySem.W.subIn K (.ref C) (.ref C) = some true
theorem ErrC.exm {K : PySem.W.Frag} {mg : Str → Option Value} {x : Str} {C : Addr} (F : ErrC K mg x C) : PySem.W.exmOne K (.ref C) (.ref C) = some true := PySem.W.exm_ref F.sub F.own.hd F.ty F.self
theorem ps_err {X : Cx} {W : WX} {x m : Str} {C : Addr} {j : Nat} {p p2 pos pos2 : Pos} (hc : X.calm = true) (tk : Takes X W) (F : ErrC X.K X.mg x C) (hg : Gl X x) (hdb : (x == ("__debug__" : Str)) = false := by decide) :
    PS X (.Raise (some (.Call (.Name x p) [.Constant (.str m) j p2] [] pos)) none pos2) (fun _ σ H => W (.ref C) none σ H) :=
  ps_raise hc tk (pmk_own PySem.F.excBase_ValueError F.ex F.g F.kp (raises_own F.sub F.ty) hg hdb)
theorem run_err {C : Value} : Run K E (fun _ _ H => E C none H) env (.ex C) := fun G0 H0 G H σ D ok q => q G H ok.fw
/-- isinstance(e, T) of the error that a suite holds, its class cls -/
def rIsF (K : PySem.W.Frag) (C a : Addr) (cls : Value) (d : Option Addr) : List V → Hp → VK → Prop := fun xs H Q => cls = .ref C ∧ d = none ∧ rIsE K C a xs H Q
theorem call_isF {X : Cx} {a C : Addr} {oe : Obj} {cls : Value} {d : Option Addr} {pn : List (Addr × Obj)} (F : ExcC X.K C) (hz : Zc cls d oe) (hf : ∃ vs, oe.data = .fields vs) : CallR (X.suite a ((a, oe) :: pn)) (.builtin "isinstance") (rIsF X.K C a cls d) := by
  intro pins s σ H xs us Q I r h
  obtain ⟨e1, e2, h⟩ := h
  subst e1; subst e2
  exact call_isE F hz hf pins s σ H xs us Q I r h
theorem ed_isF {i : Nat} {a C : Addr} {c : V} {cv : Value} {b : Bool} (h : env[i]? = some (.raw (.ref a))) (hc : ∀ u, RelV c u → u = cv) (hk : PySem.W.kitOne K (.ref C) cv = some b) : EvD K (tCB (rIsF K C a (.ref C) none) (tCons (tVar i) (tCons (tC c) tNil))) env (.bool b) := fun G0 H0 G H σ ok Q q =>
  ev_raw i h G0 H0 G H σ ok _ fun v G1 H1 f hv => ⟨rfl, rfl, c, cv, b, by cases hv; rfl, hc, hk, q _ G1 H1 f (.bl b)⟩
def rIsFT (K : PySem.W.Frag) (C a : Addr) (cls : Value) (d : Option Addr) : List V → Hp → VK → Prop := fun xs H Q => cls = .ref C ∧ d = none ∧ ∃ (tp : Addr) (cs : List V) (us : List Value) (b : Bool), xs = [.ref a, .ref tp] ∧ H tp = some (.tup cs) ∧ Paired ClsV cs us ∧ PySem.W.kitAny K (.ref C) us = some b ∧ Q (.bl b) H
theorem call_isFT {X : Cx} {a C : Addr} {oe : Obj} {cls : Value} {d : Option Addr} {pn : List (Addr × Obj)} (F : ExcC X.K C) (hz : Zc cls d oe) (hf : ∃ vs, oe.data = .fields vs) : CallR (X.suite a ((a, oe) :: pn)) (.builtin "isinstance") (rIsFT X.K C a cls d) := by
  intro pins s σ H xs us Q I r h
  obtain ⟨e1, e2, tp, cs, ws, b, rfl, hT, hp, e, q⟩ := h
  subst e1; subst e2
  match us, r with
  | [u1, u2], .cons r1 (.cons r2 .nil) =>
    obtain rfl : u1 = Value.ref a := r1
    obtain rfl : u2 = Value.ref tp := r2
    have hobj := (I.pin (a, oe) (List.mem_append_left _ (List.mem_cons_self))).1
    obtain ⟨fv, hfv⟩ := hf
    have inst : PySem.W.InstAt s.heap a oe C none := by
      cases oe with
      | mk c d da sl =>
        cases hz.1; cases hz.2; cases hfv
        exact ⟨hobj, rfl, rfl, trivial⟩
    obtain ⟨_, its, rv, ot, ht1, ht2, nt, ht3⟩ : ObjOk X.prog X.w H s.heap tp (.tup cs) := I.hok tp _ hT
    cases ot with
    | mk tc td tda tsl =>
      cases ht2; cases ht3
      cases ClsV.all hp rv
      exact PySem.W.kia_tup (PySem.W.handS_kitx_exc F.hg F.hk F.hs F.hd F.ha F.hn F.ht F.hm) I.kIn inst ht1 e (fun z => Value.noConfusion z) fun tk => ⟨V.bl b, H, I.kept (t' := tk) (fun _ _ w => w), rfl, q⟩
theorem ed_isFT2 {i : Nat} {a C : Addr} {c1 c2 : V} {u1 u2 : Value} {b : Bool} (h : env[i]? = some (.raw (.ref a))) (h1 : ClsV c1 u1) (h2 : ClsV c2 u2) (hk : PySem.W.kitAny K (.ref C) [u1, u2] = some b) :
    EvD K (tCB (rIsFT K C a (.ref C) none) (tCons (tVar i) (tCons (tTup (tCons (tC c1) (tCons (tC c2) tNil))) tNil))) env (.bool b) := fun G0 H0 G H σ ok Q q =>
  ev_raw i h G0 H0 G H σ ok _ fun v G1 H1 f hv => ⟨by show 2 ≤ sizeLine; decide, fun p hp => ⟨rfl, rfl, p, [c1, c2], [u1, u2], b, by cases hv; rfl, upd_same, .cons h1 (.cons h2 .nil), hk, q _ _ _ (f.trans (Fw.new f.gh hp)) (.bl b)⟩⟩
section
variable {X : Cx} {CX : CXT} {k : Nat} {ps : List Str} {sp : Sp} {x : Str} {p pos : Pos} {e : Expr} {es : List Expr} {t : TA} {Es : L2.St → XK}
theorem pe_cS (C : Callee X.prog X.w X.K X.mg X.base CX k x ps sp) (hr : Room k X.A) (hx : ∀ σ, PassesAt CX X σ (Es σ)) (ha : PA X (e :: es) t) (hg : Gl X x := by rfl)
    (hdb : (x == ("__debug__" : Str)) = false := by decide) (he : starEach (e :: es) X.env = (false, eval e X.env) :: starEach es X.env := by rfl) (hpl : (backTo pos (starEach es X.env)).any (·.1) = false := by rfl) :
    PE X (.Call (.Name x p) (e :: es) [] pos) (tCallS sp Es t) := by
  obtain ⟨f, fd, F, m, kp, b⟩ := C
  exact pe_callS F hr hg m kp b hx ha hdb he hpl
end
section
variable {α : Type} {fs : α → List SD} {pre : α → Prop} {fo : α → Option D} {C c : Value} {t : TA} {ss : List SD} {i : Nat} {ts : Addr → Value → Option Addr → TS} {Wout : WX}
/-- try: f(..) .. except c as n: suite, f raises, the suite hands back d -/
theorem run_tryR {x : α} {d : D} (h : EvA K t env ss) (e : ss = fs x) (hp : pre x) (hn : fo x = none) (hm : PySem.W.exmOne K C c = some true) (hs : ∀ a, Run K E (ts a C none) (env.set i (.raw (.ref a))) (.rt d)) :
    Run K E (fun D σ H => tDrop (tCallS (SpX K fs pre C fo) (WE (wAs K c i ts Wout D)) t) D σ H) env (.rt d) := fun G0 H0 G H σ D ok q =>
  h G0 H0 G H σ ok _ fun vs G1 H1 a hv => ⟨x, G1, a.gh, by rw [← e]; exact hv, hp, fun z hz => (by rw [hn] at hz; cases hz), fun _ G2 H2 a2 => ⟨true, hm, fun _ b _ => hs b G0 H0 G2 H2 _ _ (((ok.go a).go a2).set i rfl rfl) q, fun z => nomatch z⟩⟩
/-- .. f does not raise -/
theorem run_tryN {x : α} {d : D} (h : EvA K t env ss) (e : ss = fs x) (hp : pre x) (hn : fo x = some d) :
    Run K E (fun D σ H => tDrop (tCallS (SpX K fs pre C fo) (WE (wAs K c i ts Wout D)) t) D σ H) env (.nx env) := fun G0 H0 G H σ D ok q =>
  h G0 H0 G H σ ok _ fun vs G1 H1 a hv => ⟨x, G1, a.gh, by rw [← e]; exact hv, hp, fun z hz v G2 H2 a2 _ => q G2 H2 σ ((ok.go a).go a2), fun z => by rw [hn] at z; cases z⟩
end
end DL
namespace DL
open PySem L2
variable {K : PySem.W.Frag} {E : XK} {env : EnvD}
section
variable {α : Type} {fs : α → List SD} {pre : α → Prop} {fo : α → Option D} {C : Value} {t : TA} {ss : List SD}
/-- return f(..), f raises -/
theorem run_retX {x : α} (h : EvA K t env ss) (e : ss = fs x) (hp : pre x) (hn : fo x = none) : Run K E (tRet (tCall (SpX K fs pre C fo) [] E t)) env (.ex C) := fun G0 H0 G H σ D ok q =>
  h G0 H0 G H σ ok _ fun vs G1 H1 a hv => ⟨x, G1, a.gh, by rw [List.append_nil, ← e]; exact hv, hp, fun z hz => (by rw [hn] at hz; cases hz), fun _ G2 H2 a2 => q G2 H2 ((ok.fw.trans a).trans a2)⟩
/-- f(..) as a statement, f raises -/
theorem run_dropX {x : α} (h : EvA K t env ss) (e : ss = fs x) (hp : pre x) (hn : fo x = none) : Run K E (tDrop (tCall (SpX K fs pre C fo) [] E t)) env (.ex C) := fun G0 H0 G H σ D ok q =>
  h G0 H0 G H σ ok _ fun vs G1 H1 a hv => ⟨x, G1, a.gh, by rw [List.append_nil, ← e]; exact hv, hp, fun z hz => (by rw [hn] at hz; cases hz), fun _ G2 H2 a2 => q G2 H2 ((ok.fw.trans a).trans a2)⟩
end
/-- an error of a callee leaves the def -/
theorem pass_up {P : Program} {w : World} {mg : Str → Option Value} {base : Heap} {N : List Str} {qual : Str} {st : Stmt} {f : Addr} {cdv : Value} {A : Around} {outer : List Env} {s : Shared} {H : Hp} :
    Passes (L2.CX P w) (cxX P w K mg base N qual st f cdv A outer s H E) E := passes_call (takes_of rfl rfl rfl rfl) (fun _ _ _ _ h => h)
theorem Turn1.seq {t u : TS} {e1 e' : EnvD} (h : Run K E t env (.nx e1)) (h' : Turn1 K E u e1 e') : Turn1 K E (tSeq t u) env e' := by
  rcases h' with h' | h'
  · exact .inl (run_seq h h')
  · exact .inr (run_seq h h')
end DL

/-! Fractions: the mathematics. -/
namespace MX
open PySem L2 DL
/-- a fraction as data -/
abbrev encQ (r : Rat) : PyData := .tuple [.int r.num, .int (r.den : Int)]
/-- by what fraction() divides -/
def sgcd (t l : Int) : Int := if l < 0 then -((Nat.gcd t.natAbs l.natAbs : Nat) : Int) else ((Nat.gcd t.natAbs l.natAbs : Nat) : Int)
theorem gcd_pos {t l : Int} (h : l ≠ 0) : 0 < Nat.gcd t.natAbs l.natAbs := Nat.gcd_pos_of_pos_right _ (by omega)
theorem sgcd_ne {t l : Int} (h : l ≠ 0) : sgcd t l ≠ 0 := by
  have := gcd_pos (t := t) h
  unfold sgcd
  split <;> omega
theorem gcd_dvd_top (t l : Int) : ((Nat.gcd t.natAbs l.natAbs : Nat) : Int) ∣ t := Int.dvd_natAbs.mp (Int.natCast_dvd_natCast.mpr (Nat.gcd_dvd_left _ _))
theorem gcd_dvd_low (t l : Int) : ((Nat.gcd t.natAbs l.natAbs : Nat) : Int) ∣ l := Int.dvd_natAbs.mp (Int.natCast_dvd_natCast.mpr (Nat.gcd_dvd_right _ _))
theorem sgcd_top (t l : Int) : sgcd t l ∣ t := by
  unfold sgcd
  split
  · exact Int.neg_dvd.mpr (gcd_dvd_top t l)
  · exact gcd_dvd_top t l
theorem sgcd_low (t l : Int) : sgcd t l ∣ l := by
  unfold sgcd
  split
  · exact Int.neg_dvd.mpr (gcd_dvd_low t l)
  · exact gcd_dvd_low t l
theorem divInt_parts {t l : Int} (h : l ≠ 0) : (Rat.divInt t l).num = t.fdiv (sgcd t l) ∧ ((Rat.divInt t l).den : Int) = l.fdiv (sgcd t l) := by
  rw [Int.fdiv_eq_ediv_of_dvd (sgcd_top t l), Int.fdiv_eq_ediv_of_dvd (sgcd_low t l)]
  unfold sgcd
  rcases Int.lt_or_gt_of_ne h with hl | hl
  · obtain ⟨d, hd⟩ : ∃ d : Nat, l = Int.negSucc d := ⟨(-l - 1).toNat, by omega⟩
    subst hd
    rw [if_pos hl]
    have e : Rat.divInt t (Int.negSucc d) = Rat.normalize (-t) (d + 1) (by omega) := rfl
    rw [e, Rat.normalize_eq]
    have hn : (Int.negSucc d).natAbs = d + 1 := rfl
    rw [hn]
    have hng : (-t).natAbs = t.natAbs := Int.natAbs_neg t
    have hg : ((t.natAbs.gcd (d + 1) : Nat) : Int) ∣ t := gcd_dvd_top t (Int.negSucc d)
    refine ⟨?_, ?_⟩
    · show -t / (((-t).natAbs.gcd (d + 1) : Nat) : Int) = _
      rw [hng, Int.ediv_neg, Int.neg_ediv_of_dvd hg]
    · show (((d + 1) / ((-t).natAbs.gcd (d + 1)) : Nat) : Int) = _
      rw [hng]
      have : Int.negSucc d = -((d + 1 : Nat) : Int) := rfl
      rw [this, Int.ediv_neg, Int.neg_ediv_of_dvd (by exact_mod_cast Nat.gcd_dvd_right _ _), Int.neg_neg]
      rfl
  · obtain ⟨d, hd⟩ : ∃ d : Nat, l = (d : Int) := ⟨l.toNat, by omega⟩
    subst hd
    rw [if_neg (by omega)]
    have hd0 : d ≠ 0 := by omega
    have e : Rat.divInt t (d : Int) = mkRat t d := rfl
    rw [e, Rat.mkRat_def, dif_neg hd0, Rat.normalize_eq]
    exact ⟨rfl, rfl⟩
/-! ### sizes -/
/-- at most n bits -/
def Bt (n : Nat) (x : Int) : Prop := x.natAbs < 2 ^ n
instance (n : Nat) (x : Int) : Decidable (Bt n x) := by unfold Bt; infer_instance
theorem Bt.zero (n : Nat) : Bt n 0 := Nat.two_pow_pos n
theorem Bt.one {n : Nat} (h : 0 < n) : Bt n 1 := Nat.one_lt_two_pow (by omega)
theorem Bt.mono {n m : Nat} {x : Int} (h : Bt n x) (hm : n ≤ m) : Bt m x := Nat.lt_of_lt_of_le h (Nat.pow_le_pow_right (by decide) hm)
theorem Bt.mul {n m : Nat} {x y : Int} (h : Bt n x) (h' : Bt m y) : Bt (n + m) (x * y) := wide_lt h h'
theorem Bt.add {n : Nat} {x y : Int} (h : Bt n x) (h' : Bt n y) : Bt (n + 1) (x + y) := by
  unfold Bt at *
  have : (x + y).natAbs ≤ x.natAbs + y.natAbs := Int.natAbs_add_le x y
  rw [Nat.pow_succ]
  omega
theorem Bt.neg {n : Nat} {x : Int} (h : Bt n x) : Bt n (-x) := by
  unfold Bt at *
  rw [Int.natAbs_neg]; exact h
theorem Bt.mulx {n m : Nat} {x y : Int} (h : Bt n x) (h' : Bt m y) (hnm : n + m ≤ 134217728) : CMulX x y := mulx_ok h h' hnm
theorem sgcd_abs (t l : Int) : (sgcd t l).natAbs = Nat.gcd t.natAbs l.natAbs := by
  unfold sgcd
  split
  · rw [Int.natAbs_neg, Int.natAbs_natCast]
  · rw [Int.natAbs_natCast]
theorem sgcd_div {t l x : Int} (h : l ≠ 0) (hb : Bt 9000 l) : CDivZ x (sgcd t l) := by
  refine ⟨sgcd_ne h, ?_⟩
  rw [sgcd_abs]
  have h1 : Nat.gcd t.natAbs l.natAbs ≤ l.natAbs := Nat.gcd_le_right _ (by omega)
  have h2 : Nat.gcd t.natAbs l.natAbs < 2 ^ 9000 := Nat.lt_of_le_of_lt h1 hb
  exact PySem.Flt.log2_lt_of (by decide) h2
theorem divInt_num_le (t : Int) {l : Int} (h : l ≠ 0) : (Rat.divInt t l).num.natAbs ≤ t.natAbs := by
  rw [(divInt_parts h).1, Int.fdiv_eq_ediv_of_dvd (sgcd_top t l)]
  have h1 := Int.ediv_mul_cancel (sgcd_top t l)
  have h2 : (t / sgcd t l).natAbs * (sgcd t l).natAbs = t.natAbs := by rw [← Int.natAbs_mul, h1]
  have h3 : 1 ≤ (sgcd t l).natAbs := by have := sgcd_ne (t := t) h; omega
  calc (t / sgcd t l).natAbs = (t / sgcd t l).natAbs * 1 := (Nat.mul_one _).symm
    _ ≤ (t / sgcd t l).natAbs * (sgcd t l).natAbs := Nat.mul_le_mul_left _ h3
    _ = t.natAbs := h2
theorem divInt_den_le (t : Int) {l : Int} (h : l ≠ 0) : (Rat.divInt t l).den ≤ l.natAbs := by
  have e := (divInt_parts (t := t) h).2
  rw [Int.fdiv_eq_ediv_of_dvd (sgcd_low t l)] at e
  have h1 := Int.ediv_mul_cancel (sgcd_low t l)
  have h2 : (l / sgcd t l).natAbs * (sgcd t l).natAbs = l.natAbs := by rw [← Int.natAbs_mul, h1]
  have h3 : 1 ≤ (sgcd t l).natAbs := by have := sgcd_ne (t := t) h; omega
  have h4 : (Rat.divInt t l).den = (l / sgcd t l).natAbs := by rw [← e, Int.natAbs_natCast]
  rw [h4]
  calc (l / sgcd t l).natAbs = (l / sgcd t l).natAbs * 1 := (Nat.mul_one _).symm
    _ ≤ (l / sgcd t l).natAbs * (sgcd t l).natAbs := Nat.mul_le_mul_left _ h3
    _ = l.natAbs := h2
/-- both parts of at most n bits -/
structure Qb (n : Nat) (r : Rat) : Prop where
  num : Bt n r.num
  den : Bt n (r.den : Int)
theorem Qb.mono {n m : Nat} {r : Rat} (h : Qb n r) (hm : n ≤ m) : Qb m r := ⟨h.num.mono hm, h.den.mono hm⟩
theorem qb_divInt {n : Nat} {t l : Int} (h : l ≠ 0) (ht : Bt n t) (hl : Bt n l) : Qb n (Rat.divInt t l) :=
  ⟨Nat.lt_of_le_of_lt (divInt_num_le t h) ht, by show ((_ : Nat) : Int).natAbs < _; rw [Int.natAbs_natCast]; exact Nat.lt_of_le_of_lt (divInt_den_le t h) hl⟩
theorem den_ne (r : Rat) : (r.den : Int) ≠ 0 := by have := r.den_nz; omega
/-- what plus, times, over, is_less reckon -/
theorem add_is (p q : Rat) : Rat.divInt (p.num * q.den + q.num * p.den) (p.den * q.den) = p + q := by
  have h := Rat.divInt_add_divInt p.num q.num (den_ne p) (den_ne q)
  rw [Rat.num_divInt_den, Rat.num_divInt_den] at h
  exact h.symm
theorem mul_is (p q : Rat) : Rat.divInt (p.num * q.num) (p.den * q.den) = p * q := by
  have h := Rat.divInt_mul_divInt p.num q.num (d₁ := p.den) (d₂ := q.den)
  rw [Rat.num_divInt_den, Rat.num_divInt_den] at h
  exact h.symm
theorem lt_is (p q : Rat) : decide (p.num * q.den < q.num * p.den) = decide (p < q) := by
  by_cases h : p < q
  · rw [decide_eq_true h, decide_eq_true ((Rat.lt_iff p q).mp h)]
  · rw [decide_eq_false h, decide_eq_false (fun z => h ((Rat.lt_iff p q).mpr z))]
theorem num_is (p : Rat) : p = (p.num : Rat) / ((p.den : Int) : Rat) := by
  have h := Rat.num_divInt_den p
  rw [Rat.divInt_eq_div] at h
  exact h.symm
theorem div_is (p q : Rat) (hq : q ≠ 0) : Rat.divInt (p.num * q.den) (p.den * q.num) = p / q := by
  rw [Rat.divInt_eq_div]
  have h1 := num_is p
  have h2 := num_is q
  have hp : ((p.den : Int) : Rat) ≠ 0 := fun z => den_ne p (Rat.intCast_inj.mp z)
  have hd : ((q.den : Int) : Rat) ≠ 0 := fun z => den_ne q (Rat.intCast_inj.mp z)
  have hn : (q.num : Rat) ≠ 0 := by
    intro z
    rw [z] at h2
    exact hq (h2.trans (by grind))
  rw [Rat.intCast_mul, Rat.intCast_mul]
  generalize hA : (p.num : Rat) = A at *
  generalize hB : ((p.den : Int) : Rat) = B at *
  generalize hC : (q.num : Rat) = C at *
  generalize hD : ((q.den : Int) : Rat) = F at *
  rw [h1, h2]
  grind
theorem qb_add {n : Nat} {p q : Rat} (hp : Qb n p) (hq : Qb n q) : Qb (2 * n + 1) (p + q) := by
  rw [← add_is]
  refine qb_divInt ?_ ?_ ?_
  · exact Int.mul_ne_zero (den_ne p) (den_ne q)
  · exact ((hp.num.mul hq.den).add (hq.num.mul hp.den)).mono (by omega)
  · exact (hp.den.mul hq.den).mono (by omega)
theorem qb_mul {n : Nat} {p q : Rat} (hp : Qb n p) (hq : Qb n q) : Qb (2 * n) (p * q) := by
  rw [← mul_is]
  exact qb_divInt (Int.mul_ne_zero (den_ne p) (den_ne q)) ((hp.num.mul hq.num).mono (by omega)) ((hp.den.mul hq.den).mono (by omega))
end MX

namespace MX
open PySem L2 DL
/-! ### the law's own gcd -/
def eu (a b : Nat) : Nat → Nat × Nat
  | 0 => (a, b)
  | i + 1 => ((eu a b i).2, (eu a b i).1 % (eu a b i).2)
theorem eu_gcd (a b : Nat) : ∀ i, Nat.gcd (eu a b i).1 (eu a b i).2 = Nat.gcd a b
  | 0 => rfl
  | i + 1 => by
    show Nat.gcd (eu a b i).2 ((eu a b i).1 % (eu a b i).2) = _
    rw [Nat.gcd_comm, ← Nat.gcd_rec, Nat.gcd_comm]
    exact eu_gcd a b i
theorem eu_shift (a b : Nat) : ∀ i, eu a b (i + 1) = eu b (a % b) i
  | 0 => rfl
  | i + 1 => by
    show ((eu a b (i + 1)).2, (eu a b (i + 1)).1 % (eu a b (i + 1)).2) = ((eu b (a % b) i).2, _)
    rw [eu_shift a b i]
def sz (n : Nat) : Nat := if n = 0 then 0 else n.log2 + 1
theorem sz_double {r a : Nat} (h : 2 * r ≤ a) (ha : 0 < a) : sz r + 1 ≤ sz a := by
  have e1 : sz a = a.log2 + 1 := by unfold sz; rw [if_neg (by omega)]
  rw [e1]
  by_cases hr : r = 0
  · subst hr; unfold sz; rw [if_pos rfl]; omega
  · have e2 : sz r = r.log2 + 1 := by unfold sz; rw [if_neg hr]
    rw [e2]
    have : (2 * r).log2 = r.log2 + 1 := Nat.log2_two_mul hr
    have h2 : (2 * r).log2 ≤ a.log2 := by
      have h3 : 2 ^ (2 * r).log2 ≤ 2 * r := Nat.log2_self_le (by omega)
      have h4 : a < 2 ^ (a.log2 + 1) := Nat.lt_log2_self
      have h5 : (2 * r).log2 < a.log2 + 1 := (Nat.pow_lt_pow_iff_right (by decide)).mp (Nat.lt_of_le_of_lt (Nat.le_trans h3 h) h4)
      omega
    omega
theorem eu_end : ∀ (n a b : Nat), b ≤ a → sz a + sz b ≤ n → ∃ k, k ≤ n ∧ (eu a b k).2 = 0
  | n, a, 0, _, _ => ⟨0, Nat.zero_le _, rfl⟩
  | 0, a, b + 1, h, hn => by
    have : 0 < sz (b + 1) := by unfold sz; rw [if_neg (by omega)]; omega
    omega
  | n + 1, a, b + 1, h, hn => by
    have hr : a % (b + 1) < b + 1 := Nat.mod_lt _ (by omega)
    have h2 : 2 * (a % (b + 1)) ≤ a := by
      have e := Nat.div_add_mod a (b + 1)
      have q : 1 ≤ a / (b + 1) := (Nat.le_div_iff_mul_le (by omega)).mpr (by omega)
      have : (b + 1) * 1 ≤ (b + 1) * (a / (b + 1)) := Nat.mul_le_mul_left _ q
      omega
    have h3 := sz_double h2 (by omega)
    obtain ⟨k, hk, e⟩ := eu_end n (b + 1) (a % (b + 1)) (by omega) (by omega)
    exact ⟨k + 1, by omega, by rw [eu_shift]; exact e⟩
theorem eu_stop (a b : Nat) : ∃ k, k ≤ sz a + sz b + 1 ∧ (eu a b k).2 = 0 := by
  by_cases h : b ≤ a
  · obtain ⟨k, h1, h2⟩ := eu_end _ a b h (Nat.le_refl _)
    exact ⟨k, by omega, h2⟩
  · have e : a % b = a := Nat.mod_eq_of_lt (by omega)
    obtain ⟨k, h1, h2⟩ := eu_end (sz b + sz a) b a (by omega) (by omega)
    exact ⟨k + 1, by omega, by rw [eu_shift, e]; exact h2⟩
/-- the first turn at which b is 0 -/
theorem eu_first (a b : Nat) : ∃ k, k ≤ sz a + sz b + 1 ∧ (eu a b k).2 = 0 ∧ (∀ i, i < k → (eu a b i).2 ≠ 0) ∧ (eu a b k).1 = Nat.gcd a b := by
  obtain ⟨m, hm, hz⟩ := eu_stop a b
  have key : ∀ n, (∃ k, k ≤ n ∧ (eu a b k).2 = 0) → ∃ k, k ≤ n ∧ (eu a b k).2 = 0 ∧ ∀ i, i < k → (eu a b i).2 ≠ 0 := by
    intro n
    induction n with
    | zero => rintro ⟨k, h1, h2⟩; exact ⟨k, h1, h2, fun i hi => by omega⟩
    | succ n ih =>
      rintro ⟨k, h1, h2⟩
      by_cases h : ∃ k, k ≤ n ∧ (eu a b k).2 = 0
      · obtain ⟨j, a1, a2, a3⟩ := ih h
        exact ⟨j, by omega, a2, a3⟩
      · exact ⟨k, h1, h2, fun i hi z => h ⟨i, by omega, z⟩⟩
  obtain ⟨k, h1, h2, h3⟩ := key m ⟨m, Nat.le_refl _, hz⟩
  refine ⟨k, by omega, h2, h3, ?_⟩
  have := eu_gcd a b k
  rw [h2, Nat.gcd_zero_right] at this
  exact this
theorem bits_sz (x : Int) : Builtin.Int.intBits x = sz x.natAbs := by
  unfold Builtin.Int.intBits sz
  by_cases h : x = 0
  · subst h; rfl
  · rw [if_neg (by simpa using h), if_neg (by omega)]
/-! ### the law's draws -/
def dstep (free : Bool) (s : Int × Int) (lim : Int) : (Int × Int) × Int :=
  if (free && decide (1 < s.1)) = true then ((s.1.fdiv lim, s.2), s.1.fmod lim)
  else ((s.1, (((s.2 * 48271 + 11).fmod 2147483647) * 69621 + 7).fmod 2147483647), (((((s.2 * 48271 + 11).fmod 2147483647) * 69621 + 7).fmod 2147483647).fdiv 13).fmod lim)
def dst (free : Bool) : Int × Int → List Int → Int × Int
  | s, [] => s
  | s, l :: ls => dst free (dstep free s l).1 ls
def drun (free : Bool) : Int × Int → List Int → List Int
  | _, [] => []
  | s, l :: ls => (dstep free s l).2 :: drun free (dstep free s l).1 ls
theorem dst_snoc (free : Bool) : ∀ (ls : List Int) (s : Int × Int) (l : Int), dst free s (ls ++ [l]) = (dstep free (dst free s ls) l).1
  | [], _, _ => rfl
  | _ :: ls, s, l => dst_snoc free ls _ l
theorem drun_snoc (free : Bool) : ∀ (ls : List Int) (s : Int × Int) (l : Int), drun free s (ls ++ [l]) = drun free s ls ++ [(dstep free (dst free s ls) l).2]
  | [], _, _ => rfl
  | a :: ls, s, l => congrArg (_ :: ·) (drun_snoc free ls _ l)
theorem drun_len (free : Bool) : ∀ (ls : List Int) (s : Int × Int), (drun free s ls).length = ls.length
  | [], _ => rfl
  | _ :: ls, _ => congrArg (· + 1) (drun_len free ls _)
theorem fmod_bd {x y : Int} (h : 0 < y) : 0 ≤ x.fmod y ∧ x.fmod y < y := ⟨Int.fmod_nonneg_of_pos x h, Int.fmod_lt_of_pos x h⟩
theorem dstep_bd (free : Bool) (s : Int × Int) {l : Int} (h : 0 < l) : 0 ≤ (dstep free s l).2 ∧ (dstep free s l).2 < l := by
  unfold dstep
  split
  · exact fmod_bd h
  · exact fmod_bd h
theorem drun_bd (free : Bool) : ∀ (ls : List Int) (s : Int × Int) (i : Nat) (x l : Int), (∀ l ∈ ls, 0 < l) → (drun free s ls)[i]? = some x → ls[i]? = some l → 0 ≤ x ∧ x < l
  | [], _, _, _, _, _, _, h => by simp at h
  | a :: ls, s, 0, x, l, hp, hx, hl => by
    have e1 : (dstep free s a).2 = x := by simpa [drun] using hx
    have e2 : a = l := by simpa using hl
    subst e1; subst e2
    exact dstep_bd free s (hp _ (List.mem_cons_self))
  | a :: ls, s, i + 1, x, l, hp, hx, hl => drun_bd free ls _ i x l (fun z hz => hp z (List.mem_cons_of_mem _ hz)) (by simpa [drun] using hx) (by simpa using hl)
theorem dst_bd (free : Bool) : ∀ (ls : List Int) (s : Int × Int), 0 ≤ s.2 → s.2 < 2147483647 → 0 ≤ (dst free s ls).2 ∧ (dst free s ls).2 < 2147483647
  | [], _, h1, h2 => ⟨h1, h2⟩
  | l :: ls, s, h1, h2 => by
    refine dst_bd free ls _ ?_ ?_
    · unfold dstep
      split
      · exact h1
      · exact (fmod_bd (by decide)).1
    · unfold dstep
      split
      · exact h2
      · exact (fmod_bd (by decide)).2
def absI (x : Int) : Int := if x < 0 then -x else x
def freeF (cell : Int) : Bool := decide (cell < 0) || decide (10 ^ 18 ≤ cell)
def drawsF (cell : Int) (ls : List Int) : List Int := drun (freeF cell) (absI cell, (absI cell).fmod 2147483647) ls
theorem drawsF_len (cell : Int) (ls : List Int) : (drawsF cell ls).length = ls.length := drun_len _ _ _
/-- the i-th draw -/
theorem drawsF_at (cell : Int) {ls : List Int} {i : Nat} {l : Int} (hp : ∀ l ∈ ls, 0 < l) (h : ls[i]? = some l) : ∃ x, (drawsF cell ls)[i]? = some x ∧ 0 ≤ x ∧ x < l := by
  have hi : i < (drawsF cell ls).length := by rw [drawsF_len]; exact (List.getElem?_eq_some_iff.mp h).1
  exact ⟨_, List.getElem?_eq_getElem hi, drun_bd _ _ _ _ _ _ hp (List.getElem?_eq_getElem hi) h⟩
def cellF (ns : List Int) (k : Int) : Int := if k < (ns.length : Int) then ns.getD k.toNat 0 else 0
theorem atI_int {α : Type} {xs : List α} {k : Int} {x : α} (h0 : 0 ≤ k) (h : xs[k.toNat]? = some x) : atI xs k = some x := by
  have hk := (List.getElem?_eq_some_iff.mp h).1
  unfold atI ixN
  rw [if_pos h0, if_pos (by omega)]
  exact h
theorem cell_at {ns : List Int} {k : Int} (h0 : 0 ≤ k) (h : k < (ns.length : Int)) : atI ns k = some (cellF ns k) := by
  refine atI_int h0 ?_
  unfold cellF
  rw [if_pos h, List.getD_eq_getElem?_getD, List.getElem?_eq_getElem (by omega)]
  rfl
theorem rgc_up {j c : Int} (h0 : 0 ≤ j) (h1 : j ≤ 1000000) (h2 : 0 < c) (h3 : c ≤ 1000000) : RgC 0 j c (Builtin.Range.rangeSize 0 j c).toNat := by
  have e : Builtin.Range.rangeSize 0 j c = if 0 < j then (j - 1) / c + 1 else 0 := by
    unfold Builtin.Range.rangeSize
    rw [if_pos h2]
    by_cases h : 0 < j
    · rw [if_pos h, if_pos h, Int.sub_zero]
    · rw [if_neg h, if_neg h]
  have hd : 0 ≤ (j - 1) / c ∨ j ≤ 0 := by
    by_cases h : 0 < j
    · exact .inl (Int.ediv_nonneg (by omega) (by omega))
    · exact .inr (by omega)
  have hd2 : 0 < j → (j - 1) / c ≤ j - 1 := fun h => Int.ediv_le_self _ (by omega)
  have hs : 0 ≤ Builtin.Range.rangeSize 0 j c ∧ Builtin.Range.rangeSize 0 j c ≤ 1000001 := by
    rw [e]; split <;> omega
  refine ⟨by omega, by omega, ?_, (Int.toNat_of_nonneg hs.1).symm⟩
  unfold Builtin.Range.small Builtin.Range.rangeFitsLong
  generalize Builtin.Range.rangeSize 0 j c = z at hs ⊢
  rw [if_pos h2]
  simp only [Bool.and_eq_true, Bool.or_eq_true, decide_eq_true_eq]
  exact ⟨⟨⟨⟨by omega, by omega⟩, by omega⟩, by omega⟩, .inr (by omega)⟩
theorem kit_tt : kitB "tuple" "tuple" = some true := by decide +kernel
theorem kit_ib : kitB "int" "bool" = some false := by decide +kernel
theorem kit_bb : kitB "bool" "bool" = some true := by decide +kernel
theorem kit_ll : kitB "list" "list" = some true := by decide +kernel
theorem bit1 (x : Int) : Builtin.bitAnd x 1 = x % 2 := PySem.W.kbt_mask x 1
/-- the sign that a law draws -/
def sgnF (x : Int) : Int := if x % 2 = 0 then 1 else -1
theorem sgn_at (x : Int) : atI [PyData.int 1, PyData.int (-1)] (Builtin.bitAnd x 1) = some (.int (sgnF x)) := by
  rw [bit1]
  unfold sgnF
  have h1 : x % 2 = 0 ∨ x % 2 = 1 := by omega
  rcases h1 with h | h
  · rw [h]; rfl
  · rw [h]; rfl
theorem atI_map {ns : List Int} {i : Nat} {x : Int} (h : ns[i]? = some x) : atI (ns.map PyData.int) (i : Int) = some (.int x) := by
  refine atI_int (by omega) ?_
  rw [Int.toNat_natCast, List.getElem?_map, h]
  rfl
theorem bt_range {n : Nat} {x : Int} (h0 : -(2 ^ n) < x) (h1 : x < 2 ^ n) : Bt n x := by
  have e : ((2 ^ n : Nat) : Int) = 2 ^ n := by norm_cast
  show x.natAbs < 2 ^ n
  omega
end MX

/-! Defs that ask repr: the guards around them are known to be empty. -/
namespace DL
open PySem L2
variable {K : PySem.W.Frag} {E : XK} {env env' e1 e2 : EnvD}

/-- a def's promise where nothing is being shown -/
structure FnG (P : Program) (w : World) (K : PySem.W.Frag) (mg : Str → Option Value) (base : Heap) (k : Nat) (f : Addr) (fd : FuncData) (ps : List Str) (sp : Sp) : Prop where
  many : ∀ vs H Q E, sp vs H Q E → vs.length = ps.length
  go : ∀ (A : Around) (out : List Env) (st : Shared) (H : Hp) (as : PySem.Args) (us : List Value) (vs : List V) (Q : VK) (E : XK), A.guards = some [] → Room k A → Env0 P w K mg base A out st H → BindsTo st fd as (ps.zip us) → Vals vs us → sp vs H Q E →
    codeAny (model P w) A (.call (.ref f) as) (CR CX0 out P w H st Q E) st
section
variable {P : Program} {w : World} {mg : Str → Option Value} {base : Heap} {x qual : Str} {st : Stmt} {f : Addr} {fd : FuncData} {N ps : List Str} {k : Nat} {sp : Sp}
theorem fn_G (F : Fun K x qual st f fd) (S : FnScope N ps (defScope st)) (len : ∀ vs H Q E, sp vs H Q E → vs.length = ps.length)
    (body : ∀ (cdv : Value) (A : Around) (outer : List Env) (s : Shared) (H : Hp) (vs : List V) (Q : VK) (E : XK), A.guards = some [] → Room k (A.deeper (PyProof.Rows.envOfC qual (defScope st) s.heap.objs.size f cdv)) → sp vs H Q E →
      ∃ t, PSs (cx0 P w K mg base N qual st f cdv A outer s H E) (defBody st) t ∧ t { nx := fun _ H' => Q .non H', rt := Q } (L2.start N vs) H) : FnG P w K mg base (k + 1) f fd ps sp := by
  obtain ⟨oc, od, kV, doc, pm, an, cdv, ct, osl, efd, hlk, hcode⟩ := F.ex
  subst efd
  refine ⟨len, fun A out s0 H as us vs Q E hG hroom env0 hbind hvals hsp => ?_⟩
  have hlen := len _ _ _ _ hsp
  have kin : K.In s0.heap := env0.mod.kin.keeps fun b ob q => (env0.bs b ob q).1
  have nolim : s0.heap.NoLimit := env0.mod.nolimit.keeps fun b ob q => (env0.bs b ob q).1
  have places : ∀ y ∈ ps.zip us, (defScope st).names.lookup y.1 = some .local ∨ ((defScope st).names.lookup y.1 = some .cell ∧ ((cellsFrom (s0.heap.objs.size + 1) (defScope st).names []).lookup y.1).isSome = true) := by
    rintro ⟨nm, val⟩ hy
    rcases S.par nm (List.of_mem_zip hy).1 with c | c
    · exact .inl c
    · exact .inr ⟨c, PySem.W.cellsFrom_some _ _ _ (.inl c)⟩
  refine codeAny_call_function hroom.depth (kin _ _ hlk) rfl S.co S.gen rfl (PySem.W.codeRec_of kin hcode) (hbind _ _ _ _ ?_)
  refine wpAny_newFunctionEnv_cells S.kind places fun ev hev s1 inC => ?_
  subst hev
  refine ⟨nolim.keeps inC.toInCall.keep, codeAny_func ?_⟩
  obtain ⟨t, hps, hq⟩ := body cdv A out s0 H vs Q E hG (hroom.deeper _) hsp
  have J : Inv (cxOf CX0 P w K mg base N qual (defScope st) f cdv A out s0 H E) [] (L2.start N vs) H s1 := inv_start S hroom.hd env0 hlen hvals inC
  refine wpAny_mono (hps.nox.run [] s1 (L2.start N vs) H _ J hq) (fun fl s' hfl => ?_) fun _ _ hx => hx
  match fl, hfl with
  | .ret u, hfl =>
    obtain ⟨v, σ', H', I', rv, qv⟩ := hfl
    exact ⟨v, H', I'.os, I'.bare, I'.base, I'.hok, rv, qv⟩
  | .next, hfl =>
    obtain ⟨σ', H', I', qv⟩ := hfl
    exact ⟨V.non, H', I'.os, I'.bare, I'.base, I'.hok, rfl, qv⟩
  | .brk, hfl => obtain ⟨_, _, _, z⟩ := hfl; exact z.elim
  | .cont, hfl => obtain ⟨_, _, _, z⟩ := hfl; exact z.elim
variable {α : Type} {fs : α → List SD} {pre : α → Prop} {fv : α → D}
theorem fn_GD (F : Fun K x qual st f fd) (S : FnScope N ps (defScope st)) (hn : ∀ a, (fs a).length = ps.length)
    (body : ∀ (cdv : Value) (A : Around) (outer : List Env) (s : Shared) (H : Hp) (E : XK), A.guards = some [] → Room k (A.deeper (PyProof.Rows.envOfC qual (defScope st) s.heap.objs.size f cdv)) →
      ∃ t, PSs (cx0 P w K mg base N qual st f cdv A outer s H E) (defBody st) t ∧ ∀ a, pre a → Run K E t (envOf N (fs a)) (.rt (fv a))) : FnG P w K mg base (k + 1) f fd ps (SpD K fs pre fv) := by
  refine fn_G F S (fun vs H Q E h => ?_) (fun cdv A outer s H vs Q E hG hr h => ?_)
  · obtain ⟨a, G, gh, ha, _⟩ := h
    rw [ha.len, hn a]
  · obtain ⟨a, G, gh, ha, hp, q⟩ := h
    obtain ⟨t, h1, h2⟩ := body cdv A outer s H E hG hr
    exact ⟨t, h1, h2 a hp G H G H _ _ (ok_start gh ha) fun v G' H' fw hv => q v G' H' fw hv⟩
def CalleeG (P : Program) (w : World) (K : PySem.W.Frag) (mg : Str → Option Value) (base : Heap) (k : Nat) (x : Str) (ps : List Str) (sp : Sp) : Prop :=
  ∃ f fd, FnG P w K mg base k f fd ps sp ∧ mg x = some (.ref f) ∧ PySem.W.keepIn K (.ref f) = true ∧ Binds K fd ps []
end
section
variable {X : Cx} {k : Nat} {ps : List Str} {sp : Sp} {x : Str} {p pos : Pos} {e : Expr} {es : List Expr} {t : TA}
theorem pe_cG (C : CalleeG X.prog X.w X.K X.mg X.base k x ps sp) (hG : X.A.guards = some []) (hr : Room k X.A) (ha : PA X (e :: es) t) (hg : Gl X x := by rfl)
    (hdb : (x == ("__debug__" : Str)) = false := by decide) (he : starEach (e :: es) X.env = (false, eval e X.env) :: starEach es X.env := by rfl) (hpl : (backTo pos (starEach es X.env)).any (·.1) = false := by rfl) :
    PE X (.Call (.Name x p) (e :: es) [] pos) (tCall sp [] E0 t) := by
  obtain ⟨f, fd, F, m, kp, b⟩ := C
  constructor
  intro pins s σ H Q I h
  refine wpAny_Call_Name_kw (ld_glob I hg m ?_ hdb)
  refine PySem.W.callWith_K (h₀ := X.base) I.ok.mod.kin kp (thn (ha.run pos pins s σ H _ I h) fun us s1 hh => ?_) he hpl
  obtain ⟨vs, H1, I1, rv, q⟩ := hh
  rw [List.append_nil] at q
  have nArgs : us.length = ps.length := by rw [← rv.length]; exact F.many _ _ _ _ q
  have bnd := b s1 us I1.kIn (by rw [List.append_nil]; exact nArgs)
  rw [List.append_nil] at bnd
  refine ⟨I1.kIn, wpAny_call (codeAny_mono (F.go X.A X.stack s1 H1 ⟨us, []⟩ us vs Q E0 hG hr I1.env0 bnd rv q) fun r s' hq => ?_)⟩
  match r, hq with
  | .ok (.ret u), hq => exact I1.after hq
  | .ok .next, hq => exact hq.elim
  | .ok .brk, hq => exact hq.elim
  | .ok .cont, hq => exact hq.elim
  | .error _, hq => exact hq.elim
/-- repr of data -/
def rRepr (K : PySem.W.Frag) : List V → Hp → VK → Prop := fun xs H Q => ∃ (a : Addr) (d : D), xs = [.ref a] ∧ Dp K H (.ref a) d ∧ d.showable = true ∧ d.hasDict = false ∧ d.depth ≤ 60 ∧ d.shown.length ≤ sizeLine ∧ Q (.str d.shown) H
theorem call_repr (hG : X.A.guards = some []) (hu : X.A.units + 64 < cLine) : CallR X (.builtin "repr") (rRepr X.K) := by
  intro pins s σ H xs us Q I r h
  obtain ⟨a, d, rfl, hd, h1, h2, h3, h4, q⟩ := h
  match us, r with
  | [u], .cons ru .nil =>
    obtain ⟨as, rd⟩ := Dp.reads I d _ u hd ru
    obtain rfl : u = Value.ref a := ru
    exact repr_of_reads' rd h1 (fun z => by rw [h2] at z; cases z) hG (by omega) (fun _ _ z => z) (fun h' w' tk keep => ⟨.str d.shown, H, I.kept (t' := tk) keep, ⟨_, rfl⟩, q⟩) h4
end
/-- the script on the heap behind the top -/
theorem first_heap {P : Program} {w : World} {s1 : Shared} {a : Addr} {vs : List Value} {ns : List Int} (kin : K.In s1.heap) (hobj : s1.heap.get? a = some { cls := .type "list", data := .seq vs.toArray }) (hv : Vals (ns.map V.int) vs) (hn : ns.length ≤ sizeLine) :
    ∃ H : Hp, SqL K H a (ns.map V.int) ∧ HOk P w H s1.heap ∧ (∀ b, H b ≠ none → b = a ∧ K.lookup a = none ∧ ∃ o xs, H b = some (.frz o (.lst xs))) := by
  have hlen := hv.length
  rw [List.length_map] at hlen
  cases hk : K.lookup a with
  | some ob =>
    have same := kin a ob hk
    rw [hobj] at same
    cases same
    exact ⟨fun _ => none, .inr ⟨_, vs.toArray, _, hk, rfl, rfl, rfl, by rw [List.size_toArray, ← hlen]; exact hn, by simpa using hv⟩, fun b u z => by simp at z, fun b z => (z rfl).elim⟩
  | none =>
    refine ⟨fun b => if b = a then some (.frz { cls := .type "list", data := .seq vs.toArray } (.lst (ns.map V.int))) else none, .inl (.inr ⟨_, if_pos rfl⟩), fun b u z => ?_, fun b z => ?_⟩
    · by_cases e : b = a
      · subst e
        obtain rfl := Option.some.inj ((if_pos rfl).symm.trans z)
        exact ⟨hobj, by rw [List.length_map]; exact hn, vs, _, hv, hobj⟩
      · exact absurd ((if_neg e).symm.trans z) (by simp)
    · by_cases e : b = a
      · exact ⟨e, rfl, _, _, if_pos e⟩
      · exact absurd (if_neg e) z
open PySem.W in
theorem law_G {l : OpenLaw} {n k : Nat} {q : Program} {loose : List Str} {XP : (Str → Option Value) → Heap → Prop} {YP : World → Heap → Prop} {d : DefRec} {KK : Params → Frag} {sp : World → Sp} {x : Str}
    (hn : l.most = some n) (hn2 : n ≤ sizeLine) (hdf : d.params.defaults = []) (hroom : Room k callerA)
    (hY : ∀ (w : World) (h : Heap), YP w h → (KK w.params).In h)
    (F : ∀ (w : World) (mg : Str → Option Value) (fa : Addr) (h : Heap), (KK w.params).In h → h.Ns mainGlobals mg → mg d.name = some (.ref fa) →
      ∃ fd : FuncData, (∀ (s : Shared) (u : Value), BindsTo s fd ⟨[u], []⟩ [(x, u)]) ∧ ∀ base : Heap, (KK w.params).In base → base.Ns mainGlobals mg → FnG l.prog w (KK w.params) mg base k fa fd [x] (sp w))
    (hsp : ∀ (w : World) (H : Hp) (a : Addr) (ns : List Int), ns.length ≤ n → SqL (KK w.params) H a (ns.map V.int) → sp w [.ref a] H (fun v _ => v = .bl true) fun _ _ _ => False) :
    WalkO q loose XP YP l.row.toRowW d [] (fun f vs => PySem.call f vs) := by
  refine Att.attach_call hn hdf fun w s0 s1 mg mb fa ob pm cd doc a vs ns G Y hob hfun hcode hname hobj hints hlen hgens => ?_
  have kin := hY w _ Y
  obtain ⟨fd, hbind, hfn⟩ := F w mg fa _ kin G.T.g hname
  have hv : Vals (ns.map V.int) vs := vals_ints hints
  obtain ⟨H, hS, hok, honly⟩ := first_heap (P := l.prog) (w := w) kin hobj hv (Nat.le_trans hlen hn2)
  have low : ∀ {b : Addr} {u : Obj}, s1.heap.get? b = some u → H b = none → (hidT s1.heap H).get? b = some u := fun hb hnone => hidT_get hb hnone
  have noDict : ∀ {b : Addr} {u : Obj} {es : Array DictEntry} {ep : Nat}, s1.heap.get? b = some u → u.data = .dict es ep → H b = none := by
    intro b u es ep hb hd
    by_cases z : H b = none
    · exact z
    · obtain ⟨e, _⟩ := honly b z
      rw [e, hobj] at hb
      cases hb
      cases (show Data.seq vs.toArray _ = Data.dict es ep from hd)
  have space : ∀ {b : Addr} {m : Str → Option Value}, s1.heap.Ns b m → (hidT s1.heap H).Ns b m := by
    rintro b m ⟨u, es, ep, hb, hd, rest⟩
    exact ⟨u, es, ep, low hb (noDict hb hd), hd, rest⟩
  have kinB : (KK w.params).In (hidT s1.heap H) := fun b u hb => low (kin b u hb) (by
    by_cases z : H b = none
    · exact z
    · obtain ⟨e, hk, _⟩ := honly b z
      rw [e, hk] at hb; cases hb)
  have lim : (hidT s1.heap H).NoLimit := by
    obtain ⟨mc, z1, z2⟩ := G.T.nolimit
    exact ⟨mc, space z1, z2⟩
  have M : Mod (KK w.params) mg (hidT s1.heap H) := ⟨kinB, space G.T.g, ⟨mb, space G.T.b, G.T.builtins⟩, lim⟩
  have env0 : Env0 l.prog w (KK w.params) mg (hidT s1.heap H) callerA [] s1 H :=
    ⟨rfl, M, fun b u hb => of_hidT hb, by rw [hidT_size]; exact Nat.le_refl _, trivial, fun b hb => (by cases hb), hok, .of_eq hgens⟩
  refine codeAny_mono ((hfn _ kinB (space G.T.g)).go callerA [] s1 H ⟨[.ref a], []⟩ [.ref a] [.ref a] _ _ rfl hroom env0 (hbind s1 (.ref a)) (.cons rfl .nil) (hsp w H a ns hlen hS)) fun r s' hr => ?_
  match r, hr with
  | .ok (.ret u), hr =>
    obtain ⟨v, H', hos, hbare, un, hok', rv, hv⟩ := hr
    have hv : v = .bl true := hv
    subst hv
    cases rv
    refine ⟨rfl, OldK.of_keep fun b ob hb => ?_, hos, hbare⟩
    by_cases z : H b = none
    · exact un.keep b ob hb z (fun m => (by cases m)) (fun m => (by cases m))
    · obtain ⟨_, _, o2, xs, hz⟩ := honly b z
      have h1 := (hok b _ hz).1
      have h2 := (hok' b _ (un.frzs b o2 _ hz)).1
      rw [hb] at h1
      cases h1
      exact h2
  | .ok .next, hr => exact hr.elim
  | .ok .brk, hr => exact hr.elim
  | .ok .cont, hr => exact hr.elim
  | .error _, hr => exact hr.elim
end DL

/-! Dicts that a body makes. -/
namespace DL
open PySem L2
variable {K : PySem.W.Frag} {E : XK} {env env' e1 e2 : EnvD}
def lkD (kvs : List (Key × D)) (k : Key) : Option D := (kvs.find? fun p => decide (p.1 = k)).map (·.2)
def putD (kvs : List (Key × D)) (k : Key) (d : D) : List (Key × D) := if (kvs.any fun p => decide (p.1 = k)) = true then kvs.map (fun p => if p.1 = k then (p.1, d) else p) else kvs ++ [(k, d)]
/-- values at the keys -/
inductive Kds (K : PySem.W.Frag) (G : Hp) : List (Key × V) → List (Key × D) → Prop
  | nil : Kds K G [] []
  | cons {k : Key} {v : V} {d : D} {a : List (Key × V)} {b : List (Key × D)} : Dd K G v d → Kds K G a b → Kds K G ((k, v) :: a) ((k, d) :: b)
theorem Kds.of {G : Hp} : ∀ {a : List (Key × V)} {b : List (Key × D)}, a.map (·.1) = b.map (·.1) → Dds K G (a.map (·.2)) (b.map (·.2)) → Kds K G a b
  | [], [], _, _ => .nil
  | (k, v) :: a, (k', d) :: b, hk, hd => by
    have e : k = k' := (List.cons.inj hk).1
    subst e
    cases hd with
    | cons h hs => exact .cons h (Kds.of (List.cons.inj hk).2 hs)
  | [], _ :: _, hk, _ => by cases hk
  | _ :: _, [], hk, _ => by cases hk
theorem Kds.keys {G : Hp} : ∀ {a : List (Key × V)} {b : List (Key × D)}, Kds K G a b → a.map (·.1) = b.map (·.1)
  | _, _, .nil => rfl
  | _, _, .cons _ h => by rw [List.map_cons, List.map_cons, h.keys]
theorem Kds.vals {G : Hp} : ∀ {a : List (Key × V)} {b : List (Key × D)}, Kds K G a b → Dds K G (a.map (·.2)) (b.map (·.2))
  | _, _, .nil => .nil
  | _, _, .cons h hs => .cons h hs.vals
theorem Kds.mono {G G' : Hp} (e : Same G G') : ∀ {a : List (Key × V)} {b : List (Key × D)}, Kds K G a b → Kds K G' a b
  | _, _, .nil => .nil
  | _, _, .cons h hs => .cons (h.mono e) (hs.mono e)
theorem Kds.lk {G : Hp} {k : Key} : ∀ {a : List (Key × V)} {b : List (Key × D)}, Kds K G a b → (valV a k = none ∧ lkD b k = none) ∨ ∃ v d, valV a k = some v ∧ lkD b k = some d ∧ Dd K G v d
  | _, _, .nil => .inl ⟨rfl, rfl⟩
  | _, _, .cons (k := j) (v := v) (d := d) h hs => by
    by_cases e : j = k
    · exact .inr ⟨v, d, by simp [valV, List.find?_cons, e], by simp [lkD, List.find?_cons, e], h⟩
    · rcases hs.lk (k := k) with ⟨a1, a2⟩ | ⟨v', d', a1, a2, a3⟩
      · exact .inl ⟨by unfold valV at *; rw [List.find?_cons_of_neg (by simpa using e)]; exact a1, by unfold lkD at *; rw [List.find?_cons_of_neg (by simpa using e)]; exact a2⟩
      · exact .inr ⟨v', d', by unfold valV at *; rw [List.find?_cons_of_neg (by simpa using e)]; exact a1, by unfold lkD at *; rw [List.find?_cons_of_neg (by simpa using e)]; exact a2, a3⟩
theorem Kds.any {G : Hp} {k : Key} : ∀ {a : List (Key × V)} {b : List (Key × D)}, Kds K G a b → (a.any fun p => decide (p.1 = k)) = (b.any fun p => decide (p.1 = k))
  | _, _, .nil => rfl
  | _, _, .cons _ hs => by rw [List.any_cons, List.any_cons, hs.any]
theorem Kds.upd {G : Hp} {k : Key} {v : V} {d : D} (hv : Dd K G v d) : ∀ {a : List (Key × V)} {b : List (Key × D)}, Kds K G a b → Kds K G (a.map fun p => if p.1 = k then (p.1, v) else p) (b.map fun p => if p.1 = k then (p.1, d) else p)
  | _, _, .nil => .nil
  | _, _, .cons (k := j) h hs => by
    rw [List.map_cons, List.map_cons]
    by_cases e : j = k
    · rw [if_pos e, if_pos e]; exact .cons hv (Kds.upd hv hs)
    · rw [if_neg e, if_neg e]; exact .cons h (Kds.upd hv hs)
theorem Kds.app {G : Hp} : ∀ {a a' : List (Key × V)} {b b' : List (Key × D)}, Kds K G a b → Kds K G a' b' → Kds K G (a ++ a') (b ++ b')
  | _, _, _, _, .nil, h => h
  | _, _, _, _, .cons h hs, h' => .cons h (hs.app h')
theorem Kds.put {G : Hp} {k : Key} {v : V} {d : D} {a : List (Key × V)} {b : List (Key × D)} (h : Kds K G a b) (hv : Dd K G v d) : Kds K G (putK a k v) (putD b k d) := by
  unfold putK putD
  rw [h.any]
  split
  · exact h.upd hv
  · exact h.app (.cons hv .nil)
theorem Kds.len {G : Hp} {a : List (Key × V)} {b : List (Key × D)} (h : Kds K G a b) : a.length = b.length := by
  have := congrArg List.length h.keys
  simpa using this
theorem Ok.dict {G0 H0 G H : Hp} {σ : L2.St} {i : Nat} {kvs : List (Key × D)} (ok : Ok K G0 H0 G H σ env) (h : env[i]? = some (.md kvs)) : ∃ l kv, σ[i]? = some (some (.ref l)) ∧ G l = none ∧ H l = some (.dK kv) ∧ Kds K G kv kvs := by
  obtain ⟨o, h1, l, kv, e, g, hl, hk, hd⟩ := ok.slD i h
  subst e
  exact ⟨l, kv, h1, g, hl, Kds.of hk hd⟩
theorem run_setD {i : Nat} : Run K E (tAsg tDNewK (gName i)) env (.nx (env.set i (.md []))) := fun G0 H0 G H σ D ok q p hp =>
  q G _ _ (ok.setTree (Fw.hid ok.gh hp) i (Tr.of_md (kvs := []) (ok.gh.free hp) upd_same rfl .nil) fun x hx => by rw [List.mem_singleton.mp hx]; exact hp)
section
variable {ty tx tv : TE} {n : Int} {z d : D} {i : Nat} {kvs : List (Key × D)}
theorem ed_dget2 (h : env[i]? = some (.md kvs)) (hy : EvD K ty env (.int n)) (hx : EvD K tx env z) : EvD K (tDGet2 (tVar i) ty tx) env ((lkD kvs (.inl n)).getD z) := fun G0 H0 G H σ ok Q q => by
  obtain ⟨l, kv, h1, g, hl, hk⟩ := ok.dict h
  refine ⟨_, h1, l, rfl, .inl ⟨kv, .inl hl⟩, hy G0 H0 G H σ ok _ fun v G1 H1 a hv => hx G0 H0 G1 H1 σ (ok.go a) _ fun u G2 H2 a2 hu => ?_⟩
  refine ⟨valV kv (.inl n), by rw [hv.int_inv]; exact DGet.k (k := .inl n) ((a.trans a2).hh _ _ hl), ?_⟩
  rcases (hk.mono (a.trans a2).gg).lk (k := .inl n) with ⟨e1, e2⟩ | ⟨v', d', e1, e2, e3⟩
  · rw [e1]
    exact q u G2 H2 (a.trans a2) (by rw [e2]; exact hu)
  · rw [e1]
    exact q v' G2 H2 (a.trans a2) (by rw [e2]; exact e3)
theorem ed_dget (h : env[i]? = some (.md kvs)) (hy : EvD K ty env (.int n)) (hz : lkD kvs (.inl n) = some d) : EvD K (tDGet (tVar i) ty) env d := fun G0 H0 G H σ ok Q q => by
  obtain ⟨l, kv, h1, g, hl, hk⟩ := ok.dict h
  refine ⟨_, h1, hy G0 H0 G H σ ok _ fun v G1 H1 a hv => ?_⟩
  rcases (hk.mono a.gg).lk (k := .inl n) with ⟨e1, e2⟩ | ⟨v', d', e1, e2, e3⟩
  · rw [hz] at e2; cases e2
  · rw [hz] at e2; cases e2
    exact ⟨l, v', rfl, by rw [hv.int_inv, ← e1]; exact DGet.k (k := .inl n) (a.hh _ _ hl), q v' G1 H1 a e3⟩
theorem run_dput (h : env[i]? = some (.md kvs)) (hv : EvD K tv env d) (hy : EvD K ty env (.int n)) (hlen : kvs.length < 1000000) : Run K E (sDPut (tVar i) ty tv) env (.nx (env.set i (.md (putD kvs (.inl n) d)))) := fun G0 H0 G H σ D ok q => by
  obtain ⟨l, kv, h1, g, hl, hk⟩ := ok.dict h
  refine hv G0 H0 G H σ ok _ fun v G1 H1 a hv1 => ⟨_, h1, hy G0 H0 G1 H1 σ (ok.go a) _ fun u G2 H2 a2 hu => ⟨l, upd H2 l (.dK (putK kv (.inl n) v)), rfl, by rw [hu.int_inv]; exact DPut.k (k := .inl n) ((a.trans a2).hh _ _ hl) (by rw [hk.len, sizeLine_eq]; omega), ?_⟩⟩
  have ok2 := (ok.go a).go a2
  have g2 : G2 l = none := (a.trans a2).fr l (by rw [hl]; simp) g
  have hp := (hk.mono (a.trans a2).gg).put (k := .inl n) (hv1.mono a2.gg)
  exact q G2 _ σ (ok2.writeD h h1 hp.keys hp.vals)
theorem en_sortedD {ks zs : List Int} (h : env[i]? = some (.md kvs)) (hk : kvs.map (·.1) = ks.map Sum.inl) (hl : ks.length < 64) (hz : ∀ ys : List Int, ys.Perm ks → ys.Pairwise (· ≤ ·) → ys = zs) :
    EvN K (tCB (fun xs H Q => ∃ (a : Addr) (kvs : List (Key × V)) (ks : List Int), xs = [.ref a] ∧ Rd H a (.dK kvs) ∧ kvs.map (·.1) = ks.map Sum.inl ∧ ks.length < 64 ∧ ∀ (ys : List Int) (p : Addr), ys.Perm ks → ys.Pairwise (· ≤ ·) → H p = none → Q (.ref p) (upd H p (.lst (ys.map V.int)))) (tCons (tVar i) tNil)) env (zs.map PyData.int) := fun G0 H0 G H σ ok Q q => by
  obtain ⟨l, kv, h1, g, hl0, hkd⟩ := ok.dict h
  refine ⟨_, h1, l, kv, ks, rfl, .inl hl0, hkd.keys.trans hk, hl, fun ys p hp hs hn => ?_⟩
  have e := hz ys hp hs
  subst e
  exact q p _ G _ (Fw.hid ok.gh hn) hn (ok.gh.free hn) upd_same (Dds.ints _)
end
end DL
namespace DL
open PySem L2
variable {K : PySem.W.Frag} {E : XK} {env : EnvD}
theorem lc_map {α : Type} {g : TG} {ts : List Nat} {tt : TT} {te : TE} (enc res : α → D) : ∀ {xs : List α}, (∀ x ∈ xs, ∃ em, EvG K g ts env (enc x) em ∧ EvT K tt em true ∧ EvD K te em (res x)) → Lc K g ts tt te env (xs.map enc) (xs.map res)
  | [], _ => .nil
  | x :: xs, h => by
    obtain ⟨em, h1, h2, h3⟩ := h x (List.mem_cons_self)
    exact .keep h1 h2 h3 (lc_map enc res fun y hy => h y (List.mem_cons_of_mem _ hy))
theorem lc_filter {α : Type} {g : TG} {ts : List Nat} {tt : TT} {te : TE} (enc : α → D) (res : α → Option D) : ∀ {xs : List α}, (∀ x ∈ xs, ∃ em, EvG K g ts env (enc x) em ∧ ((∃ z, res x = some z ∧ EvT K tt em true ∧ EvD K te em z) ∨ (res x = none ∧ EvT K tt em false))) → Lc K g ts tt te env (xs.map enc) (xs.filterMap res)
  | [], _ => .nil
  | x :: xs, h => by
    have ih := lc_filter (g := g) (ts := ts) (tt := tt) (te := te) enc res (xs := xs) fun y hy => h y (List.mem_cons_of_mem _ hy)
    obtain ⟨em, h1, h2⟩ := h x (List.mem_cons_self)
    rcases h2 with ⟨z, e, h3, h4⟩ | ⟨e, h3⟩
    · rw [List.map_cons, List.filterMap_cons_some e]; exact .keep h1 h3 h4 ih
    · rw [List.map_cons, List.filterMap_cons_none e]; exact .skip h1 h3 ih
theorem cutD_nat {xs : List D} {a b : Nat} (hb : b ≤ xs.length) (hab : a ≤ b) : cutD xs (some (a : Int)) (some (b : Int)) = (xs.drop a).take (b - a) := by
  unfold cutD
  rw [HT.sIx_nat, HT.sIx_nat, Nat.min_eq_left hb, Nat.min_eq_left (Nat.le_trans hab hb)]
end DL

/-! Spreads: the mathematics. -/
namespace MX
open PySem L2 DL
abbrev Spr := List (Int × Rat)
/-- the mean of f -/
def Ex (s : Spr) (f : Int → Rat) : Rat := (s.map fun p => p.2 * f p.1).sum
theorem ex_nil (f : Int → Rat) : Ex [] f = 0 := rfl
theorem ex_cons (p : Int × Rat) (s : Spr) (f : Int → Rat) : Ex (p :: s) f = p.2 * f p.1 + Ex s f := by unfold Ex; rw [List.map_cons, List.sum_cons]
theorem ex_app : ∀ (s t : Spr) (f : Int → Rat), Ex (s ++ t) f = Ex s f + Ex t f
  | [], t, f => by rw [List.nil_append, ex_nil]; grind
  | p :: s, t, f => by rw [List.cons_append, ex_cons, ex_cons, ex_app s t f]; grind
theorem ex_add : ∀ (s : Spr) (f g : Int → Rat), Ex s (fun x => f x + g x) = Ex s f + Ex s g
  | [], f, g => by rw [ex_nil, ex_nil, ex_nil]; grind
  | p :: s, f, g => by rw [ex_cons, ex_cons, ex_cons, ex_add s f g]; grind
theorem ex_mul : ∀ (s : Spr) (c : Rat) (f : Int → Rat), Ex s (fun x => c * f x) = c * Ex s f
  | [], c, f => by rw [ex_nil, ex_nil]; grind
  | p :: s, c, f => by rw [ex_cons, ex_cons, ex_mul s c f]; grind
theorem ex_zero : ∀ (s : Spr), Ex s (fun _ => 0) = 0
  | [] => rfl
  | p :: s => by rw [ex_cons, ex_zero s]; grind
theorem ex_congr {s : Spr} {f g : Int → Rat} (h : ∀ p ∈ s, f p.1 = g p.1) : Ex s f = Ex s g := by
  induction s with
  | nil => rfl
  | cons p s ih => rw [ex_cons, ex_cons, h p (List.mem_cons_self), ih fun q hq => h q (List.mem_cons_of_mem _ hq)]
theorem ex_perm {s t : Spr} (h : s.Perm t) (f : Int → Rat) : Ex s f = Ex t f := by
  induction h with
  | nil => rfl
  | cons x _ ih => rw [ex_cons, ex_cons, ih]
  | swap x y l => rw [ex_cons, ex_cons, ex_cons, ex_cons]; grind
  | trans _ _ h1 h2 => exact h1.trans h2
theorem ex_swap : ∀ (s t : Spr) (f : Int → Int → Rat), Ex s (fun x => Ex t (fun y => f x y)) = Ex t (fun y => Ex s (fun x => f x y))
  | [], t, f => by
    show (0 : Rat) = Ex t (fun y => 0)
    rw [ex_zero]
  | p :: s, t, f => by
    rw [ex_cons, ex_swap s t f]
    have e : (fun y => Ex (p :: s) (fun x => f x y)) = fun y => p.2 * f p.1 y + Ex s (fun x => f x y) := by funext y; rw [ex_cons]
    rw [e, ex_add, ex_mul]
/-- the weight of a value -/
def wt (s : Spr) (v : Int) : Rat := Ex s fun x => if x = v then 1 else 0
theorem wt_cons (p : Int × Rat) (s : Spr) (v : Int) : wt (p :: s) v = (if p.1 = v then p.2 else 0) + wt s v := by
  unfold wt
  rw [ex_cons]
  split <;> grind
theorem wt_app (s t : Spr) (v : Int) : wt (s ++ t) v = wt s v + wt t v := ex_app _ _ _
theorem wt_none {s : Spr} {v : Int} (h : v ∉ s.map (·.1)) : wt s v = 0 := by
  unfold wt
  rw [ex_congr (g := fun _ => 0) (fun p hp => if_neg fun z => h (List.mem_map.mpr ⟨p, hp, z⟩)), ex_zero]
/-! ### the dict of a gathering -/
def lkA (kvs : Spr) (k : Int) : Option Rat := (kvs.find? fun p => decide (p.1 = k)).map (·.2)
def putA (kvs : Spr) (k : Int) (v : Rat) : Spr := if (kvs.any fun p => decide (p.1 = k)) = true then kvs.map (fun p => if p.1 = k then (p.1, v) else p) else kvs ++ [(k, v)]
def stepA (kvs : Spr) (p : Int × Rat) : Spr := putA kvs p.1 ((lkA kvs p.1).getD 0 + p.2)
def acc (items : Spr) : Spr := items.foldl stepA []
theorem acc_snoc (items : Spr) (p : Int × Rat) : acc (items ++ [p]) = stepA (acc items) p := by unfold acc; rw [List.foldl_append]; rfl
theorem any_mem (kvs : Spr) (k : Int) : (kvs.any fun p => decide (p.1 = k)) = true ↔ k ∈ kvs.map (·.1) := by
  rw [List.any_eq_true]
  constructor
  · rintro ⟨p, hp, e⟩; exact List.mem_map.mpr ⟨p, hp, of_decide_eq_true e⟩
  · intro h; obtain ⟨p, hp, e⟩ := List.mem_map.mp h; exact ⟨p, hp, decide_eq_true e⟩
theorem upd_keys (kvs : Spr) (k : Int) (v : Rat) : (kvs.map fun p => if p.1 = k then (p.1, v) else p).map (·.1) = kvs.map (·.1) := by
  rw [List.map_map]
  refine List.map_congr_left fun p _ => ?_
  show (if p.1 = k then (p.1, v) else p).1 = p.1
  split <;> rfl
theorem put_keys (kvs : Spr) (k : Int) (v : Rat) : (putA kvs k v).map (·.1) = if k ∈ kvs.map (·.1) then kvs.map (·.1) else kvs.map (·.1) ++ [k] := by
  unfold putA
  by_cases h : (kvs.any fun p => decide (p.1 = k)) = true
  · rw [if_pos h, if_pos ((any_mem kvs k).mp h), upd_keys]
  · rw [if_neg h, if_neg (fun z => h ((any_mem kvs k).mpr z)), List.map_append]; rfl
theorem lk_mem {kvs : Spr} {k : Int} {v : Rat} (h : lkA kvs k = some v) : (k, v) ∈ kvs := by
  unfold lkA at h
  obtain ⟨p, hp, e⟩ := Option.map_eq_some_iff.mp h
  have h1 := List.find?_some hp
  have h2 := List.mem_of_find?_eq_some hp
  have : p.1 = k := of_decide_eq_true h1
  rw [← this, ← e]; exact h2
theorem lk_none {kvs : Spr} {k : Int} : lkA kvs k = none ↔ k ∉ kvs.map (·.1) := by
  unfold lkA
  rw [Option.map_eq_none_iff, List.find?_eq_none]
  constructor
  · intro h z; obtain ⟨p, hp, e⟩ := List.mem_map.mp z; exact h p hp (decide_eq_true e)
  · intro h p hp z; exact h (List.mem_map.mpr ⟨p, hp, of_decide_eq_true z⟩)
theorem lk_of {kvs : Spr} (hn : (kvs.map (·.1)).Nodup) {k : Int} {v : Rat} (h : (k, v) ∈ kvs) : lkA kvs k = some v := by
  induction kvs with
  | nil => cases h
  | cons p r ih =>
    rw [List.map_cons, List.nodup_cons] at hn
    unfold lkA
    by_cases e : p.1 = k
    · rw [List.find?_cons_of_pos (by simpa using e)]
      rcases List.mem_cons.mp h with z | z
      · rw [← z]; rfl
      · exact absurd (List.mem_map.mpr ⟨_, z, rfl⟩) (by rw [← e]; exact hn.1)
    · rw [List.find?_cons_of_neg (by simpa using e)]
      rcases List.mem_cons.mp h with z | z
      · exact absurd (by rw [← z]) e
      · exact ih hn.2 z
theorem put_nodup {kvs : Spr} (h : (kvs.map (·.1)).Nodup) (k : Int) (v : Rat) : ((putA kvs k v).map (·.1)).Nodup := by
  rw [put_keys]
  split
  · exact h
  · rename_i z
    rw [List.nodup_append]
    exact ⟨h, by simp, fun a ha b hb e => z (by rw [List.mem_singleton] at hb; rw [← hb, ← e]; exact ha)⟩
theorem put_ex {kvs : Spr} (h : (kvs.map (·.1)).Nodup) (k : Int) (c : Rat) (f : Int → Rat) : Ex (putA kvs k ((lkA kvs k).getD 0 + c)) f = Ex kvs f + c * f k := by
  unfold putA
  by_cases hk : (kvs.any fun p => decide (p.1 = k)) = true
  · rw [if_pos hk]
    obtain ⟨⟨k', v⟩, hp, e⟩ := List.mem_map.mp ((any_mem kvs k).mp hk)
    have e : k' = k := e
    subst e
    rw [lk_of h hp, Option.getD_some]
    clear hk
    induction kvs with
    | nil => cases hp
    | cons q r ih =>
      rw [List.map_cons, List.nodup_cons] at h
      rw [List.map_cons, ex_cons, ex_cons]
      rcases List.mem_cons.mp hp with z | z
      · subst z
        have er : r.map (fun p => if p.1 = k' then (p.1, v + c) else p) = r := by
          conv => rhs; rw [← List.map_id r]
          refine List.map_congr_left fun p hpr => ?_
          rw [if_neg fun z => h.1 (List.mem_map.mpr ⟨p, hpr, z⟩)]
          rfl
        rw [er, if_pos rfl]
        show (v + c) * f k' + Ex r f = v * f k' + Ex r f + c * f k'
        grind
      · have ne : ¬ q.1 = k' := fun e => h.1 (List.mem_map.mpr ⟨_, z, e.symm⟩)
        rw [if_neg ne, ih h.2 z]
        grind
  · rw [if_neg hk, ex_app, ex_cons, ex_nil]
    have : lkA kvs k = none := lk_none.mpr fun z => hk ((any_mem kvs k).mpr z)
    rw [this, Option.getD_none]
    show Ex kvs f + ((0 + c) * f k + 0) = Ex kvs f + c * f k
    grind
theorem foldA_nodup : ∀ (items kvs : Spr), (kvs.map (·.1)).Nodup → ((items.foldl stepA kvs).map (·.1)).Nodup
  | [], _, h => h
  | p :: items, kvs, h => foldA_nodup items _ (put_nodup h _ _)
theorem foldA_ex : ∀ (items kvs : Spr) (f : Int → Rat), (kvs.map (·.1)).Nodup → Ex (items.foldl stepA kvs) f = Ex kvs f + Ex items f
  | [], kvs, f, h => by rw [ex_nil]; show Ex kvs f = _; grind
  | p :: items, kvs, f, h => by
    show Ex (items.foldl stepA (stepA kvs p)) f = _
    rw [foldA_ex items (stepA kvs p) f (put_nodup h _ _)]
    unfold stepA
    rw [put_ex h, ex_cons]
    grind
theorem foldA_mem : ∀ (items kvs : Spr) (v : Int), v ∈ (items.foldl stepA kvs).map (·.1) ↔ v ∈ kvs.map (·.1) ∨ v ∈ items.map (·.1)
  | [], kvs, v => by simp
  | p :: items, kvs, v => by
    show v ∈ (items.foldl stepA (stepA kvs p)).map (·.1) ↔ _
    rw [foldA_mem items _ v]
    unfold stepA
    rw [put_keys, List.map_cons, List.mem_cons]
    split
    · rename_i h
      constructor
      · rintro (z | z)
        · exact .inl z
        · exact .inr (.inr z)
      · rintro (z | z | z)
        · exact .inl z
        · exact .inl (by rw [z]; exact h)
        · exact .inr z
    · rw [List.mem_append, List.mem_singleton]
      constructor
      · rintro ((z | z) | z)
        · exact .inl z
        · exact .inr (.inl z)
        · exact .inr (.inr z)
      · rintro (z | z | z)
        · exact .inl (.inl z)
        · exact .inl (.inr z)
        · exact .inr z
theorem acc_nodup (items : Spr) : ((acc items).map (·.1)).Nodup := foldA_nodup items [] (by simp)
theorem acc_ex (items : Spr) (f : Int → Rat) : Ex (acc items) f = Ex items f := by
  have h := foldA_ex items [] f (by simp)
  rw [ex_nil] at h
  show Ex (items.foldl stepA []) f = _
  grind
theorem acc_mem (items : Spr) (v : Int) : v ∈ (acc items).map (·.1) ↔ v ∈ items.map (·.1) := by
  have h := foldA_mem items [] v
  unfold acc
  simpa using h
theorem wt_nodup {kvs : Spr} (h : (kvs.map (·.1)).Nodup) {k : Int} {v : Rat} (hp : (k, v) ∈ kvs) : wt kvs k = v := by
  induction kvs with
  | nil => cases hp
  | cons q r ih =>
    rw [List.map_cons, List.nodup_cons] at h
    rw [wt_cons]
    rcases List.mem_cons.mp hp with z | z
    · subst z
      rw [if_pos rfl, wt_none h.1]; grind
    · rw [if_neg (fun e => h.1 (List.mem_map.mpr ⟨_, z, e.symm⟩)), ih h.2 z]; grind
theorem acc_lk {items : Spr} {v : Int} (h : v ∈ items.map (·.1)) : lkA (acc items) v = some (wt items v) := by
  obtain ⟨⟨k, c⟩, hp, e⟩ := List.mem_map.mp ((acc_mem items v).mpr h)
  have e : k = v := e
  subst e
  rw [lk_of (acc_nodup items) hp]
  have h1 := wt_nodup (acc_nodup items) hp
  unfold wt at h1
  rw [acc_ex] at h1
  exact congrArg some h1.symm
/-! ### sorted keys -/
theorem sorted_eq : ∀ {a b : List Int}, a.Pairwise (· < ·) → b.Pairwise (· < ·) → (∀ v, v ∈ a ↔ v ∈ b) → a = b
  | [], [], _, _, _ => rfl
  | [], y :: b, _, _, h => absurd ((h y).mpr (List.mem_cons_self)) (by simp)
  | x :: a, [], _, _, h => absurd ((h x).mp (List.mem_cons_self)) (by simp)
  | x :: a, y :: b, ha, hb, h => by
    rw [List.pairwise_cons] at ha hb
    have e : x = y := by
      rcases List.mem_cons.mp ((h x).mp List.mem_cons_self) with z | z
      · exact z
      · rcases List.mem_cons.mp ((h y).mpr List.mem_cons_self) with z2 | z2
        · exact z2.symm
        · have := ha.1 y z2; have := hb.1 x z; omega
    subst e
    rw [sorted_eq ha.2 hb.2 fun v => ?_]
    constructor
    · intro hv
      rcases List.mem_cons.mp ((h v).mp (List.mem_cons_of_mem _ hv)) with z | z
      · have := ha.1 v hv; omega
      · exact z
    · intro hv
      rcases List.mem_cons.mp ((h v).mpr (List.mem_cons_of_mem _ hv)) with z | z
      · have := hb.1 v hv; omega
      · exact z
def srt (l : List Int) : List Int := l.mergeSort (fun a b => decide (a ≤ b))
theorem srt_perm (l : List Int) : (srt l).Perm l := List.mergeSort_perm _ _
theorem srt_le (l : List Int) : (srt l).Pairwise (· ≤ ·) := by
  have h := List.pairwise_mergeSort (le := fun a b : Int => decide (a ≤ b)) (fun a b c h1 h2 => by simp at *; omega) (fun a b => by simp; omega) l
  exact h.imp fun h => of_decide_eq_true h
theorem lt_of_nodup {l : List Int} (h : l.Pairwise (· ≤ ·)) (hn : l.Nodup) : l.Pairwise (· < ·) := by
  have := h.and hn
  exact this.imp fun ⟨a, b⟩ => by omega
theorem srt_only {l ys : List Int} (hn : l.Nodup) (hp : ys.Perm l) (hs : ys.Pairwise (· ≤ ·)) : ys = srt l :=
  sorted_eq (lt_of_nodup hs (hp.nodup_iff.mpr hn)) (lt_of_nodup (srt_le l) ((srt_perm l).nodup_iff.mpr hn)) fun v => by rw [hp.mem_iff, (srt_perm l).mem_iff]
/-- what gathering gives -/
def gatF (items : Spr) : Spr := (srt ((acc items).map (·.1))).filterMap fun v => if wt items v = 0 then none else some (v, wt items v)
/-- in ascending order, nothing 0 -/
structure Can (s : Spr) : Prop where
  asc : (s.map (·.1)).Pairwise (· < ·)
  nz : ∀ p ∈ s, p.2 ≠ 0
theorem can_mem {s : Spr} (h : Can s) (v : Int) (c : Rat) : (v, c) ∈ s ↔ wt s v = c ∧ c ≠ 0 := by
  have hn : (s.map (·.1)).Nodup := h.asc.imp fun h => by omega
  constructor
  · intro hp; exact ⟨wt_nodup hn hp, h.nz _ hp⟩
  · rintro ⟨e, hc⟩
    by_cases hv : v ∈ s.map (·.1)
    · obtain ⟨⟨k, d⟩, hp, ek⟩ := List.mem_map.mp hv
      have ek : k = v := ek
      subst ek
      have := wt_nodup hn hp
      rw [← e, this]; exact hp
    · rw [wt_none hv] at e; exact absurd e.symm hc
theorem can_ext : ∀ {a b : Spr}, Can a → Can b → (∀ v, wt a v = wt b v) → a = b := by
  intro a b ha hb h
  have hm : ∀ v c, (v, c) ∈ a ↔ (v, c) ∈ b := fun v c => by rw [can_mem ha, can_mem hb, h]
  have hk : a.map (·.1) = b.map (·.1) := sorted_eq ha.asc hb.asc fun v => by
    constructor
    · intro z; obtain ⟨⟨k, c⟩, hp, e⟩ := List.mem_map.mp z; exact List.mem_map.mpr ⟨(k, c), (hm k c).mp hp, e⟩
    · intro z; obtain ⟨⟨k, c⟩, hp, e⟩ := List.mem_map.mp z; exact List.mem_map.mpr ⟨(k, c), (hm k c).mpr hp, e⟩
  have e : ∀ {s : Spr}, Can s → s = (s.map (·.1)).map fun v => (v, wt s v) := by
    intro s hs
    rw [List.map_map]
    conv => lhs; rw [← List.map_id s]
    refine List.map_congr_left fun p hp => ?_
    show p = (p.1, wt s p.1)
    have := ((can_mem hs p.1 p.2).mp hp).1
    rw [this]
  rw [e ha, e hb, hk]
  exact List.map_congr_left fun v _ => by rw [h v]
theorem gat_keys_lt (items : Spr) : (srt ((acc items).map (·.1))).Pairwise (· < ·) := lt_of_nodup (srt_le _) ((srt_perm _).nodup_iff.mpr (acc_nodup items))
theorem gat_can (items : Spr) : Can (gatF items) := by
  constructor
  · unfold gatF
    have h := gat_keys_lt items
    generalize srt ((acc items).map (·.1)) = l at h
    induction l with
    | nil => simp
    | cons v l ih =>
      rw [List.pairwise_cons] at h
      rw [List.filterMap_cons]
      by_cases e : wt items v = 0
      · rw [if_pos e]; exact ih h.2
      · rw [if_neg e, List.map_cons, List.pairwise_cons]
        refine ⟨fun u hu => ?_, ih h.2⟩
        obtain ⟨p, hp, rfl⟩ := List.mem_map.mp hu
        obtain ⟨x, hx, e2⟩ := List.mem_filterMap.mp hp
        split at e2
        · cases e2
        · cases e2; exact h.1 x hx
  · intro p hp
    obtain ⟨x, hx, e2⟩ := List.mem_filterMap.mp hp
    split at e2
    · cases e2
    · cases e2; assumption
theorem gat_wt (items : Spr) (v : Int) : wt (gatF items) v = wt items v := by
  by_cases e : wt items v = 0
  · have hn : v ∉ (gatF items).map (·.1) := fun z => by
      obtain ⟨p, hp, rfl⟩ := List.mem_map.mp z
      obtain ⟨x, hx, e2⟩ := List.mem_filterMap.mp hp
      split at e2
      · cases e2
      · cases e2; contradiction
    rw [wt_none hn, e]
  · have hv : v ∈ items.map (·.1) := by
      by_cases z : v ∈ items.map (·.1)
      · exact z
      · exact absurd (wt_none z) e
    have hs : v ∈ srt ((acc items).map (·.1)) := (srt_perm _).mem_iff.mpr ((acc_mem items v).mpr hv)
    have hp : (v, wt items v) ∈ gatF items := List.mem_filterMap.mpr ⟨v, hs, if_neg e⟩
    exact ((can_mem (gat_can items) _ _).mp hp).1
theorem gat_ext {a b : Spr} (h : ∀ v, wt a v = wt b v) : gatF a = gatF b := can_ext (gat_can a) (gat_can b) fun v => by rw [gat_wt, gat_wt, h]
theorem can_gat {s : Spr} (h : Can s) : gatF s = s := can_ext (gat_can s) h fun v => gat_wt s v
theorem ex_wt {a b : Spr} (h : ∀ f, Ex a f = Ex b f) : gatF a = gatF b := gat_ext fun v => h _
/-- the mean of f by the weights -/
theorem ex_keys {l : List Int} (hn : l.Nodup) (s : Spr) (hs : ∀ p ∈ s, p.1 ∈ l) (f : Int → Rat) : Ex s f = (l.map fun v => wt s v * f v).sum := by
  induction s with
  | nil =>
    rw [ex_nil]
    have : ∀ l : List Int, (l.map fun v => wt [] v * f v).sum = 0 := fun l => by
      induction l with
      | nil => rfl
      | cons v l ih => rw [List.map_cons, List.sum_cons, ih]; show (0 : Rat) * f v + 0 = 0; grind
    exact (this l).symm
  | cons p s ih =>
    rw [ex_cons, ih fun q hq => hs q (List.mem_cons_of_mem _ hq)]
    have key : ∀ (l : List Int), l.Nodup → (l.map fun v => wt (p :: s) v * f v).sum = (if p.1 ∈ l then p.2 * f p.1 else 0) + (l.map fun v => wt s v * f v).sum := by
      intro l hl
      induction l with
      | nil => rw [if_neg (by simp)]; show (0 : Rat) = 0 + 0; grind
      | cons v l ih2 =>
        rw [List.nodup_cons] at hl
        rw [List.map_cons, List.sum_cons, List.map_cons, List.sum_cons, ih2 hl.2, wt_cons]
        by_cases e : p.1 = v
        · subst e
          rw [if_pos rfl, if_pos (List.mem_cons_self), if_neg hl.1]; grind
        · rw [if_neg e]
          by_cases m : p.1 ∈ l
          · rw [if_pos m, if_pos (List.mem_cons_of_mem _ m)]; grind
          · rw [if_neg m, if_neg (by simp [e, m])]; grind
    rw [key l hn, if_pos (hs p (List.mem_cons_self))]
theorem ex_of_wt {a b : Spr} (h : ∀ v, wt a v = wt b v) (f : Int → Rat) : Ex a f = Ex b f := by
  have hn := acc_nodup (a ++ b)
  have hm : ∀ p, p ∈ a ∨ p ∈ b → p.1 ∈ (acc (a ++ b)).map (·.1) := fun p hp => (acc_mem _ _).mpr (by
    rw [List.map_append, List.mem_append]
    rcases hp with hp | hp
    · exact .inl (List.mem_map.mpr ⟨p, hp, rfl⟩)
    · exact .inr (List.mem_map.mpr ⟨p, hp, rfl⟩))
  rw [ex_keys hn a (fun p hp => hm p (.inl hp)), ex_keys hn b (fun p hp => hm p (.inr hp))]
  exact congrArg List.sum (List.map_congr_left fun v _ => by rw [h v])
theorem ex_gat (items : Spr) (f : Int → Rat) : Ex (gatF items) f = Ex items f := ex_of_wt (gat_wt items) f
end MX

/-! Spreads as data; sizes. -/
namespace MX
open PySem L2 DL
abbrev encI (p : Int × Rat) : PyData := .tuple [.int p.1, encQ p.2]
abbrev encS (s : Spr) : PyData := .list (s.map encI)
def encA (kvs : Spr) : List (Key × PyData) := kvs.map fun p => (Sum.inl p.1, encQ p.2)
theorem encA_keys (kvs : Spr) : (encA kvs).map (·.1) = (kvs.map (·.1)).map Sum.inl := by unfold encA; rw [List.map_map, List.map_map]; rfl
theorem encA_len (kvs : Spr) : (encA kvs).length = kvs.length := by unfold encA; rw [List.length_map]
theorem inl_dec (a b : Int) : decide ((Sum.inl a : Key) = Sum.inl b) = decide (a = b) := by
  by_cases h : a = b
  · subst h; simp
  · rw [decide_eq_false h, decide_eq_false (fun z => h (Sum.inl.inj z))]
theorem encA_lk (k : Int) : ∀ kvs : Spr, lkD (encA kvs) (.inl k) = (lkA kvs k).map encQ
  | [] => rfl
  | p :: r => by
    show lkD ((Sum.inl p.1, encQ p.2) :: encA r) (.inl k) = _
    have ih := encA_lk k r
    unfold lkD lkA at *
    by_cases e : p.1 = k
    · rw [List.find?_cons_of_pos (by simp [e]), List.find?_cons_of_pos (by simpa using e)]; rfl
    · rw [List.find?_cons_of_neg (by simpa using e), List.find?_cons_of_neg (by simpa using e)]; exact ih
theorem encA_any (k : Int) : ∀ kvs : Spr, ((encA kvs).any fun p => decide (p.1 = Sum.inl k)) = kvs.any fun p => decide (p.1 = k)
  | [] => rfl
  | p :: r => by
    show (((Sum.inl p.1, encQ p.2) :: encA r : List (Key × PyData)).any fun p => decide (p.1 = Sum.inl k)) = _
    rw [List.any_cons, List.any_cons, encA_any k r, inl_dec]
theorem encA_put (kvs : Spr) (k : Int) (r : Rat) : putD (encA kvs) (.inl k) (encQ r) = encA (putA kvs k r) := by
  unfold putD putA
  rw [encA_any]
  split
  · unfold encA
    rw [List.map_map, List.map_map]
    refine List.map_congr_left fun p _ => ?_
    show (if (Sum.inl p.1 : Key) = Sum.inl k then (Sum.inl p.1, encQ r) else (Sum.inl p.1, encQ p.2)) = (fun p : Int × Rat => ((Sum.inl p.1 : Key), encQ p.2)) (if p.1 = k then (p.1, r) else p)
    by_cases e : p.1 = k
    · rw [if_pos e, if_pos (by rw [e])]
    · rw [if_neg e, if_neg (fun z => e (Sum.inl.inj z))]
  · unfold encA; rw [List.map_append]; rfl
theorem acc_getD (items : Spr) (v : Int) : (lkA (acc items) v).getD 0 = wt items v := by
  by_cases h : v ∈ items.map (·.1)
  · rw [acc_lk h]; rfl
  · rw [lk_none.mpr (fun z => h ((acc_mem items v).mp z)), wt_none h]; rfl
theorem acc_len (items : Spr) : (acc items).length ≤ items.length := by
  have : ∀ (items kvs : Spr), (items.foldl stepA kvs).length ≤ kvs.length + items.length := by
    intro items
    induction items with
    | nil => intro kvs; simp
    | cons p r ih =>
      intro kvs
      have h := ih (stepA kvs p)
      have h2 : (stepA kvs p).length ≤ kvs.length + 1 := by
        unfold stepA putA
        split
        · rw [List.length_map]; omega
        · rw [List.length_append]; simp
      show (r.foldl stepA (stepA kvs p)).length ≤ _
      rw [List.length_cons]; omega
  have h := this items []
  unfold acc
  simpa using h
/-! ### comparing -/
theorem eqvQ (a b : Rat) : PyData.eqv (encQ a) (encQ b) = decide (a = b) := by
  have h1 : PyData.eqv (encQ a) (encQ b) = ((a.num == b.num) && ((a.den : Int) == b.den)) := by
    simp [PyData.eqv, PyData.eqvAll]
  rw [h1]
  by_cases h : a = b
  · subst h; simp
  · rw [decide_eq_false h]
    rw [Bool.and_eq_false_iff]
    by_cases hn : a.num = b.num
    · right
      simp only [beq_eq_false_iff_ne]
      intro z
      exact h (Rat.ext hn (by omega))
    · left
      simpa using hn
theorem shaped_Q (a : Rat) : SeqAt.shaped (encQ a) = true := rfl
theorem can_all {α : Type} (f : α → PyData) (h : ∀ x, (f x).canLay0 = true) : ∀ l : List α, PyData.canLayAll0 (l.map f) = true
  | [] => by simp [PyData.canLayAll0]
  | x :: l => by simp [PyData.canLayAll0, h x, can_all f h l]
theorem depth_all {α : Type} (f : α → PyData) (n : Nat) (h : ∀ x, (f x).depth ≤ n) : ∀ l : List α, PyData.depthAll (l.map f) ≤ n
  | [] => by simp [PyData.depthAll]
  | x :: l => by have := h x; have := depth_all f n h l; simp [PyData.depthAll]; omega
theorem shaped_S (s : Spr) : SeqAt.shaped (encS s) = true := by
  have h1 : PyData.canLayAll0 (s.map encI) = true := can_all encI (fun _ => rfl) s
  have h2 : PyData.depthAll (s.map encI) ≤ 2 := depth_all encI 2 (fun x => by simp [PyData.depth, PyData.depthAll]) s
  unfold SeqAt.shaped
  simp only [PyData.canLay0, PyData.depth, h1, Bool.true_and, decide_eq_true_eq]
  exact decide_eq_true (by omega)
/-! ### sizes of sums -/
/-- a numerator of at most b over N -/
def Sq (N b : Nat) (r : Rat) : Prop := ∃ k : Int, r = Rat.divInt k N ∧ k.natAbs ≤ b
theorem sq_zero {N : Nat} (b : Nat) : Sq N b 0 := ⟨0, by rw [Rat.zero_divInt], Nat.zero_le _⟩
theorem sq_mono {N b c : Nat} {r : Rat} (h : Sq N b r) (hb : b ≤ c) : Sq N c r := let ⟨k, h1, h2⟩ := h; ⟨k, h1, by omega⟩
theorem divInt_add {N : Int} (hN : N ≠ 0) (a b : Int) : Rat.divInt a N + Rat.divInt b N = Rat.divInt (a + b) N := by
  rw [Rat.divInt_eq_div, Rat.divInt_eq_div, Rat.divInt_eq_div, Rat.intCast_add]
  have : (N : Rat) ≠ 0 := fun z => hN (Rat.intCast_inj.mp z)
  grind
theorem sq_add {N b c : Nat} (hN : 0 < N) {r q : Rat} (h : Sq N b r) (h' : Sq N c q) : Sq N (b + c) (r + q) := by
  obtain ⟨k, e1, h1⟩ := h
  obtain ⟨j, e2, h2⟩ := h'
  exact ⟨k + j, by rw [e1, e2, divInt_add (by omega)], by have := Int.natAbs_add_le k j; omega⟩
theorem sq_neg {N b : Nat} {r : Rat} (h : Sq N b r) : Sq N b (-r) := by
  obtain ⟨k, e1, h1⟩ := h
  refine ⟨-k, ?_, by rw [Int.natAbs_neg]; exact h1⟩
  rw [e1, Rat.divInt_eq_div, Rat.divInt_eq_div, Rat.intCast_neg]
  grind
theorem sq_mul {N M b c : Nat} {r q : Rat} (h : Sq N b r) (h' : Sq M c q) : Sq (N * M) (b * c) (r * q) := by
  obtain ⟨k, e1, h1⟩ := h
  obtain ⟨j, e2, h2⟩ := h'
  refine ⟨k * j, ?_, by rw [Int.natAbs_mul]; exact Nat.mul_le_mul h1 h2⟩
  rw [e1, e2, Rat.divInt_mul_divInt]
  congr 1
theorem sq_lift {N b : Nat} (M : Nat) (hM : 0 < M) {r : Rat} (h : Sq N b r) : Sq (N * M) (b * M) r := by
  obtain ⟨k, e1, h1⟩ := h
  refine ⟨k * M, ?_, by rw [Int.natAbs_mul, Int.natAbs_natCast]; exact Nat.mul_le_mul_right _ h1⟩
  rw [e1, Rat.divInt_eq_div, Rat.divInt_eq_div, Rat.intCast_mul]
  show (k : Rat) / ((N : Int) : Rat) = (k : Rat) * ((M : Int) : Rat) / (((N * M : Nat) : Int) : Rat)
  rw [Int.natCast_mul, Rat.intCast_mul]
  have : ((M : Int) : Rat) ≠ 0 := fun z => (by have h0 : (M : Int) = 0 := Rat.intCast_inj.mp z; omega)
  by_cases hz : ((N : Int) : Rat) = 0
  · rw [hz]; grind
  · grind
theorem sq_qb {n N b : Nat} {r : Rat} (hN : 0 < N) (hn : N < 2 ^ n) (hb : b < 2 ^ n) (h : Sq N b r) : Qb n r := by
  obtain ⟨k, e, hk⟩ := h
  rw [e]
  exact qb_divInt (by omega) (Nat.lt_of_le_of_lt hk hb) (by show ((N : Int)).natAbs < 2 ^ n; rw [Int.natAbs_natCast]; exact hn)
/-- fractions whose sums stay small -/
structure Fin (N b n : Nat) : Prop where
  pos : 0 < N
  low : N < 2 ^ 3900
  top : (n + 1) * (b + 1) < 2 ^ 3900
def Fine (l : List Rat) : Prop := ∃ N b : Nat, Fin N b l.length ∧ ∀ r ∈ l, Sq N b r
theorem fin_qb {N b n m : Nat} {r : Rat} (f : Fin N b n) (hm : m ≤ n + 1) (h : Sq N (m * b) r) : Qb 4000 r := by
  have h1 : m * b < 2 ^ 3900 := Nat.lt_of_le_of_lt (Nat.mul_le_mul hm (Nat.le_succ b)) f.top
  exact (sq_qb (n := 3900) f.pos f.low h1 h).mono (by decide)
theorem sum_sq {N b : Nat} (hN : 0 < N) : ∀ {l : List Rat}, (∀ r ∈ l, Sq N b r) → Sq N (l.length * b) l.sum
  | [], _ => by rw [List.length_nil, Nat.zero_mul]; exact sq_zero 0
  | r :: l, h => by
    rw [List.sum_cons, List.length_cons, Nat.succ_mul, Nat.add_comm]
    exact sq_add hN (h r (List.mem_cons_self)) (sum_sq hN fun q hq => h q (List.mem_cons_of_mem _ hq))
theorem wt_sq {N b : Nat} (hN : 0 < N) : ∀ {s : Spr}, (∀ r ∈ s.map (·.2), Sq N b r) → ∀ v, Sq N (s.length * b) (wt s v)
  | [], _, v => by rw [List.length_nil, Nat.zero_mul]; exact sq_zero 0
  | p :: s, h, v => by
    rw [wt_cons, List.length_cons, Nat.succ_mul, Nat.add_comm]
    refine sq_add hN ?_ (wt_sq hN (fun q hq => h q (List.mem_cons_of_mem _ hq)) v)
    split
    · exact h _ (List.mem_cons_self)
    · exact sq_zero _
theorem fine_sum {l : List Rat} (h : Fine l) (i : Nat) : Qb 4000 (l.take i).sum := by
  obtain ⟨N, b, f, hs⟩ := h
  refine fin_qb f (m := (l.take i).length) ?_ (sum_sq f.pos fun r hr => hs r (List.mem_of_mem_take hr))
  rw [List.length_take]; omega
theorem fine_mem {l : List Rat} (h : Fine l) {r : Rat} (hr : r ∈ l) : Qb 4000 r := by
  obtain ⟨N, b, f, hs⟩ := h
  refine fin_qb f (m := 1) (by omega) (by rw [Nat.one_mul]; exact hs r hr)
theorem fine_wt {s : Spr} (h : Fine (s.map (·.2))) (i : Nat) (v : Int) : Qb 4000 (wt (s.take i) v) := by
  obtain ⟨N, b, f, hs⟩ := h
  refine fin_qb f (m := (s.take i).length) ?_ (wt_sq f.pos (fun r hr => hs r ?_) v)
  · rw [List.length_take, List.length_map]; omega
  · rw [List.map_take] at hr; exact List.mem_of_mem_take hr
end MX
namespace MX
open PySem L2 DL
theorem lk_split : ∀ {s : Spr} {v : Int} {c : Rat}, lkA s v = some c → ∃ i : Nat, s[i]? = some (v, c) ∧ ∀ (j : Nat) (p : Int × Rat), j < i → s[j]? = some p → p.1 ≠ v
  | [], _, _, h => by cases h
  | p :: s, v, c, h => by
    by_cases e : p.1 = v
    · have h2 : lkA (p :: s) v = some p.2 := by unfold lkA; rw [List.find?_cons_of_pos (by simpa using e)]; rfl
      rw [h2] at h
      refine ⟨0, ?_, fun j q hj => (by omega)⟩
      have hc : p.2 = c := Option.some.inj h
      rw [← e, ← hc]; rfl
    · have h2 : lkA (p :: s) v = lkA s v := by unfold lkA; rw [List.find?_cons_of_neg (by simpa using e)]
      rw [h2] at h
      obtain ⟨i, h3, h4⟩ := lk_split h
      refine ⟨i + 1, by simpa using h3, fun j q hj hq => ?_⟩
      cases j with
      | zero => simp at hq; rw [← hq]; exact e
      | succ j => exact h4 j q (by omega) (by simpa using hq)
/-- what is gathered is fine -/
structure Gd (s : Spr) : Prop where
  fine : Fine (s.map (·.2))
  len : s.length ≤ 10000
  few : (acc s).length < 64
theorem sum_ex (s : Spr) : (s.map fun p => (p.1 : Rat) * p.2).sum = Ex s fun x => (x : Rat) := by
  unfold Ex
  exact congrArg List.sum (List.map_congr_left fun p _ => by grind)
structure Mn (s : Spr) : Prop where
  fine : Fine (s.map fun p => (p.1 : Rat) * p.2)
  val : ∀ p ∈ s, Bt 4000 p.1 ∧ Qb 4000 p.2
  len : s.length ≤ 10000
theorem qb_int {n : Nat} {x : Int} (h : Bt n x) (hn : 0 < n) : Qb n (x : Rat) := ⟨h, Bt.one hn⟩
def shF (s : Spr) (k : Int) : Spr := s.map fun p => (p.1 + k, p.2)
/-- weights over their sum -/
def wtd (vs ws : List Int) : Spr := (List.range vs.length).map fun k => (vs.getD k 0, Rat.divInt (ws.getD k 0) ws.sum)
theorem wtd_len (vs ws : List Int) : (wtd vs ws).length = vs.length := by unfold wtd; rw [List.length_map, List.length_range]
structure Wd (vs ws : List Int) : Prop where
  len : vs.length = ws.length
  few : vs.length < 64
  ne : vs ≠ []
  pos : ∀ x ∈ ws, 1 ≤ x ∧ x ≤ 1000000000
theorem sum_bd : ∀ {ws : List Int}, (∀ x ∈ ws, 1 ≤ x ∧ x ≤ 1000000000) → (ws.length : Int) ≤ ws.sum ∧ ws.sum ≤ 1000000000 * (ws.length : Int)
  | [], _ => by simp
  | x :: ws, h => by
    have h1 := h x (List.mem_cons_self)
    have h2 := sum_bd (ws := ws) fun y hy => h y (List.mem_cons_of_mem _ hy)
    rw [List.sum_cons, List.length_cons]
    omega
theorem Wd.sum {vs ws : List Int} (h : Wd vs ws) : 1 ≤ ws.sum ∧ ws.sum < 2 ^ 40 := by
  have h1 := sum_bd h.pos
  have h2 := h.few
  have h3 : 0 < vs.length := List.length_pos_iff.mpr h.ne
  have h4 := h.len
  have : (2 : Int) ^ 40 = 1099511627776 := by decide
  omega
theorem sq_div {n W b : Nat} {k : Int} (h : k.natAbs ≤ b) : Sq W b (Rat.divInt k W) := ⟨k, rfl, h⟩
theorem wtd_fine {vs ws : List Int} (h : Wd vs ws) : Fine ((wtd vs ws).map (·.2)) := by
  obtain ⟨h1, h2⟩ := h.sum
  have e : ((ws.sum.toNat : Nat) : Int) = ws.sum := by omega
  refine ⟨ws.sum.toNat, 1000000000, ⟨by omega, ?_, ?_⟩, fun r hr => ?_⟩
  · have : (2 : Int) ^ 40 = 1099511627776 := by decide
    exact Nat.lt_of_lt_of_le (show ws.sum.toNat < 2 ^ 40 by omega) (Nat.pow_le_pow_right (by decide) (by decide))
  · rw [List.length_map, wtd_len]
    have := h.few
    have h3 : (vs.length + 1) * (1000000000 + 1) ≤ 64 * 1000000001 := Nat.mul_le_mul_right _ (by omega)
    exact Nat.lt_of_le_of_lt h3 (Nat.lt_of_lt_of_le (show 64 * 1000000001 < 2 ^ 40 by decide) (Nat.pow_le_pow_right (by decide) (by decide)))
  · obtain ⟨p, hp, rfl⟩ := List.mem_map.mp hr
    unfold wtd at hp
    obtain ⟨k, hk, rfl⟩ := List.mem_map.mp hp
    rw [List.mem_range, h.len] at hk
    refine ⟨ws.getD k 0, by rw [e], ?_⟩
    rw [List.getD_eq_getElem?_getD, List.getElem?_eq_getElem hk, Option.getD_some]
    have := h.pos _ (List.getElem_mem hk)
    omega
theorem wtd_gd {vs ws : List Int} (h : Wd vs ws) : Gd (wtd vs ws) := ⟨wtd_fine h, by rw [wtd_len]; have := h.few; omega, Nat.lt_of_le_of_lt (acc_len _) (by rw [wtd_len]; exact h.few)⟩
/-! ### the law's spreads -/
def sprLims (n : Nat) (width : Int) : List Int := (n : Int) :: (List.replicate n width ++ List.replicate n 9)
def sprSize (cell : Int) (n : Nat) (width : Int) : Nat := (1 + (drawsF cell (sprLims n width)).getD 0 0).toNat
def sprV (cell : Int) (n : Nat) (low width : Int) : List Int := (((drawsF cell (sprLims n width)).drop 1).take (sprSize cell n width)).map fun v => low + v
def sprW (cell : Int) (n : Nat) (width : Int) : List Int := (((drawsF cell (sprLims n width)).drop (1 + n)).take (sprSize cell n width)).map fun v => 1 + v
def sprF (cell : Int) (n : Nat) (low width : Int) : Spr := gatF (wtd (sprV cell n low width) (sprW cell n width))
structure SprOk (n : Nat) (width : Int) : Prop where
  n1 : 1 ≤ n
  n2 : n < 64
  w1 : 1 ≤ width
  w2 : width ≤ 1000000
theorem sprLims_ok {n : Nat} {width : Int} (h : SprOk n width) : (∀ l ∈ sprLims n width, 0 < l) ∧ (∀ l ∈ sprLims n width, Bt 30 l) ∧ (sprLims n width).length = 1 + 2 * n := by
  have key : ∀ l ∈ sprLims n width, 0 < l ∧ l ≤ 1000000 := by
    intro l hl
    have h1 := h.n1; have h2 := h.n2; have h3 := h.w1; have h4 := h.w2
    rcases List.mem_cons.mp hl with z | z
    · omega
    · rcases List.mem_append.mp z with z | z
      · rw [(List.mem_replicate.mp z).2]; omega
      · rw [(List.mem_replicate.mp z).2]; omega
  refine ⟨fun l hl => (key l hl).1, fun l hl => bt_range (by have := key l hl; omega) (by have := key l hl; omega), ?_⟩
  unfold sprLims
  rw [List.length_cons, List.length_append, List.length_replicate, List.length_replicate]
  omega
theorem spr_size {n : Nat} {width : Int} (h : SprOk n width) (cell : Int) : ∃ x : Int, (drawsF cell (sprLims n width))[0]? = some x ∧ 0 ≤ x ∧ x < n ∧ sprSize cell n width = (1 + x).toNat ∧ 1 ≤ sprSize cell n width ∧ sprSize cell n width ≤ n := by
  obtain ⟨x, h1, h2, h3⟩ := drawsF_at cell (ls := sprLims n width) (i := 0) (sprLims_ok h).1 rfl
  have e : sprSize cell n width = (1 + x).toNat := by unfold sprSize; rw [List.getD_eq_getElem?_getD, h1]; rfl
  refine ⟨x, h1, h2, h3, e, ?_, ?_⟩
  · rw [e]; omega
  · rw [e]; omega
theorem spr_len {n : Nat} {low width : Int} (h : SprOk n width) (cell : Int) : (sprV cell n low width).length = sprSize cell n width ∧ (sprW cell n width).length = sprSize cell n width := by
  obtain ⟨x, _, _, _, _, h1, h2⟩ := spr_size h cell
  have hl := (sprLims_ok h).2.2
  unfold sprV sprW
  rw [List.length_map, List.length_take, List.length_drop, drawsF_len, List.length_map, List.length_take, List.length_drop, drawsF_len, hl]
  omega
theorem spr_draw {n : Nat} {width : Int} (h : SprOk n width) (cell : Int) {i : Nat} {x : Int} (hx : (drawsF cell (sprLims n width))[i + 1]? = some x) : 0 ≤ x ∧ (i < n → x < width) ∧ (n ≤ i → x < 9) := by
  have hi := (List.getElem?_eq_some_iff.mp hx).1
  rw [drawsF_len] at hi
  have hl := (sprLims_ok h).2.2
  have hi2 := hi
  rw [hl] at hi2
  obtain ⟨l, hl2⟩ : ∃ l, (sprLims n width)[i + 1]? = some l := ⟨_, List.getElem?_eq_getElem hi⟩
  obtain ⟨y, h1, h2, h3⟩ := drawsF_at cell (ls := sprLims n width) (i := i + 1) (sprLims_ok h).1 hl2
  rw [hx] at h1
  cases h1
  have e : (List.replicate n width ++ List.replicate n 9)[i]? = some l := hl2
  refine ⟨h2, fun z => ?_, fun z => ?_⟩
  · rw [List.getElem?_append_left (by rw [List.length_replicate]; exact z), List.getElem?_replicate, if_pos z] at e
    cases e; exact h3
  · rw [List.getElem?_append_right (by rw [List.length_replicate]; exact z), List.getElem?_replicate, List.length_replicate, if_pos (by omega)] at e
    cases e; exact h3
theorem sprV_mem {n : Nat} {low width : Int} (h : SprOk n width) (cell : Int) {v : Int} (hv : v ∈ sprV cell n low width) : low ≤ v ∧ v < low + width := by
  unfold sprV at hv
  obtain ⟨x, hx, rfl⟩ := List.mem_map.mp hv
  obtain ⟨i, hi, e⟩ := List.mem_iff_getElem.mp hx
  have e2 := List.getElem?_eq_some_iff.mpr ⟨hi, e⟩
  obtain ⟨_, _, _, _, _, _, h2⟩ := spr_size h cell
  rw [List.length_take] at hi
  rw [List.getElem?_take_of_lt (by omega), List.getElem?_drop] at e2
  have := spr_draw h cell (i := i) (x := x) (by rw [Nat.add_comm]; exact e2)
  have h3 := this.2.1 (by omega)
  omega
theorem sprW_mem {n : Nat} {width : Int} (h : SprOk n width) (cell : Int) {v : Int} (hv : v ∈ sprW cell n width) : 1 ≤ v ∧ v ≤ 9 := by
  unfold sprW at hv
  obtain ⟨x, hx, rfl⟩ := List.mem_map.mp hv
  obtain ⟨i, hi, e⟩ := List.mem_iff_getElem.mp hx
  have e2 := List.getElem?_eq_some_iff.mpr ⟨hi, e⟩
  rw [List.length_take] at hi
  rw [List.getElem?_take_of_lt (by omega), List.getElem?_drop] at e2
  have := spr_draw h cell (i := n + i) (x := x) (by rw [show n + i + 1 = 1 + n + i by omega]; exact e2)
  have h3 := this.2.2 (by omega)
  omega
theorem spr_wd {n : Nat} {low width : Int} (h : SprOk n width) (cell : Int) : Wd (sprV cell n low width) (sprW cell n width) := by
  obtain ⟨h1, h2⟩ := spr_len (low := low) h cell
  obtain ⟨_, _, _, _, _, h3, h4⟩ := spr_size h cell
  refine ⟨by rw [h1, h2], by rw [h1]; have := h.n2; omega, fun z => by rw [z] at h1; simp at h1; omega, fun x hx => ?_⟩
  have := sprW_mem h cell hx
  omega
end MX

namespace DL
open PySem L2
abbrev rLenS (K : PySem.W.Frag) : List V → Hp → VK → Prop := fun xs H Q => ∃ p ys, xs = [.ref p] ∧ (SqL K H p ys ∨ SqT K H p ys) ∧ Q (.int ys.length) H
variable {K : PySem.W.Frag} {E : XK} {env : EnvD}
/-- f(..).append(x): the new list is dropped -/
theorem run_appendN {ta te : TE} {ds : List D} {d : D} (ha : EvN K ta env ds) (h : EvD K te env d) (hl : ds.length < 10000000) : Run K E (tDrop (tBM K "list" rAppend ta (tCons te tNil))) env (.nx env) := fun G0 H0 G H σ D ok q => by
  refine ha G0 H0 G H σ ok _ fun p xs G1 H1 a hp g1 h1 hd => ?_
  refine ⟨.inl ⟨rfl, xs, SqL.of h1⟩, h G0 H0 G1 H1 σ (ok.go a) _ fun v G2 H2 a2 hv => ⟨p, xs, v, rfl, rfl, a2.hh _ _ h1, ?_, ?_⟩⟩
  · rw [hd.len, sizeLine_eq]; omega
  · have g2 : G2 p = none := a2.fr p (by rw [h1]; simp) g1
    have aa := a.trans a2
    exact q G2 _ σ (ok.go ⟨aa.gg, same_upd2 aa.gh g2, fun b o e => by rw [upd_ne (ne_of_none e hp)]; exact aa.hh _ _ e, aa.fr⟩)
/-- what repr may be asked of -/
structure Shw (d : D) : Prop where
  can : d.showable = true
  nod : d.hasDict = false
  dep : d.depth ≤ 60
  len : d.shown.length ≤ sizeLine
  seq : (∃ ds, d = .list ds) ∨ ∃ ds, d = .tuple ds
theorem ed_repr {ta : TE} {d : D} (h : EvP K ta env d) (hs : Shw d) : EvD K (tCB (rRepr K) (tCons ta tNil)) env (.str d.shown) := fun G0 H0 G H σ ok Q q =>
  h G0 H0 G H σ ok _ fun v G1 H1 a hv => by
    have key : ∃ p, v = .ref p := by
      rcases hs.seq with ⟨ds, e⟩ | ⟨ds, e⟩
      · subst e; obtain ⟨p, xs, e, _⟩ := hv.lst_inv; exact ⟨p, e⟩
      · subst e; obtain ⟨p, xs, e, _⟩ := hv.tup_inv; exact ⟨p, e⟩
    obtain ⟨p, rfl⟩ := key
    exact ⟨p, d, rfl, hv.dp hs.nod, hs.can, hs.nod, hs.dep, hs.len, q _ G1 H1 a (.str _)⟩
end DL
namespace MX
open PySem L2 DL
/-! ### spreads of small numbers -/
structure Ty (n : Nat) (s : Spr) : Prop where
  q : ∃ N b : Nat, 0 < N ∧ N < 2 ^ n ∧ b < 2 ^ n ∧ ∀ p ∈ s, Sq N b p.2
  v : ∀ p ∈ s, Bt n p.1
  len : s.length < 64
theorem pow_lt {n m : Nat} (h : n ≤ m) : 2 ^ n ≤ 2 ^ m := Nat.pow_le_pow_right (by decide) h
theorem few_lt {k b n m : Nat} (hk : k ≤ 64) (hb : b ≤ 2 ^ n) (h : n + 6 ≤ m) : k * b ≤ 2 ^ m := by
  have h1 : k * b ≤ 64 * 2 ^ n := Nat.mul_le_mul hk hb
  have h2 : 64 * 2 ^ n = 2 ^ (n + 6) := by rw [Nat.pow_add]; omega
  exact Nat.le_trans (by omega) (pow_lt h)
theorem Ty.mono {n m : Nat} {s : Spr} (h : Ty n s) (hm : n ≤ m) : Ty m s := by
  obtain ⟨⟨N, b, h1, h2, h3, h4⟩, h5, h6⟩ := h
  exact ⟨⟨N, b, h1, Nat.lt_of_lt_of_le h2 (pow_lt hm), Nat.lt_of_lt_of_le h3 (pow_lt hm), h4⟩, fun p hp => (h5 p hp).mono hm, h6⟩
theorem fin_of {N b n k m : Nat} (h1 : 0 < N) (h2 : N < 2 ^ n) (h3 : b < 2 ^ m) (hk : k < 64) (hn : n ≤ 3900) (hm : m ≤ 3890) : Fin N b k := by
  refine ⟨h1, Nat.lt_of_lt_of_le h2 (pow_lt hn), ?_⟩
  have := few_lt (k := k + 1) (b := b + 1) (n := m) (m := 3896) (by omega) h3 (by omega)
  exact Nat.lt_of_le_of_lt this (Nat.pow_lt_pow_right (by decide) (by decide))
theorem Ty.fine {n : Nat} {s : Spr} (h : Ty n s) (hn : n ≤ 3000) : Fine (s.map (·.2)) := by
  obtain ⟨⟨N, b, h1, h2, h3, h4⟩, h5, h6⟩ := h
  exact ⟨N, b, fin_of h1 h2 h3 (by rw [List.length_map]; exact h6) (by omega) (by omega), fun r hr => by obtain ⟨p, hp, rfl⟩ := List.mem_map.mp hr; exact h4 p hp⟩
theorem Ty.gd {n : Nat} {s : Spr} (h : Ty n s) (hn : n ≤ 3000) : Gd s := ⟨h.fine hn, by have := h.len; omega, Nat.lt_of_le_of_lt (acc_len _) h.len⟩
theorem Ty.qb {n : Nat} {s : Spr} (h : Ty n s) : ∀ p ∈ s, Qb n p.2 := fun p hp => by
  obtain ⟨⟨N, b, h1, h2, h3, h4⟩, h5, h6⟩ := h
  exact sq_qb h1 h2 h3 (h4 p hp)
theorem sq_intmul {N b n : Nat} {x : Int} {r : Rat} (hN : 0 < N) (hx : Bt n x) (h : Sq N b r) : Sq N (2 ^ n * b) ((x : Rat) * r) := by
  obtain ⟨k, e, hk⟩ := h
  refine ⟨x * k, ?_, ?_⟩
  · rw [e, Rat.divInt_eq_div, Rat.divInt_eq_div, Rat.intCast_mul]; grind
  · rw [Int.natAbs_mul]
    exact Nat.mul_le_mul (Nat.le_of_lt hx) hk
theorem Ty.sqx {n : Nat} {s : Spr} (h : Ty n s) : ∃ N b : Nat, 0 < N ∧ N < 2 ^ n ∧ b < 2 ^ (2 * n) ∧ ∀ r ∈ s.map (fun p => (p.1 : Rat) * p.2), Sq N b r := by
  obtain ⟨⟨N, b, h1, h2, h3, h4⟩, h5, h6⟩ := h
  refine ⟨N, 2 ^ n * b, h1, h2, ?_, fun r hr => ?_⟩
  · rw [show 2 * n = n + n by omega, Nat.pow_add]
    exact Nat.mul_lt_mul_of_le_of_lt (Nat.le_refl _) h3 (Nat.two_pow_pos n)
  · obtain ⟨p, hp, rfl⟩ := List.mem_map.mp hr
    exact sq_intmul h1 (h5 p hp) (h4 p hp)
theorem Ty.mn {n : Nat} {s : Spr} (h : Ty n s) (hn : n ≤ 1500) : Mn s := by
  obtain ⟨N, b, h1, h2, h3, h4⟩ := h.sqx
  exact ⟨⟨N, b, fin_of h1 h2 h3 (by rw [List.length_map]; exact h.len) (by omega) (by omega), h4⟩, fun p hp => ⟨(h.v p hp).mono (by omega), (h.qb p hp).mono (by omega)⟩, by have := h.len; omega⟩
theorem Ty.mean {n m : Nat} {s : Spr} (h : Ty n s) (hm : 2 * n + 7 ≤ m) : Qb m (Ex s fun x => (x : Rat)) := by
  obtain ⟨N, b, h1, h2, h3, h4⟩ := h.sqx
  rw [← sum_ex]
  have h5 := sum_sq h1 h4
  rw [List.length_map] at h5
  have h6 : s.length * b ≤ 2 ^ (2 * n + 6) := few_lt (by have := h.len; omega) (Nat.le_of_lt h3) (Nat.le_refl _)
  exact (sq_qb (n := 2 * n + 7) h1 (Nat.lt_of_lt_of_le h2 (pow_lt (by omega))) (Nat.lt_of_le_of_lt h6 (Nat.pow_lt_pow_right (by decide) (by omega))) h5).mono hm
theorem Ty.wts {n : Nat} {s : Spr} (h : Ty n s) : ∃ N b : Nat, 0 < N ∧ N < 2 ^ n ∧ b < 2 ^ (n + 6) ∧ ∀ v, Sq N b (wt s v) := by
  obtain ⟨⟨N, b, h1, h2, h3, h4⟩, h5, h6⟩ := h
  refine ⟨N, s.length * b, h1, h2, ?_, wt_sq h1 fun r hr => ?_⟩
  · have e : (2 : Nat) ^ (n + 6) = 64 * 2 ^ n := by rw [Nat.pow_add]; omega
    rw [e]
    exact Nat.lt_of_le_of_lt (Nat.mul_le_mul_left _ (Nat.le_of_lt h3)) (Nat.mul_lt_mul_of_pos_right h6 (Nat.two_pow_pos n))
  · obtain ⟨p, hp, rfl⟩ := List.mem_map.mp hr; exact h4 p hp
theorem Ty.wt {n m : Nat} {s : Spr} (h : Ty n s) (hm : n + 6 ≤ m) (v : Int) : Qb m (wt s v) := by
  obtain ⟨N, b, h1, h2, h3, h4⟩ := h.wts
  exact (sq_qb h1 (Nat.lt_of_lt_of_le h2 (pow_lt (by omega))) h3 (h4 v)).mono hm
theorem gat_mem {s : Spr} {p : Int × Rat} (h : p ∈ gatF s) : p.1 ∈ s.map (·.1) ∧ p.2 = wt s p.1 := by
  obtain ⟨x, hx, e2⟩ := List.mem_filterMap.mp h
  split at e2
  · cases e2
  · cases e2
    exact ⟨(acc_mem s x).mp ((srt_perm _).mem_iff.mp hx), rfl⟩
theorem gat_len (s : Spr) : (gatF s).length ≤ s.length := by
  unfold gatF
  refine Nat.le_trans (List.length_filterMap_le _ _) ?_
  rw [(srt_perm _).length_eq, List.length_map]
  exact acc_len s
theorem Ty.gat {n : Nat} {s : Spr} (h : Ty n s) : Ty (n + 6) (gatF s) := by
  obtain ⟨N, b, h1, h2, h3, h4⟩ := h.wts
  refine ⟨⟨N, b, h1, Nat.lt_of_lt_of_le h2 (pow_lt (by omega)), h3, fun p hp => by rw [(gat_mem hp).2]; exact h4 _⟩, fun p hp => ?_, Nat.lt_of_le_of_lt (gat_len s) h.len⟩
  obtain ⟨q, hq, e⟩ := List.mem_map.mp (gat_mem hp).1
  rw [← e]
  exact (h.v q hq).mono (by omega)
theorem Ty.sh {n : Nat} {s : Spr} (h : Ty n s) {k : Int} (hk : Bt n k) : Ty (n + 1) (shF s k) := by
  obtain ⟨⟨N, b, h1, h2, h3, h4⟩, h5, h6⟩ := h
  refine ⟨⟨N, b, h1, Nat.lt_of_lt_of_le h2 (pow_lt (by omega)), Nat.lt_of_lt_of_le h3 (pow_lt (by omega)), fun p hp => ?_⟩, fun p hp => ?_, by unfold shF; rw [List.length_map]; exact h6⟩
  · obtain ⟨q, hq, rfl⟩ := List.mem_map.mp hp; exact h4 q hq
  · obtain ⟨q, hq, rfl⟩ := List.mem_map.mp hp; exact (h5 q hq).add hk
theorem ty_wtd {vs ws : List Int} (h : Wd vs ws) (hv : ∀ v ∈ vs, Bt 40 v) : Ty 40 (wtd vs ws) := by
  obtain ⟨h1, h2⟩ := h.sum
  have e : ((ws.sum.toNat : Nat) : Int) = ws.sum := by omega
  have p40 : (2 : Int) ^ 40 = 1099511627776 := by decide
  refine ⟨⟨ws.sum.toNat, 1000000000, by omega, by show _ < 1099511627776; omega, by decide, fun p hp => ?_⟩, fun p hp => ?_, by rw [wtd_len]; exact h.few⟩
  · unfold wtd at hp
    obtain ⟨k, hk, rfl⟩ := List.mem_map.mp hp
    rw [List.mem_range, h.len] at hk
    refine ⟨ws.getD k 0, by rw [e], ?_⟩
    rw [List.getD_eq_getElem?_getD, List.getElem?_eq_getElem hk, Option.getD_some]
    have := h.pos _ (List.getElem_mem hk)
    omega
  · unfold wtd at hp
    obtain ⟨k, hk, rfl⟩ := List.mem_map.mp hp
    rw [List.mem_range] at hk
    show Bt 40 (vs.getD k 0)
    rw [List.getD_eq_getElem?_getD, List.getElem?_eq_getElem hk, Option.getD_some]
    exact hv _ (List.getElem_mem hk)
theorem ty_spr {n : Nat} {low width : Int} (h : SprOk n width) (hl : -1000000 ≤ low ∧ low ≤ 1000000) (cell : Int) : Ty 46 (sprF cell n low width) :=
  (ty_wtd (spr_wd h cell) fun v hv => by
    have h1 := sprV_mem h cell hv
    have := h.w2
    exact bt_range (by have : (2 : Int) ^ 40 = 1099511627776 := by decide
                       omega) (by have : (2 : Int) ^ 40 = 1099511627776 := by decide
                                  omega)).gat
/-! ### showing -/
theorem leaf_int {x : Int} (h : Bt 1900 x) : PyData.leavesShort 2000 (.int x) = true ∧ PyData.showable (.int x) = true := by
  have hl : x.natAbs.log2 < 1900 := PySem.Flt.log2_lt_of (by decide) h
  refine ⟨?_, ?_⟩
  · simp only [PyData.leavesShort, decide_eq_true_eq]
    have := int_text_length_le (a := x) (k := 1900) (by decide) hl
    show (Str.ofString (toString x)).length ≤ 2000
    rw [ofString_length]; omega
  · simp only [PyData.showable, decide_eq_true_eq]; omega
theorem shw_of {d : PyData} (h1 : d.leavesShort 2000 = true) (h2 : d.showable = true) (h3 : d.hasDict = false) (h4 : d.depth ≤ 60) (h5 : d.bulk ≤ 5000) (h6 : (∃ ds, d = .list ds) ∨ ∃ ds, d = .tuple ds) : Shw d := by
  refine ⟨h2, h3, h4, ?_, h6⟩
  have h := PyData.shown_le_bulk 2000 (by decide) d h1
  rw [sizeLine_eq]
  have : (2000 + 2) * d.bulk ≤ 2002 * 5000 := Nat.mul_le_mul_left _ h5
  omega
theorem shw_Q {r : Rat} (h : Qb 1900 r) : Shw (encQ r) := by
  obtain ⟨a1, a2⟩ := leaf_int h.num
  obtain ⟨b1, b2⟩ := leaf_int h.den
  exact shw_of (by simp only [PyData.leavesShort, PyData.leavesShortAll, Bool.and_true, Bool.and_eq_true] at *; exact ⟨a1, b1⟩) (by simp only [PyData.showable, PyData.showableAll, Bool.and_true, Bool.and_eq_true] at *; exact ⟨a2, b2⟩) (by simp [PyData.hasDict, PyData.hasDictAll]) (by simp [PyData.depth, PyData.depthAll]) (by simp [PyData.bulk, PyData.bulkAll]) (.inr ⟨_, rfl⟩)
theorem leaf_I {p : Int × Rat} (h1 : Bt 1900 p.1) (h2 : Qb 1900 p.2) : (encI p).leavesShort 2000 = true ∧ (encI p).showable = true := by
  obtain ⟨a1, a2⟩ := leaf_int h1
  obtain ⟨b1, b2⟩ := leaf_int h2.num
  obtain ⟨c1, c2⟩ := leaf_int h2.den
  exact ⟨by simp only [PyData.leavesShort, PyData.leavesShortAll, Bool.and_true, Bool.and_eq_true] at *; exact ⟨a1, b1, c1⟩, by simp only [PyData.showable, PyData.showableAll, Bool.and_true, Bool.and_eq_true] at *; exact ⟨a2, b2, c2⟩⟩
theorem shw_S {s : Spr} (h : ∀ p ∈ s, Bt 1900 p.1 ∧ Qb 1900 p.2) (hl : s.length ≤ 900) : Shw (encS s) := by
  have k1 : ∀ t : Spr, (∀ p ∈ t, Bt 1900 p.1 ∧ Qb 1900 p.2) → PyData.leavesShortAll 2000 (t.map encI) = true ∧ PyData.showableAll (t.map encI) = true ∧ PyData.hasDictAll (t.map encI) = false ∧ PyData.bulkAll (t.map encI) = 5 * t.length := by
    intro t
    induction t with
    | nil => intro _; simp [PyData.leavesShortAll, PyData.showableAll, PyData.hasDictAll, PyData.bulkAll]
    | cons p t ih =>
      intro h
      obtain ⟨i1, i2, i3, i4⟩ := ih fun q hq => h q (List.mem_cons_of_mem _ hq)
      obtain ⟨j1, j2⟩ := leaf_I (h p (List.mem_cons_self)).1 (h p (List.mem_cons_self)).2
      rw [List.map_cons]
      refine ⟨?_, ?_, ?_, ?_⟩
      · simp only [PyData.leavesShortAll, j1, i1, Bool.and_true]
      · simp only [PyData.showableAll, j2, i2, Bool.and_true]
      · simp [PyData.hasDictAll, PyData.hasDict, i3]
      · simp [PyData.bulkAll, PyData.bulk, i4]; omega
  obtain ⟨i1, i2, i3, i4⟩ := k1 s h
  refine shw_of (by simp only [PyData.leavesShort, i1]) (by simp only [PyData.showable, i2]) (by simp only [PyData.hasDict, i3]) ?_ (by simp only [PyData.bulk, i4]; omega) (.inl ⟨_, rfl⟩)
  have h2 : PyData.depthAll (s.map encI) ≤ 2 := depth_all encI 2 (fun x => by simp [PyData.depth, PyData.depthAll]) s
  simp only [PyData.depth]; omega
theorem Ty.shw {n : Nat} {s : Spr} (h : Ty n s) (hn : n ≤ 1900) : Shw (encS s) := shw_S (fun p hp => ⟨(h.v p hp).mono hn, (h.qb p hp).mono hn⟩) (by have := h.len; omega)
end MX

namespace DL
open PySem L2
variable {K : PySem.W.Frag} {E : XK} {env env' : EnvD}
theorem eg_lst {ts : List Nat} {n : Nat} {gs : TGs} {ds : List D} (h : EvGs K gs ts env ds env') (hn : ds.length = n) : EvG K (gLst K n gs) ts env (.list ds) env' := fun G0 H0 G H σ v Nx ok hv q => by
  obtain ⟨a, xs, e, hs, hd⟩ := hv.lst_inv
  subst e
  exact ⟨a, xs, rfl, SqL.of (ok.gh _ _ hs), by rw [hd.len]; exact hn, h G0 H0 G H σ xs Nx ok hd q⟩
def mn (i j : Int) : Int := if j < i then j else i
def mx (i j : Int) : Int := if j > i then j else i
def mx3 (a b c : Int) : Int := if (if a < b then b else a) < c then c else (if a < b then b else a)
theorem nuMax3_int (a b c : Int) : nuMax3 (.int a) (.int b) (.int c) = some (.int (mx3 a b c)) := by
  unfold nuMax3 nuMax2 nuLt nuCB mx3
  simp only [Option.map_some, Option.bind_some, decide_eq_true_eq]
  by_cases h : a < b
  · simp only [if_pos h]
    by_cases h2 : b < c
    · simp [h2]
    · simp [h2]
  · simp only [if_neg h]
    by_cases h2 : a < c
    · simp [h2]
    · simp [h2]
theorem ed_max3 {ta tb tc : TE} {i j k : Int} (h : EvD K ta env (.int i)) (h' : EvD K tb env (.int j)) (h'' : EvD K tc env (.int k)) : EvD K (tCB (rNuC3 nuMax3) (tCons ta (tCons tb (tCons tc tNil)))) env (.int (mx3 i j k)) := fun G0 H0 G H σ ok Q q =>
  ea_d h (ea_d h' (ea_d h'' ea_nil)) G0 H0 G H σ ok _ fun vs G1 H1 a hv => by
    obtain ⟨_, ⟨v, e1, d1⟩, _, ⟨u, e2, d2⟩, _, ⟨w, e3, d3⟩, ev⟩ : ∃ v1, (∃ v, v1 = v ∧ Dd K G1 v (.int i)) ∧ ∃ v2, (∃ v, v2 = v ∧ Dd K G1 v (.int j)) ∧ ∃ v3, (∃ v, v3 = v ∧ Dd K G1 v (.int k)) ∧ vs = [v1, v2, v3] := by
      cases hv with
      | cons m s r =>
        cases r with
        | cons m2 s2 r2 =>
          cases r2 with
          | cons m3 s3 r3 =>
            cases r3
            obtain ⟨v, e, d⟩ := s
            obtain ⟨v2, e2, d2⟩ := s2
            obtain ⟨v3, e3, d3⟩ := s3
            cases e; cases e2; cases e3
            exact ⟨_, ⟨_, rfl, d⟩, _, ⟨_, rfl, d2⟩, _, ⟨_, rfl, d3⟩, rfl⟩
    subst e1 e2 e3
    rw [d1.int_inv, d2.int_inv, d3.int_inv] at ev
    exact ⟨_, _, _, _, ev, nuMax3_int i j k, q _ G1 H1 a (.int _)⟩
theorem ed_int1b {ta : TE} {b : Bool} (h : EvD K ta env (.bool b)) : EvD K (tCB (fun xs H Q => (∃ i, xs = [.int i] ∧ Q (.int i) H) ∨ ∃ k, xs = [.bl k] ∧ Q (.int (if k then 1 else 0)) H) (tCons ta tNil)) env (.int (if b then 1 else 0)) :=
  ed_CB (ea_d h ea_nil) fun vs G H _ hv Q q => by
    obtain ⟨v, rfl, hd⟩ := args1 hv
    rw [hd.bl_inv]
    exact .inr ⟨b, rfl, q _ (.int _)⟩
theorem ed_reprI {ta : TE} {i : Int} (h : EvD K ta env (.int i)) (hi : MX.Bt 1900 i) : EvD K (tCB (fun xs H Q => ∃ i, xs = [.int i] ∧ i.natAbs.log2 < 1920 ∧ Q (.str (toString i)) H) (tCons ta tNil)) env (.str (toString i)) :=
  ed_CB (ea_d h ea_nil) fun vs G H _ hv Q q => by
    obtain ⟨v, rfl, hd⟩ := args1 hv
    rw [hd.int_inv]
    exact ⟨i, rfl, PySem.Flt.log2_lt_of (by decide) (hi.mono (by decide)), q _ (.str _)⟩
end DL
namespace MX
open PySem L2 DL
/-! ### treaties -/
inductive Lay
  | share (r : Rat)
  | limit (c : Int)
  | band (b c : Int)
def encL : Lay → PyData
  | .share r => .tuple [.str "share", encQ r]
  | .limit c => .tuple [.str "limit", .int c]
  | .band b c => .tuple [.str "band", .int b, .int c]
def layF : Lay → Int → Int
  | .share r, x => -((-x * r.num).fdiv r.den)
  | .limit c, x => mn x c
  | .band b c, x => x - (mn x c - mn x b)
def LayOk : Lay → Prop
  | .share r => 0 ≤ r.num ∧ r.num ≤ r.den ∧ Qb 60 r
  | .limit c => 0 ≤ c ∧ c ≤ 1000000
  | .band b c => 0 ≤ b ∧ b ≤ c ∧ c ≤ 1000000
theorem layF_bd {l : Lay} (h : LayOk l) {x : Int} (hx : 0 ≤ x) : 0 ≤ layF l x ∧ layF l x ≤ x := by
  cases l with
  | share r =>
    obtain ⟨h1, h2, _⟩ := h
    have hd : 0 < (r.den : Int) := by have := r.den_nz; omega
    have m1 : 0 ≤ x * r.num := Int.mul_nonneg hx h1
    have m2 : x * r.num ≤ x * r.den := Int.mul_le_mul_of_nonneg_left h2 hx
    show 0 ≤ -((-x * r.num).fdiv r.den) ∧ -((-x * r.num).fdiv r.den) ≤ x
    rw [Int.fdiv_eq_ediv_of_nonneg _ (by omega), Int.neg_mul]
    have a1 : -(x * r.num) / (r.den : Int) ≤ 0 := by
      have := Int.ediv_le_ediv hd (show -(x * r.num) ≤ 0 by omega)
      rw [Int.zero_ediv] at this
      exact this
    have a2 : -x ≤ -(x * r.num) / (r.den : Int) := by
      rw [Int.le_ediv_iff_mul_le hd, Int.neg_mul]; omega
    omega
  | limit c =>
    obtain ⟨h1, h2⟩ := h
    show 0 ≤ mn x c ∧ mn x c ≤ x
    unfold mn; split <;> omega
  | band b c =>
    obtain ⟨h1, h2, h3⟩ := h
    show 0 ≤ x - (mn x c - mn x b) ∧ x - (mn x c - mn x b) ≤ x
    unfold mn; split <;> split <;> omega
def remF (ls : List Lay) (x : Int) : Int := ls.foldl (fun x l => layF l x) x
theorem remF_snoc {ls : List Lay} {i : Nat} (hi : i < ls.length) (x : Int) : remF (ls.take (i + 1)) x = layF ls[i] (remF (ls.take i) x) := by
  unfold remF
  rw [List.take_add_one, List.getElem?_eq_getElem hi, Option.toList_some, List.foldl_append]; rfl
theorem remF_bd : ∀ {ls : List Lay}, (∀ l ∈ ls, LayOk l) → ∀ {x : Int}, 0 ≤ x → 0 ≤ remF ls x ∧ remF ls x ≤ x
  | [], _, x, hx => ⟨hx, Int.le_refl _⟩
  | l :: ls, h, x, hx => by
    have h1 := layF_bd (h l (List.mem_cons_self)) hx
    have h2 := remF_bd (ls := ls) (fun m hm => h m (List.mem_cons_of_mem _ hm)) h1.1
    show 0 ≤ remF ls (layF l x) ∧ remF ls (layF l x) ≤ x
    omega
structure Tr where
  prem : Int
  ls : List Lay
abbrev encT (t : Tr) : PyData := .tuple [.int t.prem, .list (t.ls.map encL)]
structure TrOk (t : Tr) : Prop where
  ok : ∀ l ∈ t.ls, LayOk l
  few : t.ls.length ≤ 10
  prem : Bt 60 t.prem
theorem TrOk.take {t : Tr} (h : TrOk t) (i : Nat) : ∀ l ∈ t.ls.take i, LayOk l := fun l hl => h.ok l (List.mem_of_mem_take hl)
theorem bt_le {n : Nat} {x y : Int} (h : Bt n x) (h0 : 0 ≤ y) (hy : y ≤ x) : Bt n y := Nat.lt_of_le_of_lt (show y.natAbs ≤ x.natAbs by omega) h
def mapT (t : Tr) (s : Spr) : Spr := s.map fun p => (remF t.ls p.1, p.2)
theorem ty_mapT {n : Nat} {s : Spr} {t : Tr} (h : Ty n s) (h0 : ∀ p ∈ s, 0 ≤ p.1) (ht : TrOk t) : Ty n (mapT t s) := by
  obtain ⟨⟨N, b, h1, h2, h3, h4⟩, h5, h6⟩ := h
  refine ⟨⟨N, b, h1, h2, h3, fun p hp => ?_⟩, fun p hp => ?_, by unfold mapT; rw [List.length_map]; exact h6⟩
  · obtain ⟨q, hq, rfl⟩ := List.mem_map.mp hp; exact h4 q hq
  · obtain ⟨q, hq, rfl⟩ := List.mem_map.mp hp
    have := remF_bd ht.ok (h0 q hq)
    exact bt_le (h5 q hq) this.1 this.2
theorem mapT_nil (m : Int) (s : Spr) : mapT ⟨m, []⟩ s = s := by
  unfold mapT
  conv => rhs; rw [← List.map_id s]
  exact List.map_congr_left fun p _ => rfl
theorem leaf_L {l : Lay} (h : LayOk l) : (encL l).leavesShort 2000 = true ∧ (encL l).showable = true ∧ (encL l).hasDict = false ∧ (encL l).depth ≤ 2 ∧ (encL l).bulk ≤ 12 := by
  have big : ∀ {x : Int}, 0 ≤ x → x ≤ 1000000 → Bt 1900 x := fun h0 h1 => Bt.mono (n := 30) (bt_range (by omega) (by omega)) (by decide)
  have ls : ∀ x : Str, (x.cps.toList.all fun c => decide (c < 16 ^ 8)) = true → PyData.leavesShort 2000 (.str x) = true := fun x h => by simpa only [PyData.leavesShort] using h
  cases l with
  | share r =>
    obtain ⟨_, _, hq⟩ := h
    obtain ⟨a1, a2⟩ := leaf_int (hq.num.mono (by decide : 60 ≤ 1900))
    obtain ⟨b1, b2⟩ := leaf_int (hq.den.mono (by decide : 60 ≤ 1900))
    have s1 := ls "share" (by decide +kernel)
    refine ⟨?_, ?_, ?_, ?_, ?_⟩
    · show PyData.leavesShort 2000 (.tuple [.str "share", .tuple [.int r.num, .int (r.den : Int)]]) = true
      simp only [PyData.leavesShort, PyData.leavesShortAll, Bool.and_true, Bool.and_eq_true] at a1 b1 s1 ⊢
      exact ⟨s1, a1, b1⟩
    · show PyData.showable (.tuple [.str "share", .tuple [.int r.num, .int (r.den : Int)]]) = true
      simp only [PyData.showable, PyData.showableAll, Bool.and_true, Bool.true_and, Bool.and_eq_true] at a2 b2 ⊢
      exact ⟨a2, b2⟩
    · simp [encL, PyData.hasDict, PyData.hasDictAll]
    · simp [encL, PyData.depth, PyData.depthAll]
    · simp only [encL, PyData.bulk, PyData.bulkAll]
      have : (Str.ofString "share").cps.size = 5 := by decide +kernel
      omega
  | limit c =>
    obtain ⟨a1, a2⟩ := leaf_int (big h.1 h.2)
    have s1 := ls "limit" (by decide +kernel)
    refine ⟨?_, ?_, ?_, ?_, ?_⟩
    · show PyData.leavesShort 2000 (.tuple [.str "limit", .int c]) = true
      rw [PyData.leavesShort, PyData.leavesShortAll, s1, PyData.leavesShortAll, a1]; rfl
    · show PyData.showable (.tuple [.str "limit", .int c]) = true
      rw [PyData.showable, PyData.showableAll, PyData.showable, PyData.showableAll, a2]; rfl
    · simp [encL, PyData.hasDict, PyData.hasDictAll]
    · simp [encL, PyData.depth, PyData.depthAll]
    · simp only [encL, PyData.bulk, PyData.bulkAll]
      have : (Str.ofString "limit").cps.size = 5 := by decide +kernel
      omega
  | band b c =>
    obtain ⟨h1, h2, h3⟩ := h
    obtain ⟨a1, a2⟩ := leaf_int (big h1 (by omega))
    obtain ⟨b1, b2⟩ := leaf_int (big (by omega : 0 ≤ c) h3)
    have s1 := ls "band" (by decide +kernel)
    refine ⟨?_, ?_, ?_, ?_, ?_⟩
    · show PyData.leavesShort 2000 (.tuple [.str "band", .int b, .int c]) = true
      rw [PyData.leavesShort, PyData.leavesShortAll, s1, PyData.leavesShortAll, a1, PyData.leavesShortAll, b1]; rfl
    · show PyData.showable (.tuple [.str "band", .int b, .int c]) = true
      rw [PyData.showable, PyData.showableAll, PyData.showable, PyData.showableAll, a2, PyData.showableAll, b2]; rfl
    · simp [encL, PyData.hasDict, PyData.hasDictAll]
    · simp [encL, PyData.depth, PyData.depthAll]
    · simp only [encL, PyData.bulk, PyData.bulkAll]
      have : (Str.ofString "band").cps.size = 4 := by decide +kernel
      omega
theorem shw_T {t : Tr} (h : TrOk t) : Shw (encT t) := by
  have k1 : ∀ ls : List Lay, (∀ l ∈ ls, LayOk l) → PyData.leavesShortAll 2000 (ls.map encL) = true ∧ PyData.showableAll (ls.map encL) = true ∧ PyData.hasDictAll (ls.map encL) = false ∧ PyData.depthAll (ls.map encL) ≤ 2 ∧ PyData.bulkAll (ls.map encL) ≤ 13 * ls.length := by
    intro t
    induction t with
    | nil => intro _; simp [PyData.leavesShortAll, PyData.showableAll, PyData.hasDictAll, PyData.bulkAll, PyData.depthAll]
    | cons p t ih =>
      intro h
      obtain ⟨i1, i2, i3, i4, i5⟩ := ih fun q hq => h q (List.mem_cons_of_mem _ hq)
      obtain ⟨j1, j2, j3, j4, j5⟩ := leaf_L (h p (List.mem_cons_self))
      rw [List.map_cons]
      refine ⟨?_, ?_, ?_, ?_, ?_⟩
      · simp only [PyData.leavesShortAll, j1, i1, Bool.and_true]
      · simp only [PyData.showableAll, j2, i2, Bool.and_true]
      · simp only [PyData.hasDictAll, j3, i3, Bool.or_false]
      · simp only [PyData.depthAll]; omega
      · simp only [PyData.bulkAll, List.length_cons]; omega
  obtain ⟨i1, i2, i3, i4, i5⟩ := k1 t.ls h.ok
  obtain ⟨a1, a2⟩ := leaf_int (h.prem.mono (by decide : 60 ≤ 1900))
  have := h.few
  refine shw_of ?_ ?_ ?_ ?_ ?_ (.inr ⟨_, rfl⟩)
  · rw [PyData.leavesShort, PyData.leavesShortAll, a1, PyData.leavesShortAll, PyData.leavesShort, i1]; rfl
  · rw [PyData.showable, PyData.showableAll, a2, PyData.showableAll, PyData.showable, i2]; rfl
  · simp only [PyData.hasDict, PyData.hasDictAll, i3, Bool.or_false]
  · simp only [PyData.depth, PyData.depthAll]; omega
  · simp only [PyData.bulk, PyData.bulkAll]; omega
/-! ### the law's treaties -/
def layP (p0 p1 p2 p3 p4 p5 p6 p7 : Int) : Lay :=
  if p0 = 0 then .share (Rat.divInt (mn (if p5 = 1 then 1 + p6 else if p5 = 0 then p6 else p1) (if p5 = 1 then 1001 + p6 + 1000 * p7 else if p5 = 0 then p7 else p2)) (mx3 1 (if p5 = 1 then 1 + p6 else if p5 = 0 then p6 else p1) (if p5 = 1 then 1001 + p6 + 1000 * p7 else if p5 = 0 then p7 else p2)))
  else if p0 = 1 then .limit (if (if p5 = 0 then p7 else p4).fmod 13 = 5 then 1000 else (if p5 = 0 then p6 else p3))
  else .band (mn (if p5 = 0 then p6 else p3) (if p5 = 0 then p7 else p4)) (mx (if p5 = 0 then p6 else p3) (if p5 = 0 then p7 else p4))
theorem share_ok {t l : Int} (h0 : 0 ≤ t) (h1 : t ≤ l) (h2 : 1 ≤ l) (h3 : l ≤ 100000000) : LayOk (.share (Rat.divInt t l)) := by
  obtain ⟨e1, e2⟩ := divInt_parts (t := t) (l := l) (by omega)
  have g : 0 < sgcd t l := by
    unfold sgcd; rw [if_neg (by omega)]
    have := gcd_pos (t := t) (l := l) (by omega); omega
  refine ⟨?_, ?_, qb_divInt (by omega) (Bt.mono (n := 30) (bt_range (by omega) (by omega)) (by decide)) (Bt.mono (n := 30) (bt_range (by omega) (by omega)) (by decide))⟩
  · rw [e1, Int.fdiv_eq_ediv_of_nonneg _ (by omega)]; exact Int.ediv_nonneg h0 (by omega)
  · rw [e1, e2, Int.fdiv_eq_ediv_of_nonneg _ (by omega), Int.fdiv_eq_ediv_of_nonneg _ (by omega)]; exact Int.ediv_le_ediv g h1
structure PB (p0 p1 p2 p3 p4 p5 p6 p7 : Int) : Prop where
  b0 : 0 ≤ p0 ∧ p0 < 3
  b1 : 0 ≤ p1 ∧ p1 < 5
  b2 : 0 ≤ p2 ∧ p2 < 6
  b3 : 0 ≤ p3 ∧ p3 < 40
  b4 : 0 ≤ p4 ∧ p4 < 40
  b5 : 0 ≤ p5 ∧ p5 < 4
  b6 : 0 ≤ p6 ∧ p6 < 1001
  b7 : 0 ≤ p7 ∧ p7 < 1001
theorem tb_bd {p0 p1 p2 p3 p4 p5 p6 p7 : Int} (h : PB p0 p1 p2 p3 p4 p5 p6 p7) : (0 ≤ (if p5 = 1 then 1 + p6 else if p5 = 0 then p6 else p1) ∧ (if p5 = 1 then 1 + p6 else if p5 = 0 then p6 else p1) ≤ 2000000) ∧ (0 ≤ (if p5 = 1 then 1001 + p6 + 1000 * p7 else if p5 = 0 then p7 else p2) ∧ (if p5 = 1 then 1001 + p6 + 1000 * p7 else if p5 = 0 then p7 else p2) ≤ 2000000) := by
  obtain ⟨b0, b1, b2, b3, b4, b5, b6, b7⟩ := h
  refine ⟨?_, ?_⟩
  · split
    · omega
    · split <;> omega
  · split
    · omega
    · split <;> omega
theorem mm_bd {t b : Int} (h : 0 ≤ t ∧ t ≤ 2000000) (h' : 0 ≤ b ∧ b ≤ 2000000) : 0 ≤ mn t b ∧ mn t b ≤ mx3 1 t b ∧ 1 ≤ mx3 1 t b ∧ mx3 1 t b ≤ 2000000 := by
  unfold mn mx3
  by_cases h1 : 1 < t
  · rw [if_pos h1]; split <;> split <;> omega
  · rw [if_neg h1]; split <;> split <;> omega
theorem layP_ok {p0 p1 p2 p3 p4 p5 p6 p7 : Int} (h : PB p0 p1 p2 p3 p4 p5 p6 p7) : LayOk (layP p0 p1 p2 p3 p4 p5 p6 p7) := by
  obtain ⟨t1, t2⟩ := tb_bd h
  unfold layP
  split
  · have := mm_bd t1 t2
    exact share_ok this.1 this.2.1 this.2.2.1 (by omega)
  · obtain ⟨b0, b1, b2, b3, b4, b5, b6, b7⟩ := h
    split
    · show 0 ≤ _ ∧ _ ≤ (1000000 : Int)
      split
      · omega
      · split <;> omega
    · have k1 : 0 ≤ (if p5 = 0 then p6 else p3) ∧ (if p5 = 0 then p6 else p3) ≤ 1001 := by split <;> omega
      have k2 : 0 ≤ (if p5 = 0 then p7 else p4) ∧ (if p5 = 0 then p7 else p4) ≤ 1001 := by split <;> omega
      generalize (if p5 = 0 then p6 else p3) = u at k1 ⊢
      generalize (if p5 = 0 then p7 else p4) = v at k2 ⊢
      show 0 ≤ mn u v ∧ mn u v ≤ mx u v ∧ mx u v ≤ 1000000
      unfold mn mx
      split <;> split <;> omega
def layD (D : List Int) (k : Nat) : Lay := layP (D.getD (2 + 8 * k) 0) (D.getD (2 + 8 * k + 1) 0) (D.getD (2 + 8 * k + 2) 0) (D.getD (2 + 8 * k + 3) 0) (D.getD (2 + 8 * k + 4) 0) (D.getD (2 + 8 * k + 5) 0) (D.getD (2 + 8 * k + 6) 0) (D.getD (2 + 8 * k + 7) 0)
def limsT (most : Int) : List Int := most :: 5 :: (List.replicate 4 [3, 5, 6, 40, 40, 4, 1001, 1001]).flatten
def trF (cell most : Int) : Tr := ⟨(drawsF cell (limsT most)).getD 0 0, (List.range ((drawsF cell (limsT most)).getD 1 0).toNat).map (layD (drawsF cell (limsT most)))⟩
theorem limsT_pos {most : Int} (h : 0 < most) : ∀ l ∈ limsT most, 0 < l := by
  intro l hl
  rcases List.mem_cons.mp hl with e | hl
  · omega
  · have key : ∀ l ∈ (5 :: (List.replicate 4 [3, 5, 6, 40, 40, 4, 1001, 1001]).flatten : List Int), 0 < l := by decide
    exact key l hl
theorem limsT_len (most : Int) : (limsT most).length = 34 := rfl
structure DrT (most : Int) (D : List Int) : Prop where
  d0 : ∃ x, D[0]? = some x ∧ 0 ≤ x ∧ x < most
  d1 : ∃ x, D[1]? = some x ∧ 0 ≤ x ∧ x < 5
  at' : ∀ k : Nat, k < 4 → ∀ (i : Nat) (l : Int), [3, 5, 6, 40, 40, 4, 1001, 1001][i]? = some l → ∃ x, D[2 + 8 * k + i]? = some x ∧ 0 ≤ x ∧ x < l
theorem limsT_at (most : Int) : ∀ k : Nat, k < 4 → ∀ i : Nat, i < 8 → (limsT most)[2 + 8 * k + i]? = [3, 5, 6, 40, 40, 4, 1001, 1001][i]? := by
  intro k hk i hi
  rw [show 2 + 8 * k + i = 8 * k + i + 1 + 1 by omega]
  show ((List.replicate 4 [3, 5, 6, 40, 40, 4, 1001, 1001]).flatten : List Int)[8 * k + i]? = _
  revert i; revert k; decide
theorem drT {cell most : Int} (h : 0 < most) : DrT most (drawsF cell (limsT most)) := by
  refine ⟨drawsF_at cell (limsT_pos h) rfl, drawsF_at cell (limsT_pos h) rfl, fun k hk i l hl => drawsF_at cell (limsT_pos h) ?_⟩
  have hi : i < 8 := (List.getElem?_eq_some_iff.mp hl).1
  rw [limsT_at most k hk i hi]; exact hl
theorem DrT.pb {most : Int} {D : List Int} (h : DrT most D) {k : Nat} (hk : k < 4) : PB (D.getD (2 + 8 * k) 0) (D.getD (2 + 8 * k + 1) 0) (D.getD (2 + 8 * k + 2) 0) (D.getD (2 + 8 * k + 3) 0) (D.getD (2 + 8 * k + 4) 0) (D.getD (2 + 8 * k + 5) 0) (D.getD (2 + 8 * k + 6) 0) (D.getD (2 + 8 * k + 7) 0) := by
  have g : ∀ (i : Nat) (l : Int), [3, 5, 6, 40, 40, 4, 1001, 1001][i]? = some l → 0 ≤ D.getD (2 + 8 * k + i) 0 ∧ D.getD (2 + 8 * k + i) 0 < l := fun i l hl => by
    obtain ⟨x, e, b⟩ := h.at' k hk i l hl
    rw [List.getD_eq_getElem?_getD, e]; exact b
  exact ⟨g 0 3 rfl, g 1 5 rfl, g 2 6 rfl, g 3 40 rfl, g 4 40 rfl, g 5 4 rfl, g 6 1001 rfl, g 7 1001 rfl⟩
theorem take_next {α : Type} {xs : List α} {a n : Nat} {y : α} (h : xs[a]? = some y) : (xs.drop a).take (n + 1) = y :: (xs.drop (a + 1)).take n := by
  obtain ⟨hl, e⟩ := List.getElem?_eq_some_iff.mp h
  rw [List.drop_eq_getElem_cons hl, List.take_succ_cons, e]
theorem DrT.part {most : Int} {D : List Int} (h : DrT most D) {k : Nat} (hk : k < 4) : (D.drop (2 + 8 * k)).take 8 = [D.getD (2 + 8 * k) 0, D.getD (2 + 8 * k + 1) 0, D.getD (2 + 8 * k + 2) 0, D.getD (2 + 8 * k + 3) 0, D.getD (2 + 8 * k + 4) 0, D.getD (2 + 8 * k + 5) 0, D.getD (2 + 8 * k + 6) 0, D.getD (2 + 8 * k + 7) 0] := by
  have g : ∀ (i : Nat) (l : Int), [3, 5, 6, 40, 40, 4, 1001, 1001][i]? = some l → D[2 + 8 * k + i]? = some (D.getD (2 + 8 * k + i) 0) := fun i l hl => by
    obtain ⟨x, e, b⟩ := h.at' k hk i l hl
    rw [List.getD_eq_getElem?_getD, e]; rfl
  have g0 : D[2 + 8 * k]? = some (D.getD (2 + 8 * k) 0) := g 0 3 rfl
  rw [take_next g0, take_next (g 1 5 rfl), take_next (g 2 6 rfl), take_next (g 3 40 rfl), take_next (g 4 40 rfl), take_next (g 5 4 rfl), take_next (g 6 1001 rfl), take_next (g 7 1001 rfl), List.take_zero]
theorem trF_ok {cell most : Int} (h : 0 < most) (h2 : most ≤ 1000000) : TrOk (trF cell most) := by
  have hD := drT (cell := cell) h
  obtain ⟨x0, e0, a0, b0⟩ := hD.d0
  obtain ⟨x1, e1, a1, b1⟩ := hD.d1
  have g0 : (drawsF cell (limsT most)).getD 0 0 = x0 := by rw [List.getD_eq_getElem?_getD, e0]; rfl
  have g1 : (drawsF cell (limsT most)).getD 1 0 = x1 := by rw [List.getD_eq_getElem?_getD, e1]; rfl
  refine ⟨fun l hl => ?_, ?_, ?_⟩
  · obtain ⟨k, hk, rfl⟩ := List.mem_map.mp hl
    rw [List.mem_range, g1] at hk
    exact layP_ok (hD.pb (by omega))
  · show ((List.range _).map _).length ≤ 10
    rw [List.length_map, List.length_range, g1]; omega
  · show Bt 60 ((drawsF cell (limsT most)).getD 0 0)
    rw [g0]; exact Bt.mono (n := 30) (bt_range (by omega) (by omega)) (by decide)
theorem spr_pos {n : Nat} {low width : Int} (h : SprOk n width) (cell : Int) : ∀ p ∈ sprF cell n low width, low ≤ p.1 := fun p hp => by
  have h1 := (gat_mem hp).1
  obtain ⟨q, hq, e⟩ := List.mem_map.mp h1
  unfold wtd at hq
  obtain ⟨k, hk, rfl⟩ := List.mem_map.mp hq
  rw [List.mem_range] at hk
  have e : (sprV cell n low width).getD k 0 = p.1 := e
  rw [← e, List.getD_eq_getElem?_getD, List.getElem?_eq_getElem hk, Option.getD_some]
  exact (sprV_mem h cell (List.getElem_mem hk)).1
end MX

namespace DL
open PySem L2
variable {K : PySem.W.Frag} {E : XK} {env env' : EnvD}
/-- zip of two lists of one length -/
theorem ei_zip {ta tb : TE} {ds es : List D} (ha : EvD K ta env (.list ds)) (hb : EvD K tb env (.list es)) (hl : ds.length = es.length) : EvI K (iZip K (tCons ta (tCons tb tNil))) env ((ds.zip es).map fun p => .tuple [p.1, p.2]) := fun G0 H0 G H σ ok R q =>
  ha G0 H0 G H σ ok _ fun v G1 H1 a hv => hb G0 H0 G1 H1 σ (ok.go a) _ fun u G2 H2 a2 hu => by
    obtain ⟨p, xs, e, hs, hd⟩ := (hv.mono a2.gg).lst_inv
    obtain ⟨r, ys, e2, hs2, hd2⟩ := hu.lst_inv
    subst e e2
    have hlen : ((ds.zip es).map fun p => PyData.tuple [p.1, p.2]).length = ds.length := by rw [List.length_map, List.length_zip]; omega
    refine ⟨p, r, xs, ys, rfl, SqL.gh a2.gh hs, SqL.gh a2.gh hs2, q _ G2 H2 (a.trans a2) ⟨fun G3 H3 g1 g2 => ⟨xs, ys, SqL.gh g2 (g1 _ _ hs), SqL.gh g2 (g1 _ _ hs2), .inl (by rw [hlen, hd.len]; exact Nat.le_refl _)⟩, fun i d G3 H3 hi g1 g2 => ?_⟩⟩
    rw [List.getElem?_map] at hi
    obtain ⟨⟨d1, d2⟩, hz, rfl⟩ := Option.map_eq_some_iff.mp hi
    obtain ⟨z1, z2⟩ := List.getElem?_zip_eq_some.mp hz
    obtain ⟨w1, h1, h2⟩ := hd.get z1
    obtain ⟨w2, h3, h4⟩ := hd2.get z2
    have k1 := SqL.gh (K := K) g2 (g1 _ _ hs)
    have k2 := SqL.gh (K := K) g2 (g1 _ _ hs2)
    refine ⟨⟨xs, ys, w1, w2, k1, k2, h1, h3⟩, fun x H' hy => ?_⟩
    obtain ⟨T, y1, y2, rfl, hT, rfl, f1, f2⟩ := hy
    have e1 := f1 xs k1
    have e2 := f2 ys k2
    rw [h1] at e1
    rw [h3] at e2
    cases e1
    cases e2
    have fw := Fw.new (o := .tup [w1, w2]) g2 hT
    exact ⟨_, fw, .tup (.inl (.inl upd_same)) (.cons ((h2.mono g1).mono fw.gg) (.cons ((h4.mono g1).mono fw.gg) .nil))⟩
/-- x[n] = v, x a list that nobody else has -/
theorem run_store {i : Nat} {ds : List D} {d : D} {tv ty : TE} {n : Int} {j : Nat} (hi : env[i]? = some (.ml ds)) (hv : EvD K tv env d) (hy : EvD K ty env (.int n)) (hj : ixN ds.length n = some j) : Run K E (tAsg tv (gSub (tVar i) ty rSetL)) env (.nx (env.set i (.ml (ds.set j d)))) := fun G0 H0 G H σ D ok q => by
  obtain ⟨o, h1, l, xs, e, g, hl, hd⟩ := ok.slM i hi
  subst e
  refine hv G0 H0 G H σ ok _ fun v G1 H1 a hv1 => ⟨_, h1, hy G0 H0 G1 H1 σ (ok.go a) _ fun u G2 H2 a2 hu => ⟨l, xs, n, j, rfl, hu.int_inv, (a.trans a2).hh _ _ hl, by rw [hd.len]; exact hj, ?_⟩⟩
  have g2 : G2 l = none := (a.trans a2).fr l (by rw [hl]; simp) g
  exact q G2 _ σ (((ok.go a).go a2).writeM hi h1 (Dds.set (hv1.mono a2.gg) j (hd.mono (a.trans a2).gg)))
theorem Dds.rev {G : Hp} : ∀ {xs : List V} {ds : List D}, Dds K G xs ds → Dds K G xs.reverse ds.reverse
  | _, _, .nil => .nil
  | _, _, .cons h hs => by rw [List.reverse_cons, List.reverse_cons]; exact (Dds.rev hs).append (.cons h .nil)
theorem en_revL {ta : TE} {ds : List D} (ha : EvL K ta env ds) : EvN K (tRevL K ta) env ds.reverse := fun G0 H0 G H σ ok Q q =>
  ha G0 H0 G H σ ok _ fun p xs G1 H1 a h1 hd => ⟨p, xs, rfl, SqL.of h1, fun r hr => q r _ G1 _ (a.trans (Fw.hid a.gh hr)) (a.hh.free hr) (a.gh.free hr) upd_same hd.rev⟩
/-- hands back a new list, or raises an error of the class C -/
def SpXN {α : Type} (K : PySem.W.Frag) (fs : α → List SD) (pre : α → Prop) (C : Value) (fo : α → Option (List D)) : Sp := fun vs H Q E => ∃ (x : α) (G : Hp), Same G H ∧ Args K G H vs (fs x) ∧ pre x ∧
  (∀ ds, fo x = some ds → ∀ p xs G' H', Fw G H G' H' → H p = none → G' p = none → H' p = some (.lst xs) → Dds K G' xs ds → Q (.ref p) H') ∧ (fo x = none → ∀ G' H', Fw G H G' H' → E C none H')
section
variable {α : Type} {fs : α → List SD} {pre : α → Prop} {fo : α → Option (List D)} {C c : Value} {t : TA} {ss : List SD} {E' : XK} {i : Nat} {ts : Addr → Value → Option Addr → TS} {Wout : WX}
theorem en_callXN {x : α} {ds : List D} (h : EvA K t env ss) (e : ss = fs x) (hp : pre x) (hd : fo x = some ds) : EvN K (tCall (SpXN K fs pre C fo) [] E' t) env ds := fun G0 H0 G H σ ok Q q =>
  h G0 H0 G H σ ok _ fun vs G1 H1 a hv => ⟨x, G1, a.gh, by rw [List.append_nil, ← e]; exact hv, hp, fun d' hd' p xs G2 H2 a2 hp g2 h2 hd2 => q p xs G2 H2 (a.trans a2) (a.hh.free hp) g2 h2 (by rw [hd] at hd'; cases hd'; exact hd2), fun z => by rw [hd] at z; cases z⟩
theorem run_tryXN {x : α} {d : D} (h : EvA K t env ss) (e : ss = fs x) (hp : pre x) (hn : fo x = none) (hm : PySem.W.exmOne K C c = some true) (hs : ∀ a, Run K E (ts a C none) (env.set i (.raw (.ref a))) (.rt d)) :
    Run K E (fun D σ H => tDrop (tCallS (SpXN K fs pre C fo) (WE (wAs K c i ts Wout D)) t) D σ H) env (.rt d) := fun G0 H0 G H σ D ok q =>
  h G0 H0 G H σ ok _ fun vs G1 H1 a hv => ⟨x, G1, a.gh, by rw [← e]; exact hv, hp, fun z hz => (by rw [hn] at hz; cases hz), fun _ G2 H2 a2 => ⟨true, hm, fun _ b _ => hs b G0 H0 G2 H2 _ _ (((ok.go a).go a2).set i rfl rfl) q, fun z => nomatch z⟩⟩
end
section
variable {P : Program} {w : World} {mg : Str → Option Value} {base : Heap} {x qual : Str} {st : Stmt} {f : Addr} {fd : FuncData} {N ps : List Str} {k : Nat} {α : Type} {fs : α → List SD} {pre : α → Prop} {fo : α → Option (List D)} {C : Value}
theorem fn_XN (F : Fun K x qual st f fd) (S : FnScope N ps (defScope st)) (hn : ∀ a, (fs a).length = ps.length)
    (body : ∀ (cdv : Value) (A : Around) (outer : List Env) (s : Shared) (H : Hp) (E : XK), Room k (A.deeper (PyProof.Rows.envOfC qual (defScope st) s.heap.objs.size f cdv)) →
      ∃ t, PSs (cxX P w K mg base N qual st f cdv A outer s H E) (defBody st) t ∧ ∀ a, pre a → (∀ ds, fo a = some ds → Run K E t (envOf N (fs a)) (.rn ds)) ∧ (fo a = none → Run K E t (envOf N (fs a)) (.ex C))) :
    FnOk P w K mg base (L2.CX P w) (k + 1) f fd ps (SpXN K fs pre C fo) := by
  refine F.okX S (fun vs H Q E h => ?_) (fun cdv A outer s H vs Q E hr h => ?_)
  · obtain ⟨a, G, gh, ha, _⟩ := h
    rw [ha.len, hn a]
  · obtain ⟨a, G, gh, ha, hp, q1, q2⟩ := h
    obtain ⟨t, h1, h2⟩ := body cdv A outer s H E hr
    refine ⟨t, h1, ?_⟩
    obtain ⟨h3, h4⟩ := h2 a hp
    cases e : fo a with
    | none => exact h4 e G H G H _ _ (ok_start gh ha) fun G' H' fw => q2 e G' H' fw
    | some ds => exact h3 ds e G H G H _ _ (ok_start gh ha) fun p xs G' H' fw h0 g' h' hd => q1 ds e p xs G' H' fw h0 g' h' hd
end
/-- the turn n raises -/
theorem run_forE {wi : TI} {g : TG} {tb : TS} {ts : List Nat} {ds : List D} {C : Value} (Es : Nat → EnvD) (n : Nat) (hi : EvI K wi env ds) (h0 : Less env (Es 0))
    (ht : ∀ (i : Nat) (d : D), i < n → ds[i]? = some d → ∃ em, EvG K g ts (Es i) d em ∧ Turn1 K E tb em (Es (i + 1)))
    {d : D} {em : EnvD} (hd : ds[n]? = some d) (hg : EvG K g ts (Es n) d em) (hr : Run K E tb em (.ex C)) : Run K E (tFor wi g tb) env (.ex C) :=
  run_forX Es n hi h0 ht (.inr ⟨d, em, hd, hg, .inl ⟨hr, (by intro _ z; cases z), (by intro _ z; cases z), (by intro _ z; cases z)⟩⟩)
end DL
namespace MX
open PySem L2 DL
/-! ### sums and mixtures -/
def rowF (t : Spr) (p : Int × Rat) : Spr := t.map fun q => (p.1 + q.1, p.2 * q.2)
def sumF (s t : Spr) : Spr := s.flatMap (rowF t)
def mixF (ss : List Spr) (cs : List Rat) : Spr := (ss.zip cs).flatMap fun p => p.1.map fun q => (q.1, p.2 * q.2)
theorem flat_len {α : Type} (f : α → Spr) (k : Nat) : ∀ l : List α, (∀ x ∈ l, (f x).length ≤ k) → (l.flatMap f).length ≤ l.length * k
  | [], _ => by simp
  | x :: l, h => by
    rw [List.flatMap_cons, List.length_append, List.length_cons, Nat.succ_mul]
    have := h x (List.mem_cons_self)
    have := flat_len f k l fun y hy => h y (List.mem_cons_of_mem _ hy)
    omega
theorem sum_len (s t : Spr) : (sumF s t).length ≤ s.length * t.length := flat_len _ _ _ fun p _ => by unfold rowF; rw [List.length_map]; exact Nat.le_refl _
theorem flat_step {α : Type} (f : α → Spr) {l : List α} {i : Nat} (hi : i < l.length) : (l.take (i + 1)).flatMap f = (l.take i).flatMap f ++ f l[i] := by
  rw [List.take_add_one, List.getElem?_eq_getElem hi, Option.toList_some, List.flatMap_append]; simp
theorem ty_sum {n : Nat} {s t : Spr} (h : Ty n s) (h' : Ty n t) (hl : s.length * t.length < 64) : Ty (2 * n + 1) (sumF s t) := by
  obtain ⟨⟨N, b, h1, h2, h3, h4⟩, h5, h6⟩ := h
  obtain ⟨⟨M, c, g1, g2, g3, g4⟩, g5, g6⟩ := h'
  have p2 : 2 ^ (2 * n + 1) = 2 * (2 ^ n * 2 ^ n) := by rw [Nat.pow_succ, show 2 * n = n + n by omega, Nat.pow_add]; omega
  refine ⟨⟨N * M, b * c, Nat.mul_pos h1 g1, ?_, ?_, fun p hp => ?_⟩, fun p hp => ?_, Nat.lt_of_le_of_lt (sum_len s t) hl⟩
  · have := Nat.mul_le_mul (Nat.le_of_lt h2) (Nat.le_of_lt g2)
    have := Nat.mul_pos (Nat.two_pow_pos n) (Nat.two_pow_pos n)
    omega
  · have := Nat.mul_le_mul (Nat.le_of_lt h3) (Nat.le_of_lt g3)
    have := Nat.mul_pos (Nat.two_pow_pos n) (Nat.two_pow_pos n)
    omega
  · obtain ⟨a, ha, hb⟩ := List.mem_flatMap.mp hp
    obtain ⟨q, hq, rfl⟩ := List.mem_map.mp hb
    exact sq_mul (h4 a ha) (g4 q hq)
  · obtain ⟨a, ha, hb⟩ := List.mem_flatMap.mp hp
    obtain ⟨q, hq, rfl⟩ := List.mem_map.mp hb
    exact ((h5 a ha).add (g5 q hq)).mono (by omega)
end MX

namespace MX
open PySem L2 DL
/-! ### means of sums and mixtures -/
theorem ex_flat {α : Type} (g : α → Spr) (f : Int → Rat) : ∀ l : List α, Ex (l.flatMap g) f = (l.map fun x => Ex (g x) f).sum
  | [] => rfl
  | x :: l => by rw [List.flatMap_cons, ex_app, List.map_cons, List.sum_cons, ex_flat g f l]
theorem ex_row (t : Spr) (p : Int × Rat) (f : Int → Rat) : Ex (rowF t p) f = p.2 * Ex t fun y => f (p.1 + y) := by
  unfold rowF
  induction t with
  | nil => rw [List.map_nil, ex_nil, ex_nil]; grind
  | cons q t ih => rw [List.map_cons, ex_cons, ex_cons, ih]; grind
theorem ex_sum (s t : Spr) (f : Int → Rat) : Ex (sumF s t) f = Ex s fun x => Ex t fun y => f (x + y) := by
  unfold sumF
  rw [ex_flat]
  show _ = (s.map fun p => p.2 * Ex t fun y => f (p.1 + y)).sum
  exact congrArg List.sum (List.map_congr_left fun p _ => ex_row t p f)
theorem sum_comm (s t : Spr) : gatF (sumF s t) = gatF (sumF t s) := ex_wt fun f => by
  rw [ex_sum, ex_sum, ex_swap]
  have e : (fun y => Ex s fun x => f (x + y)) = fun y => Ex s fun x => f (y + x) := by
    funext y
    exact congrArg (Ex s) (funext fun x => by rw [Int.add_comm])
  rw [e]
theorem ex_mul2 (t : Spr) (c : Rat) (f : Int → Rat) : Ex (t.map fun q => (q.1, c * q.2)) f = c * Ex t f := by
  induction t with
  | nil => rw [List.map_nil, ex_nil]; grind
  | cons q t ih => rw [List.map_cons, ex_cons, ex_cons, ih]; grind
theorem ex_mix (ss : List Spr) (cs : List Rat) (f : Int → Rat) : Ex (mixF ss cs) f = ((ss.zip cs).map fun p => p.2 * Ex p.1 f).sum := by
  unfold mixF
  rw [ex_flat]
  exact congrArg List.sum (List.map_congr_left fun p _ => ex_mul2 p.1 p.2 f)
theorem rsum_app : ∀ a b : List Rat, (a ++ b).sum = a.sum + b.sum
  | [], b => by rw [List.nil_append, List.sum_nil]; grind
  | x :: a, b => by rw [List.cons_append, List.sum_cons, List.sum_cons, rsum_app a b]; grind
theorem rsum_rev : ∀ a : List Rat, a.reverse.sum = a.sum
  | [] => rfl
  | x :: a => by rw [List.reverse_cons, rsum_app, rsum_rev a, List.sum_cons, List.sum_cons, List.sum_nil]; grind
theorem zip_rev {α β : Type} : ∀ (a : List α) (b : List β), a.length = b.length → a.reverse.zip b.reverse = (a.zip b).reverse
  | [], [], _ => rfl
  | x :: a, y :: b, h => by
    have h : a.length = b.length := by simpa using h
    rw [List.reverse_cons, List.reverse_cons, List.zip_append (by rw [List.length_reverse, List.length_reverse]; exact h), zip_rev a b h]
    show _ = ((x, y) :: a.zip b).reverse
    rw [List.reverse_cons]; rfl
  | [], _ :: _, h => by simp at h
  | _ :: _, [], h => by simp at h
theorem mix_rev {ss : List Spr} {cs : List Rat} (h : ss.length = cs.length) : gatF (mixF ss.reverse cs.reverse) = gatF (mixF ss cs) := ex_wt fun f => by
  rw [ex_mix, ex_mix, zip_rev _ _ h, List.map_reverse, rsum_rev]
theorem zip_rep {α β : Type} (x : α) (y : β) : ∀ n : Nat, (List.replicate n x).zip (List.replicate n y) = List.replicate n (x, y)
  | 0 => rfl
  | n + 1 => by rw [List.replicate_succ, List.replicate_succ, List.zip_cons_cons, zip_rep x y n, List.replicate_succ]
theorem rsum_rep0 : ∀ n : Nat, (List.replicate n (0 : Rat)).sum = 0
  | 0 => rfl
  | n + 1 => by rw [List.replicate_succ, List.sum_cons, rsum_rep0 n]; grind
theorem mix_wide {ss : List Spr} {cs : List Rat} (h : ss.length = cs.length) (a b : Spr) (n : Nat) : gatF (mixF ([a] ++ ss ++ List.replicate n b) ([0] ++ cs ++ List.replicate n 0)) = gatF (mixF ss cs) := ex_wt fun f => by
  rw [ex_mix, ex_mix, List.zip_append (by simp [h]), List.zip_append (by simp), zip_rep, List.map_append, List.map_append, rsum_app, rsum_app, List.map_replicate]
  have e : (0 : Rat) * Ex b f = 0 := by grind
  rw [show ((b, (0 : Rat)).2 * Ex (b, (0 : Rat)).1 f) = 0 from e, rsum_rep0]
  show ((0 : Rat) * Ex a f + 0) + _ + 0 = _
  grind
/-! ### chances -/
def csF (ws : List Int) : List Rat := ws.map fun w => Rat.divInt w ws.sum
theorem sum_divInt {N : Int} (hN : N ≠ 0) : ∀ ws : List Int, (ws.map fun w => Rat.divInt w N).sum = Rat.divInt ws.sum N
  | [] => by rw [List.map_nil, List.sum_nil, List.sum_nil, Rat.zero_divInt]
  | w :: ws => by rw [List.map_cons, List.sum_cons, List.sum_cons, sum_divInt hN ws, divInt_add hN]
theorem sum_cs {ws : List Int} (h : 0 < ws.sum) : (csF ws).sum = 1 := by
  unfold csF
  rw [sum_divInt (by omega), Rat.divInt_self' (by omega)]
theorem cs_pos {ws : List Int} (h : 0 < ws.sum) (h0 : ∀ w ∈ ws, 0 ≤ w) : ∀ c ∈ csF ws, 0 ≤ c := fun c hc => by
  obtain ⟨w, hw, rfl⟩ := List.mem_map.mp hc
  exact Rat.divInt_nonneg (h0 w hw) (by omega)
/-- spreads of small numbers with one low part -/
structure TyL (n : Nat) (ss : List Spr) : Prop where
  q : ∃ N b : Nat, 0 < N ∧ N < 2 ^ n ∧ b < 2 ^ n ∧ ∀ s ∈ ss, ∀ p ∈ s, Sq N b p.2
  v : ∀ s ∈ ss, s.length ≤ 7 ∧ ∀ p ∈ s, Bt n p.1
structure TyC (n : Nat) (cs : List Rat) : Prop where
  q : ∃ N b : Nat, 0 < N ∧ N < 2 ^ n ∧ b < 2 ^ n ∧ ∀ c ∈ cs, Sq N b c
  len : cs.length ≤ 20
theorem TyC.fine {n : Nat} {cs : List Rat} (h : TyC n cs) (hn : n ≤ 3000) : Fine cs := by
  obtain ⟨⟨N, b, h1, h2, h3, h4⟩, h5⟩ := h
  exact ⟨N, b, fin_of h1 h2 h3 (by omega) (by omega) (by omega), h4⟩
theorem TyC.qb {n : Nat} {cs : List Rat} (h : TyC n cs) : ∀ c ∈ cs, Qb n c := fun c hc => by
  obtain ⟨⟨N, b, h1, h2, h3, h4⟩, h5⟩ := h
  exact sq_qb h1 h2 h3 (h4 c hc)
theorem TyL.qb {n : Nat} {ss : List Spr} (h : TyL n ss) : ∀ s ∈ ss, ∀ p ∈ s, Qb n p.2 := fun s hs p hp => by
  obtain ⟨⟨N, b, h1, h2, h3, h4⟩, h5⟩ := h
  exact sq_qb h1 h2 h3 (h4 s hs p hp)
theorem ty_mix {n : Nat} {ss : List Spr} {cs : List Rat} (h : TyL n ss) (h' : TyC n cs) (hl : ss.length ≤ 9) : Ty (2 * n + 1) (mixF ss cs) := by
  obtain ⟨⟨N, b, h1, h2, h3, h4⟩, h5⟩ := h
  obtain ⟨⟨M, c, g1, g2, g3, g4⟩, g5⟩ := h'
  have p2 : 2 ^ (2 * n + 1) = 2 * (2 ^ n * 2 ^ n) := by rw [Nat.pow_succ, show 2 * n = n + n by omega, Nat.pow_add]; omega
  have pp := Nat.mul_pos (Nat.two_pow_pos n) (Nat.two_pow_pos n)
  refine ⟨⟨M * N, c * b, Nat.mul_pos g1 h1, ?_, ?_, fun p hp => ?_⟩, fun p hp => ?_, ?_⟩
  · have := Nat.mul_le_mul (Nat.le_of_lt g2) (Nat.le_of_lt h2); omega
  · have := Nat.mul_le_mul (Nat.le_of_lt g3) (Nat.le_of_lt h3); omega
  · obtain ⟨a, ha, hb⟩ := List.mem_flatMap.mp hp
    obtain ⟨q, hq, rfl⟩ := List.mem_map.mp hb
    exact sq_mul (g4 _ (List.of_mem_zip ha).2) (h4 _ (List.of_mem_zip ha).1 q hq)
  · obtain ⟨a, ha, hb⟩ := List.mem_flatMap.mp hp
    obtain ⟨q, hq, rfl⟩ := List.mem_map.mp hb
    exact ((h5 _ (List.of_mem_zip ha).1).2 q hq).mono (by omega)
  · have h6 := flat_len (fun p : Spr × Rat => p.1.map fun q => (q.1, p.2 * q.2)) 7 (ss.zip cs) fun p hp => by rw [List.length_map]; exact (h5 _ (List.of_mem_zip hp).1).1
    have h7 : (ss.zip cs).length ≤ 9 := by rw [List.length_zip]; omega
    have h8 : (ss.zip cs).length * 7 ≤ 9 * 7 := Nat.mul_le_mul_right _ h7
    exact Nat.lt_of_le_of_lt (Nat.le_trans h6 h8) (by decide)
theorem spr_few {n : Nat} {low width : Int} (h : SprOk n width) (cell : Int) : (sprF cell n low width).length ≤ n := by
  obtain ⟨x, _, _, _, _, _, h2⟩ := spr_size h cell
  have h3 := gat_len (wtd (sprV cell n low width) (sprW cell n width))
  rw [wtd_len, (spr_len h cell).1] at h3
  exact Nat.le_trans h3 h2
theorem tyL_of {n : Nat} {a b : Spr} {ss : List Spr} (ha : Ty n a) (hb : Ty n b) (la : a.length ≤ 7) (lb : b.length ≤ 7) (h : ∀ s ∈ ss, s = a ∨ s = b ∨ s = [(3, 1)]) (hn : 3 ≤ n) : TyL (2 * n) ss := by
  obtain ⟨⟨N, c, h1, h2, h3, h4⟩, h5, h6⟩ := ha
  obtain ⟨⟨M, d, g1, g2, g3, g4⟩, g5, g6⟩ := hb
  have p2 : 2 ^ (2 * n) = 2 ^ n * 2 ^ n := by rw [show 2 * n = n + n by omega, Nat.pow_add]
  have b3 : Bt (2 * n) 3 := Bt.mono (n := 3) (by decide) (by omega)
  have hNM : N * M < 2 ^ (2 * n) := by rw [p2]; exact Nat.mul_lt_mul_of_lt_of_le h2 (Nat.le_of_lt g2) (Nat.two_pow_pos n)
  have m1 : c * M ≤ (2 ^ n - 1) * (2 ^ n - 1) := Nat.mul_le_mul (by omega) (by omega)
  have m2 : d * N ≤ (2 ^ n - 1) * (2 ^ n - 1) := Nat.mul_le_mul (by omega) (by omega)
  have m3 : 1 * (N * M) ≤ (2 ^ n - 1) * (2 ^ n - 1) := by rw [Nat.one_mul]; exact Nat.mul_le_mul (by omega) (by omega)
  have m4 : (2 ^ n - 1) * (2 ^ n - 1) < 2 ^ (2 * n) := by
    rw [p2]
    have := Nat.two_pow_pos n
    exact Nat.mul_lt_mul_of_lt_of_le (by omega) (by omega) this
  refine ⟨⟨N * M, (2 ^ n - 1) * (2 ^ n - 1), Nat.mul_pos h1 g1, hNM, m4, fun s hs p hp => ?_⟩, fun s hs => ?_⟩
  · rcases h s hs with e | e | e
    · subst e; exact sq_mono (sq_lift M g1 (h4 p hp)) m1
    · subst e
      have := sq_mono (sq_lift N h1 (g4 p hp)) m2
      rw [Nat.mul_comm]; exact this
    · subst e
      rw [List.mem_singleton] at hp
      subst hp
      have one : Sq 1 1 (1 : Rat) := ⟨1, by decide, by decide⟩
      have := sq_mono (sq_lift (N * M) (Nat.mul_pos h1 g1) one) m3
      rw [Nat.one_mul] at this; exact this
  · rcases h s hs with e | e | e
    · subst e; exact ⟨la, fun p hp => (h5 p hp).mono (by omega)⟩
    · subst e; exact ⟨lb, fun p hp => (g5 p hp).mono (by omega)⟩
    · subst e
      refine ⟨by decide, fun p hp => ?_⟩
      rw [List.mem_singleton] at hp
      subst hp
      exact b3
/-- showing lists of lists -/
theorem leaves_S {s : Spr} (h : ∀ p ∈ s, Bt 1900 p.1 ∧ Qb 1900 p.2) : (encS s).leavesShort 2000 = true ∧ (encS s).showable = true ∧ (encS s).hasDict = false ∧ (encS s).depth ≤ 3 ∧ (encS s).bulk = 5 * s.length := by
  have k1 : ∀ t : Spr, (∀ p ∈ t, Bt 1900 p.1 ∧ Qb 1900 p.2) → PyData.leavesShortAll 2000 (t.map encI) = true ∧ PyData.showableAll (t.map encI) = true ∧ PyData.hasDictAll (t.map encI) = false ∧ PyData.bulkAll (t.map encI) = 5 * t.length := by
    intro t
    induction t with
    | nil => intro _; simp [PyData.leavesShortAll, PyData.showableAll, PyData.hasDictAll, PyData.bulkAll]
    | cons p t ih =>
      intro h
      obtain ⟨i1, i2, i3, i4⟩ := ih fun q hq => h q (List.mem_cons_of_mem _ hq)
      obtain ⟨j1, j2⟩ := leaf_I (h p (List.mem_cons_self)).1 (h p (List.mem_cons_self)).2
      rw [List.map_cons]
      refine ⟨?_, ?_, ?_, ?_⟩
      · simp only [PyData.leavesShortAll, j1, i1, Bool.and_true]
      · simp only [PyData.showableAll, j2, i2, Bool.and_true]
      · simp [PyData.hasDictAll, PyData.hasDict, i3]
      · simp [PyData.bulkAll, PyData.bulk, i4]; omega
  obtain ⟨i1, i2, i3, i4⟩ := k1 s h
  have h2 : PyData.depthAll (s.map encI) ≤ 2 := depth_all encI 2 (fun x => by simp [PyData.depth, PyData.depthAll]) s
  exact ⟨by simp only [PyData.leavesShort, i1], by simp only [PyData.showable, i2], by simp only [PyData.hasDict, i3], by simp only [PyData.depth]; omega, by simp only [PyData.bulk, i4]⟩
theorem leaves_LS {k : Nat} : ∀ {ss : List Spr}, (∀ s ∈ ss, s.length ≤ k ∧ ∀ p ∈ s, Bt 1900 p.1 ∧ Qb 1900 p.2) → PyData.leavesShortAll 2000 (ss.map encS) = true ∧ PyData.showableAll (ss.map encS) = true ∧ PyData.hasDictAll (ss.map encS) = false ∧ PyData.depthAll (ss.map encS) ≤ 3 ∧ PyData.bulkAll (ss.map encS) ≤ (5 * k + 1) * ss.length
  | [], _ => by simp [PyData.leavesShortAll, PyData.showableAll, PyData.hasDictAll, PyData.bulkAll, PyData.depthAll]
  | s :: ss, h => by
    obtain ⟨i1, i2, i3, i4, i5⟩ := leaves_LS (k := k) (ss := ss) fun t ht => h t (List.mem_cons_of_mem _ ht)
    obtain ⟨j1, j2, j3, j4, j5⟩ := leaves_S (h s (List.mem_cons_self)).2
    have hk := (h s (List.mem_cons_self)).1
    rw [List.map_cons]
    refine ⟨?_, ?_, ?_, ?_, ?_⟩
    · rw [PyData.leavesShortAll, j1, i1]; rfl
    · rw [PyData.showableAll, j2, i2]; rfl
    · rw [PyData.hasDictAll, j3, i3]; rfl
    · rw [PyData.depthAll]; omega
    · rw [PyData.bulkAll, j5, List.length_cons, Nat.mul_succ]; omega
theorem leaves_LQ : ∀ {cs : List Rat}, (∀ c ∈ cs, Qb 1900 c) → PyData.leavesShortAll 2000 (cs.map encQ) = true ∧ PyData.showableAll (cs.map encQ) = true ∧ PyData.hasDictAll (cs.map encQ) = false ∧ PyData.depthAll (cs.map encQ) ≤ 1 ∧ PyData.bulkAll (cs.map encQ) ≤ 3 * cs.length
  | [], _ => by simp [PyData.leavesShortAll, PyData.showableAll, PyData.hasDictAll, PyData.bulkAll, PyData.depthAll]
  | c :: cs, h => by
    obtain ⟨i1, i2, i3, i4, i5⟩ := leaves_LQ (cs := cs) fun t ht => h t (List.mem_cons_of_mem _ ht)
    obtain ⟨a1, a2⟩ := leaf_int (h c (List.mem_cons_self)).num
    obtain ⟨b1, b2⟩ := leaf_int (h c (List.mem_cons_self)).den
    rw [List.map_cons]
    refine ⟨?_, ?_, ?_, ?_, ?_⟩
    · simp only [PyData.leavesShort, PyData.leavesShortAll, i1, Bool.and_true, Bool.and_eq_true] at a1 b1 ⊢; exact ⟨a1, b1⟩
    · simp only [PyData.showable, PyData.showableAll, i2, Bool.and_true, Bool.and_eq_true] at a2 b2 ⊢; exact ⟨a2, b2⟩
    · simp [PyData.hasDictAll, PyData.hasDict, i3]
    · simp [PyData.depthAll, PyData.depth]; omega
    · simp [PyData.bulkAll, PyData.bulk]; omega
theorem shw_pr {ss : List Spr} {cs : List Rat} (h : ∀ s ∈ ss, s.length ≤ 7 ∧ ∀ p ∈ s, Bt 1900 p.1 ∧ Qb 1900 p.2) (hl : ss.length ≤ 20) (h' : ∀ c ∈ cs, Qb 1900 c) (hc : cs.length ≤ 20) : Shw (.list [.list (ss.map encS), .list (cs.map encQ)]) := by
  obtain ⟨i1, i2, i3, i4, i5⟩ := leaves_LS (k := 7) h
  obtain ⟨j1, j2, j3, j4, j5⟩ := leaves_LQ h'
  refine shw_of ?_ ?_ ?_ ?_ ?_ (.inl ⟨_, rfl⟩)
  · simp only [PyData.leavesShort, PyData.leavesShortAll, i1, j1, Bool.and_true]
  · simp only [PyData.showable, PyData.showableAll, i2, j2, Bool.and_true]
  · simp only [PyData.hasDict, PyData.hasDictAll, i3, j3, Bool.or_false]
  · simp only [PyData.depth, PyData.depthAll]; omega
  · simp only [PyData.bulk, PyData.bulkAll]; omega
theorem shw_2 {a b : Spr} (ha : ∀ p ∈ a, Bt 1900 p.1 ∧ Qb 1900 p.2) (hb : ∀ p ∈ b, Bt 1900 p.1 ∧ Qb 1900 p.2) (la : a.length ≤ 7) (lb : b.length ≤ 7) : Shw (.list [encS a, encS b]) := by
  obtain ⟨i1, i2, i3, i4, i5⟩ := leaves_LS (k := 7) (ss := [a, b]) (fun s hs => by
    rcases List.mem_cons.mp hs with e | e
    · subst e; exact ⟨la, ha⟩
    · rw [List.mem_singleton] at e; subst e; exact ⟨lb, hb⟩)
  refine shw_of ?_ ?_ ?_ ?_ ?_ (.inl ⟨_, rfl⟩)
  · rw [PyData.leavesShort]; exact i1
  · rw [PyData.showable]; exact i2
  · rw [PyData.hasDict]; exact i3
  · rw [PyData.depth]; have : PyData.depthAll [encS a, encS b] ≤ 3 := i4; omega
  · rw [PyData.bulk]; have : PyData.bulkAll [encS a, encS b] ≤ (5 * 7 + 1) * 2 := i5; omega
/-! ### more chances -/
theorem tyC_ext {n : Nat} {cs cs' : List Rat} (h : TyC n cs) {M : Nat} (hM : 0 < M) (hM2 : M < 2 ^ n) (h' : ∀ c ∈ cs', c ∈ cs ∨ Sq M 1 c ∨ ∃ a b, a ∈ cs ∧ Sq M 1 b ∧ c = a + b) (hl : cs'.length ≤ 20) : TyC (2 * n + 1) cs' := by
  obtain ⟨⟨N, b, h1, h2, h3, h4⟩, h5⟩ := h
  have p2 : 2 ^ (2 * n + 1) = 2 * (2 ^ n * 2 ^ n) := by rw [Nat.pow_succ, show 2 * n = n + n by omega, Nat.pow_add]; omega
  have pp := Nat.mul_pos (Nat.two_pow_pos n) (Nat.two_pow_pos n)
  have k1 : N * M ≤ (2 ^ n - 1) * 2 ^ n := Nat.mul_le_mul (by omega) (by omega)
  have k2 : b * M ≤ (2 ^ n - 1) * 2 ^ n := Nat.mul_le_mul (by omega) (by omega)
  have k3 : (2 ^ n - 1) * 2 ^ n < 2 ^ n * 2 ^ n := Nat.mul_lt_mul_of_lt_of_le (by have := Nat.two_pow_pos n; omega) (Nat.le_refl _) (Nat.two_pow_pos n)
  have k4 : N ≤ N * M := Nat.le_mul_of_pos_right N hM
  have s2 : ∀ c, Sq M 1 c → Sq (N * M) (1 * N) c := fun c hc => by rw [Nat.mul_comm N M]; exact sq_lift N h1 hc
  refine ⟨⟨N * M, b * M + 1 * N, Nat.mul_pos h1 hM, by omega, by omega, fun c hc => ?_⟩, hl⟩
  rcases h' c hc with e | e | ⟨x, y, hx, hy, e⟩
  · exact sq_mono (sq_lift M hM (h4 c e)) (by omega)
  · exact sq_mono (s2 c e) (by omega)
  · rw [e]; exact sq_add (Nat.mul_pos h1 hM) (sq_lift M hM (h4 x hx)) (s2 y hy)
theorem unit_sq {M : Nat} : Sq M 1 (Rat.divInt 1 (M : Int)) ∧ Sq M 1 (Rat.divInt (-1) (M : Int)) := ⟨⟨1, rfl, by decide⟩, ⟨-1, rfl, by decide⟩⟩
theorem unit_enc {t M : Int} (ht : t = 1 ∨ t = -1) (hM : 0 < M) : encQ (Rat.divInt t M) = .tuple [.int t, .int M] := by
  obtain ⟨e1, e2⟩ := divInt_parts (t := t) (l := M) (by omega)
  have g : sgcd t M = 1 := by
    unfold sgcd
    rw [if_neg (by omega)]
    rcases ht with e | e <;> subst e <;> simp
  show PyData.tuple [.int (Rat.divInt t M).num, .int ((Rat.divInt t M).den : Int)] = _
  rw [e1, e2, g, Int.fdiv_one, Int.fdiv_one]
theorem unit_sgn {M : Int} (hM : 0 < M) : 0 < Rat.divInt 1 M ∧ Rat.divInt (-1) M < 0 := by
  have pos : 0 < Rat.divInt 1 M := by
    refine Rat.lt_of_le_of_ne (Rat.divInt_nonneg (by decide) (by omega)) fun z => ?_
    obtain ⟨e1, _⟩ := divInt_parts (t := 1) (l := M) (by omega)
    have g : sgcd 1 M = 1 := by unfold sgcd; rw [if_neg (by omega)]; simp
    rw [← z, g, Int.fdiv_one] at e1
    exact absurd e1 (by decide)
  refine ⟨pos, ?_⟩
  have e : Rat.divInt (-1) M = -(Rat.divInt 1 M) := by
    rw [Rat.divInt_eq_div, Rat.divInt_eq_div]
    have : ((-1 : Int) : Rat) = -((1 : Int) : Rat) := by decide
    rw [this]; grind
  rw [e]; grind
theorem cutD_last {xs : List D} {a : Nat} : cutD xs (some (a : Int)) none = xs.drop a := by
  unfold cutD
  rw [HT.sIx_nat]
  show ((xs.drop (min a xs.length)).take (xs.length - min a xs.length)) = _
  by_cases h : a ≤ xs.length
  · rw [Nat.min_eq_left h, List.take_of_length_le (by rw [List.length_drop]; omega)]
  · rw [Nat.min_eq_right (by omega), List.drop_eq_nil_of_le (Nat.le_refl _), List.drop_eq_nil_of_le (by omega), List.take_nil]
end MX

namespace PySem
theorem rev_no_len : typeLookup (.type "list_reverseiterator") "__len__" = pure none := by rw [typeLookup_type, builtinLookup_eq_fast]; kernel_rfl
theorem rev_hint : typeLookup (.type "list_reverseiterator") "__length_hint__" = pure (some (.builtin "list_reverseiterator.__length_hint__")) := by rw [typeLookup_type, builtinLookup_eq_fast]; kernel_rfl
theorem rev_self : isSubtype (.type "list_reverseiterator") (.type "list_reverseiterator") = pure true := by rw [isSubtype_type]; kernel_rfl
section
variable {prog : Program} {w : World} {A : Around} {s : Shared} {E : Value → Shared → Prop} {I : Addr} {Q : Bool → Shared → Prop}
theorem hint_rev (hT : s.TypeIs (.ref I) "list_reverseiterator") (hQ : Q false s) : wpAny (model prog w) A (Builtin.List.listLengthHint (.ref I)) Q E s := by
  unfold Builtin.List.listLengthHint
  refine wpAny_bind (wpAny_specialOf hT rev_no_len ?_)
  show wpAny _ A (specialOf (Value.ref I) (Str.ofString "__length_hint__") >>= _) _ _ _
  refine wpAny_bind (wpAny_specialOf hT rev_hint ?_)
  refine wpAny_bind (wpAny_isInstance hT rev_self ?_)
  show wpAny _ A (pure false) _ _ _
  exact wpAny_pure hQ
end
section
variable {prog : Program} {w : World} {A : Around} {s : Shared} {R : Result → Shared → Prop}
variable {I : Addr} {fp wr : List Addr} {G : Array GenState → Array GenState → Prop} {n : Nat} {P : Nat → Value → Prop} {St : Nat → Shared → Prop}
/-- as for a generator, but that its hint is quiet -/
theorem extend_rev (W : WalksS prog w A.in1 I fp wr G n P St) (hT : ∀ i s, St i s → s.TypeIs (.ref I) "list_reverseiterator") (S : Addr) (res : Value) (c₀ : Nat) (hst : St 0 s) (hSf : S ∉ fp) (hI : I ∈ fp)
    (hS : s.heap.get? S = some { cls := .type "list", data := .seq #[] c₀ })
    (hR : ∀ s' acc' c', Moved (S :: wr) G s s' → s'.heap.get? S = some { cls := .type "list", dict := none, data := .seq acc' c', slots := #[] } → ItemsOf P acc' n → R (.ok (.ret res)) s') (hn : n ≤ sizeLine) :
    wpAny (model prog w) A.in1 (Builtin.List.listExtendWith (.ref S) (.ref I) res)
      (fun fin s' => match fin with | .done f => R (.ok f) s' | .again c' => c'.quiet = true ∧ codeAny (model prog w) A c' R s') (fun e s' => R (.error e) s') s := by
  have hSI : S ≠ I := fun e => hSf (e ▸ hI)
  unfold Builtin.List.listExtendWith
  refine wpAny_bind (wpAny_typeOf (hT 0 _ hst) ?_)
  have h1 : Builtin.List.listSameRef (.ref S) (.ref I) = false := by simp [Builtin.List.listSameRef, hSI]
  have h2 : (Value.type "list_reverseiterator" == Value.type "list") = false := by decide
  have h3 : (Value.type "list_reverseiterator" == Value.type "tuple") = false := by decide
  simp only [h1, h2, h3, Bool.or_false, Bool.false_eq_true, if_false]
  refine wpAny_bind (W.self 0 _ _ _ hst ?_)
  refine wpAny_bind (wpAny_holding ?_)
  refine hint_rev (hT 0 _ hst) ?_
  exact wpAny_pure ⟨plainId_quiet F.plain_extend_loop _, codeAny_extend_loopS W hn _ hSf _ n 0 _ _ _ rfl (Nat.zero_le _) hst hS (ItemsOf.nil P) fun s' acc' c' hm hS' hacc => hR s' acc' c' hm hS' hacc⟩
theorem init_rev (W : WalksS prog w A.in1 I fp wr G n P St) (hT : ∀ i s, St i s → s.TypeIs (.ref I) "list_reverseiterator") (S : Addr) (hst : St 0 s) (hSf : S ∉ fp) (hI : I ∈ fp)
    (hS : s.heap.get? S = some { cls := .type "list", data := .seq #[] })
    (hR : ∀ s' acc' c', Moved (S :: wr) G s s' → s'.heap.get? S = some { cls := .type "list", dict := none, data := .seq acc' c', slots := #[] } → ItemsOf P acc' n → R (.ok (.ret .none)) s') (hn : n ≤ sizeLine) :
    wpAny (model prog w) A.in1 (Builtin.«list.__init__» ⟨[.ref S, .ref I], []⟩)
      (fun fin s' => match fin with | .done f => R (.ok f) s' | .again c' => c'.quiet = true ∧ codeAny (model prog w) A c' R s') (fun e s' => R (.error e) s') s := by
  show wpAny _ A.in1 (do let old ← Builtin.List.listItems (.ref S); Builtin.List.listUpdate (.ref S) (fun _ => #[]); letGo old.toList.reverse; Builtin.List.listExtendWith (.ref S) (.ref I) .none) _ _ s
  refine wpAny_bind ?_
  unfold Builtin.List.listItems
  refine wpAny_bind (wpAny_seqItems hS rfl (wpAny_pure ?_))
  show wpAny _ A.in1 (updateSeq S (fun _ => #[]) >>= fun _ => letGo (#[] : Array Value).toList.reverse >>= fun _ => Builtin.List.listExtendWith (.ref S) (.ref I) .none) _ _ s
  refine wpAny_bind (wpAny_updateSeq hS rfl ?_)
  have hS₂ := Heap.get?_update_self (Obj.mapSeq (fun _ => (#[] : Array Value))) hS rfl
  have oth : ∀ b o, b ≠ S → s.heap.get? b = some o → (s.heap.update S (Obj.mapSeq (fun _ => (#[] : Array Value)))).get? b = some o :=
    fun b o hb e => (Heap.get?_update_other _ _ (Ne.symm hb)).trans e
  refine wpAny_bind (wpAny_letGo ?_)
  refine extend_rev (hn := hn) W hT S .none _ (W.frame 0 s _ s.toks hst (Nat.le_refl _) fun b hb o e => oth b o (fun h => hSf (h ▸ hb)) e) hSf hI hS₂ fun s' acc' c' hm hS' hacc => ?_
  exact hR s' acc' c' (Moved.trans W.gtrans ((Moved.refl W.grefl).then_heap (Nat.le_refl _) fun b o hb e => oth b o (fun h => hb (h ▸ List.mem_cons_self)) e) hm) hS' hacc
end
section
variable {prog : Program} {w : World} {A : Around} {E : Value → Shared → Prop} {s : Shared}
variable {I : Addr} {fp wr : List Addr} {G : Array GenState → Array GenState → Prop} {n : Nat} {P : Nat → Value → Prop} {St : Nat → Shared → Prop}
theorem call_list_rev {Q : Value → Shared → Prop} (W : WalksS prog w A.in1.in1 I fp wr G n P St) (hT : ∀ i s, St i s → s.TypeIs (.ref I) "list_reverseiterator") (hst : St 0 s) (hfp : ∀ b ∈ fp, b < s.heap.objs.size) (hI : I ∈ fp)
    (hQ : ∀ s' acc' c', Moved (s.heap.objs.size :: wr) G { s with heap := s.heap.push { cls := .type "list", data := .seq #[] } } s' →
      s'.heap.get? s.heap.objs.size = some { cls := .type "list", dict := none, data := .seq acc' c', slots := #[] } → ItemsOf P acc' n → Q (.ref s.heap.objs.size) s') (hn : n ≤ sizeLine) :
    wpAny (model prog w) A (call (.type "list") [.ref I]) Q E s := by
  have hSf : s.heap.objs.size ∉ fp := fun hm => Nat.lt_irrefl _ (hfp _ hm)
  refine callType_codes (Q₁ := fun obj s₁ => obj = .ref s.heap.objs.size ∧ s₁ = { s with heap := s.heap.push { cls := .type "list", data := .seq #[] } }) F.called_list (F.typeCall_list_1 _) F.entry_list_init
    (code_list_new _ ⟨rfl, rfl⟩) fun obj s₁ h₁ => ?_
  obtain ⟨rfl, rfl⟩ := h₁
  have hS : (s.heap.push { cls := .type "list", data := .seq #[] }).get? s.heap.objs.size = some { cls := .type "list", data := .seq #[] } := Heap.get?_push_size _ rfl
  refine ⟨⟨_, hS, rfl⟩, F.args_list_init_2 _ _, init_rev (hn := hn) W hT _ (W.frame 0 s _ s.toks hst (Nat.le_refl _) fun b _ o e => Heap.get?_push_of_some _ e) hSf hI hS fun s' acc' c' hm hS' hacc => ?_⟩
  exact ⟨rfl, hQ s' acc' c' hm hS' hacc⟩
end
end PySem

namespace PySem
theorem revW {prog : Program} {w : World} {A : Around} (hh : A.handled = none) (I l : Addr) (hne : l ≠ I) (items : Array Value) :
    WalksS prog w A I [I, l] [I] (fun g g' => g' = g) items.size (fun i v => items[items.size - 1 - i]? = some v) (fun i s => i ≤ items.size ∧ s.heap.IsRevIter I l ((items.size : Int) - 1 - (i : Int)) ∧ s.heap.IsList l items) where
  sub := fun b hb => by simp at hb; simp [hb]
  grefl := fun _ => rfl
  gtrans := fun _ _ _ a b => b.trans a
  frame := fun i s h' tk x _ hk => ⟨x.1, x.2.1.at fun o e => hk I (by simp) o e, x.2.2.at fun o e => hk l (by simp) o e⟩
  item := fun i s Q E hi x hQ => by
    have e : (items.size : Int) - 1 - (i : Int) = ((items.size - 1 - i : Nat) : Int) := by omega
    have hit := x.2.1
    rw [e] at hit
    have hx : items[items.size - 1 - i]? = some (items[items.size - 1 - i]'(by omega)) := Array.getElem?_eq_getElem (by omega)
    refine wpAny_pyNext_rev_item hit x.2.2 hx fun h' hit' hs' => ?_
    have e2 : ((items.size - 1 - i : Nat) : Int) - 1 = (items.size : Int) - 1 - ((i + 1 : Nat) : Int) := by omega
    rw [e2] at hit'
    exact hQ _ { s with heap := h' } hx ⟨hi, hit', x.2.2.at fun o eo => (hs'.2 l hne).trans eo⟩ ⟨fun b o hb eo => hs'.extBut b o (fun h => hb (by simp [h])) eo, rfl, rfl, rfl, Nat.le_refl _⟩
  done := fun s Q E x hQ => by
    have e : (items.size : Int) - 1 - (items.size : Int) = -1 := by omega
    have hit := x.2.1
    rw [e] at hit
    exact wpAny_pyNext_rev_end hh hit fun h' he' => hQ { s with heap := h' } ⟨fun b o hb eo => he' b o (fun h => hb (by simp [h])) eo, rfl, rfl, rfl, Nat.le_refl _⟩
  self := fun _ _ _ _ x hQ => wpAny_pyIter_revIter x.2.1 hQ
end PySem
namespace DL
open PySem L2 PyProof.Rows
theorem vals_rev : ∀ {xs : List V} {us : List Value}, Vals xs us → Vals xs.reverse us.reverse := by
  intro xs us h
  induction h with
  | nil => exact .nil
  | cons a b ih =>
    rw [List.reverse_cons, List.reverse_cons]
    exact ih.append (.cons a .nil)
variable {X : Cx} {e : Expr} {te : TE} {p p2 pos pos2 : Pos}
theorem pe_listRev (hc : X.calm = true) (hgl : Gl X "list") (hml : X.mg "list" = none) (hgr : Gl X "reversed") (hmr : X.mg "reversed" = none) (he : PE X e te)
    (hs : starEach [e] X.env = [(false, eval e X.env)] := by rfl) (hs2 : starEach [.Call (.Name "reversed" p2) [e] [] pos2] X.env = [(false, eval (.Call (.Name "reversed" p2) [e] [] pos2) X.env)] := by rfl) :
    PE X (.Call (.Name "list" p) [.Call (.Name "reversed" p2) [e] [] pos2] [] pos) (tRevL X.K te) := by
  refine ⟨fun pins s σ H Q I h => ?_⟩
  refine Call_ (ld_blt I hgl hml boot_list (callWith_type1 ?_ hs2 rfl))
  rw [hs2]
  show wpAny _ _ (spliced ((false, eval (.Call (.Name "reversed" p2) [e] [] pos2) X.env) :: backTo pos [])) _ _ s
  refine Calls.spliced_cons ?_
  refine Call_ (ld_blt I hgr hmr boot_reversed (callWith_type1 ?_ hs rfl))
  rw [hs]
  show wpAny _ _ (spliced ((false, eval e X.env) :: backTo pos2 [])) _ _ s
  refine Calls.spliced_cons (thn (he.run pins s σ H _ I h) fun u s1 ⟨x, H1, I1, r1, q1⟩ => ?_)
  obtain ⟨a, xs, ex, hx, q⟩ := q1
  subst ex
  cases r1
  obtain ⟨its, rv, pl, hz⟩ := I1.list hx
  refine Calls.spliced_nil ?_
  refine call_reversed_list pl.isList ?_
  refine Calls.spliced_nil ?_
  have hlt : a < s1.heap.objs.size := pl.lt
  have hlen := rv.length
  refine call_list_rev (revW (by exact I.ok.hd hc) s1.heap.objs.size a (Nat.ne_of_lt hlt) its.toArray) (fun i s x => x.2.1.typeIs) ⟨Nat.zero_le _, ?_, ?_⟩ (fun b hb => ?_) (by simp) (fun s' acc' c' hm hS' hacc => ?_) ?_
  · have e1 : ((its.toArray.size : Nat) : Int) - 1 = ((its.toArray.size : Nat) : Int) - 1 - ((0 : Nat) : Int) := by simp
    rw [← e1]
    exact ⟨_, Heap.get?_push_size _ rfl, rfl, rfl⟩
  · exact pl.isList.at fun o e => Heap.get?_push_of_some _ e
  · have hsz : (s1.heap.push (revObj a ((its.toArray.size : Int) - 1))).objs.size = s1.heap.objs.size + 1 := by simp [Heap.push]
    show b < (s1.heap.push (revObj a ((its.toArray.size : Int) - 1))).objs.size
    rw [hsz]
    rcases List.mem_cons.mp hb with e | e
    · rw [e]; exact Nat.lt_succ_self _
    · rw [List.mem_singleton] at e; rw [e]; exact Nat.lt_succ_of_lt hlt
  · have hsz : (s1.heap.push (revObj a ((its.toArray.size : Int) - 1))).objs.size = s1.heap.objs.size + 1 := by simp [Heap.push]
    have keep : ∀ b u, s1.heap.get? b = some u → s'.heap.get? b = some u := fun b u e => by
      have hb := Heap.lt_size e
      refine hm.heap b u (fun hm2 => ?_) (Heap.get?_push_of_some _ (Heap.get?_push_of_some _ e))
      rcases List.mem_cons.mp hm2 with e2 | e2
      · have e3 : b = (s1.heap.push (revObj a ((its.toArray.size : Int) - 1))).objs.size := e2
        rw [hsz] at e3
        exact absurd hb (by rw [e3]; exact Nat.not_lt.mpr (Nat.le_succ _))
      · rw [List.mem_singleton] at e2
        exact absurd hb (by rw [e2]; exact Nat.lt_irrefl _)
    have es : s' = { s1 with heap := s'.heap, toks := s'.toks } := by
      have h1 := hm.gens
      have h2 := hm.drawn
      have h3 := hm.os
      obtain ⟨a1, a2, a3, a4, a5⟩ := s'
      simp only at h1 h2 h3
      subst h1 h2 h3
      rfl
    have hacc2 : acc'.toList = its.reverse := by
      refine List.ext_getElem? fun j => ?_
      have h1 := hacc.1
      have h1 : acc'.size = its.length := by simpa using h1
      by_cases hj : j < its.length
      · have h2 := hacc.2 j (acc'[j]'(by omega)) (Array.getElem?_eq_getElem (by omega))
        rw [List.getElem?_reverse hj]
        have h3 : its[its.length - 1 - j]? = some (acc'[j]'(by omega)) := by simpa using h2
        rw [h3, Array.getElem?_toList, Array.getElem?_eq_getElem (by omega)]
      · rw [List.getElem?_eq_none (by simp; omega), List.getElem?_eq_none (by simp; omega)]
    rw [es]
    have hf : H1 (s1.heap.push (revObj a ((its.toArray.size : Int) - 1))).objs.size = none := I1.hok.fresh (by rw [hsz]; omega)
    refine ⟨.ref (s1.heap.push (revObj a ((its.toArray.size : Int) - 1))).objs.size, _, I1.laid (o := .lst xs.reverse) (t' := s'.toks) keep (by rw [hsz]; omega) ⟨by rw [List.length_reverse]; exact hz, acc'.toList, c', by rw [hacc2]; exact vals_rev rv, hS'⟩, rfl, q _ hf⟩
  · rw [List.size_toArray, ← hlen]; exact hz
end DL

namespace MX
open PySem L2 DL
/-! ### few keys -/
theorem asc_len : ∀ (l : List Int) (lo : Int) (n : Nat), l.Pairwise (· < ·) → (∀ x ∈ l, lo ≤ x ∧ x < lo + n) → l.length ≤ n
  | [], _, _, _, _ => Nat.zero_le _
  | x :: l, lo, n, h, hb => by
    rw [List.pairwise_cons] at h
    have hx := hb x (List.mem_cons_self)
    have hn : 0 < n := by omega
    have := asc_len l (lo + 1) (n - 1) h.2 fun y hy => by
      have h1 := h.1 y hy
      have h2 := hb y (List.mem_cons_of_mem _ hy)
      omega
    rw [List.length_cons]; omega
theorem few_of {s : Spr} {lo : Int} {n : Nat} (h : ∀ p ∈ s, lo ≤ p.1 ∧ p.1 < lo + n) : (acc s).length ≤ n := by
  have h1 := asc_len (srt ((acc s).map (·.1))) lo n (gat_keys_lt s) fun x hx => by
    obtain ⟨p, hp, rfl⟩ := List.mem_map.mp ((acc_mem s x).mp ((srt_perm _).mem_iff.mp hx))
    exact h p hp
  rw [(srt_perm _).length_eq, List.length_map] at h1
  exact h1
/-! ### mass and signs -/
abbrev mass (s : Spr) : Rat := Ex s fun _ => 1
theorem mass_eq (s : Spr) : mass s = (s.map (·.2)).sum := by
  unfold mass Ex
  exact congrArg List.sum (List.map_congr_left fun p _ => by grind)
theorem mass_gat (s : Spr) : mass (gatF s) = mass s := ex_gat s _
theorem ex_const (s : Spr) (c : Rat) : Ex s (fun _ => c) = c * mass s := by
  rw [← ex_mul]
  exact congrArg (Ex s) (funext fun _ => by grind)
theorem mass_sum (s t : Spr) : mass (sumF s t) = mass s * mass t := by
  show Ex (sumF s t) (fun _ => 1) = _
  rw [ex_sum, ex_const]; grind
theorem ex_nn {s : Spr} (h : ∀ p ∈ s, 0 ≤ p.2) (v : Int) : 0 ≤ wt s v := by
  induction s with
  | nil => show (0 : Rat) ≤ 0; decide
  | cons p s ih =>
    rw [wt_cons]
    have h1 := h p (List.mem_cons_self)
    have h2 := ih fun q hq => h q (List.mem_cons_of_mem _ hq)
    split <;> grind
theorem gat_pos {s : Spr} (h : ∀ p ∈ s, 0 ≤ p.2) : ∀ p ∈ gatF s, 0 < p.2 := fun p hp => by
  have h1 := (gat_can s).nz p hp
  have h2 := (gat_mem hp).2
  have h3 := ex_nn h p.1
  rw [← h2] at h3
  exact Rat.lt_of_le_of_ne h3 (Ne.symm h1)
theorem sum_nn {s t : Spr} (hs : ∀ p ∈ s, 0 ≤ p.2) (ht : ∀ p ∈ t, 0 ≤ p.2) : ∀ p ∈ sumF s t, 0 ≤ p.2 := fun p hp => by
  obtain ⟨a, ha, hb⟩ := List.mem_flatMap.mp hp
  obtain ⟨q, hq, rfl⟩ := List.mem_map.mp hb
  exact Rat.mul_nonneg (hs a ha) (ht q hq)
theorem mix_nn {ss : List Spr} {cs : List Rat} (hs : ∀ s ∈ ss, ∀ p ∈ s, 0 ≤ p.2) (hc : ∀ c ∈ cs, 0 ≤ c) : ∀ p ∈ mixF ss cs, 0 ≤ p.2 := fun p hp => by
  obtain ⟨a, ha, hb⟩ := List.mem_flatMap.mp hp
  obtain ⟨q, hq, rfl⟩ := List.mem_map.mp hb
  exact Rat.mul_nonneg (hc _ (List.of_mem_zip ha).2) (hs _ (List.of_mem_zip ha).1 q hq)
/-! ### the laws of sums and mixtures -/
theorem sum_assoc (a b c : Spr) : gatF (sumF (gatF (sumF a b)) c) = gatF (sumF a (gatF (sumF b c))) := ex_wt fun f => by
  rw [ex_sum, ex_gat, ex_sum, ex_sum]
  refine congrArg (Ex a) (funext fun x => ?_)
  rw [ex_gat, ex_sum]
  exact congrArg (Ex b) (funext fun y => congrArg (Ex c) (funext fun z => by rw [Int.add_assoc]))
theorem ex_sh (a : Spr) (k : Int) (f : Int → Rat) : Ex (shF a k) f = Ex a fun x => f (x + k) := by
  unfold shF
  induction a with
  | nil => rfl
  | cons p a ih => rw [List.map_cons, ex_cons, ex_cons, ih]
theorem can_sh {a : Spr} (h : Can a) (k : Int) : Can (shF a k) := by
  refine ⟨?_, fun p hp => ?_⟩
  · have h1 := h.asc
    unfold shF
    rw [List.map_map]
    rw [List.pairwise_map] at h1 ⊢
    exact h1.imp fun {p q} h => by show p.1 + k < q.1 + k; omega
  · obtain ⟨q, hq, rfl⟩ := List.mem_map.mp hp; exact h.nz q hq
theorem sum_one {a : Spr} (h : Can a) (k : Int) : gatF (sumF a [(k, 1)]) = shF a k := by
  rw [← can_gat (can_sh h k)]
  refine ex_wt fun f => ?_
  rw [ex_sum, ex_sh]
  refine congrArg (Ex a) (funext fun x => ?_)
  rw [ex_cons, ex_nil]; grind
theorem sh_zero (a : Spr) : shF a 0 = a := by
  unfold shF
  conv => rhs; rw [← List.map_id a]
  exact List.map_congr_left fun p _ => by show (p.1 + 0, p.2) = p; rw [Int.add_zero]
theorem mean_sum {a b : Spr} (ha : mass a = 1) (hb : mass b = 1) : Ex (gatF (sumF a b)) (fun x => (x : Rat)) = Ex a (fun x => (x : Rat)) + Ex b (fun x => (x : Rat)) := by
  rw [ex_gat, ex_sum]
  have e : (fun x : Int => Ex b fun y => ((x + y : Int) : Rat)) = fun x : Int => (x : Rat) + Ex b fun y => (y : Rat) := by
    funext x
    have e2 : (fun y : Int => ((x + y : Int) : Rat)) = fun y : Int => (x : Rat) + (y : Rat) := by funext y; rw [Rat.intCast_add]
    rw [e2, ex_add, ex_const, hb]; grind
  rw [e, ex_add, ex_const, ha]; grind
theorem gat_rev {a : Spr} (h : Can a) : gatF a.reverse = a := by
  rw [← can_gat h]
  conv => rhs; rw [can_gat h]
  have e : gatF a.reverse = gatF a := ex_wt fun f => ex_perm (List.reverse_perm a) f
  rw [can_gat h, e, can_gat h]
theorem ex_mix2 (a b : Spr) (c d : Rat) (f : Int → Rat) : Ex (mixF [a, b] [c, d]) f = c * Ex a f + d * Ex b f := by
  rw [ex_mix]
  show c * Ex a f + (d * Ex b f + 0) = _
  grind
theorem ex_mix1 (a : Spr) (c : Rat) (f : Int → Rat) : Ex (mixF [a] [c]) f = c * Ex a f := by
  rw [ex_mix]
  show c * Ex a f + 0 = _
  grind
theorem mix_same {a : Spr} (h : Can a) {c d : Rat} (hs : c + d = 1) : gatF (mixF [a, a] [c, d]) = a := by
  have e : gatF (mixF [a, a] [c, d]) = gatF a := ex_wt fun f => by rw [ex_mix2]; grind
  rw [e, can_gat h]
theorem mix_one {a : Spr} (h : Can a) : gatF (mixF [a] [1]) = a := by
  have e : gatF (mixF [a] [1]) = gatF a := ex_wt fun f => by rw [ex_mix1]; grind
  rw [e, can_gat h]
theorem mix_first {a b : Spr} (h : Can a) : gatF (mixF [a, b] [1, 0]) = a := by
  have e : gatF (mixF [a, b] [1, 0]) = gatF a := ex_wt fun f => by rw [ex_mix2]; grind
  rw [e, can_gat h]
theorem mean_mix (a b : Spr) (c d : Rat) : Ex (gatF (mixF [a, b] [c, d])) (fun x => (x : Rat)) = c * Ex a (fun x => (x : Rat)) + d * Ex b (fun x => (x : Rat)) := by rw [ex_gat, ex_mix2]
theorem mix_dist (a b t : Spr) (c d : Rat) : gatF (sumF (gatF (mixF [a, b] [c, d])) t) = gatF (mixF [gatF (sumF a t), gatF (sumF b t)] [c, d]) := ex_wt fun f => by
  rw [ex_sum, ex_gat, ex_mix2, ex_mix2, ex_gat, ex_gat, ex_sum, ex_sum]
theorem mass_mix {a b : Spr} {c d : Rat} (ha : mass a = 1) (hb : mass b = 1) (hs : c + d = 1) : mass (gatF (mixF [a, b] [c, d])) = 1 := by
  show Ex (gatF (mixF [a, b] [c, d])) (fun _ => 1) = 1
  have ha : Ex a (fun _ => 1) = 1 := ha
  have hb : Ex b (fun _ => 1) = 1 := hb
  rw [ex_gat, ex_mix2, ha, hb]; grind
end MX

namespace MX
open PySem L2 DL
/-! ### spreads within an interval: more than 64 items, fewer than 64 values -/
structure TyG (n m : Nat) (lo : Int) (w : Nat) (s : Spr) : Prop where
  q : ∃ N b : Nat, 0 < N ∧ N < 2 ^ n ∧ b < 2 ^ n ∧ ∀ p ∈ s, Sq N b p.2
  v : ∀ p ∈ s, lo ≤ p.1 ∧ p.1 < lo + w
  len : s.length ≤ m
theorem TyG.acc {n m w : Nat} {lo : Int} {s : Spr} (h : TyG n m lo w s) : (acc s).length ≤ w := few_of h.v
theorem TyG.qb {n m w : Nat} {lo : Int} {s : Spr} (h : TyG n m lo w s) : ∀ p ∈ s, Qb n p.2 := fun p hp => by
  obtain ⟨⟨N, b, h1, h2, h3, h4⟩, _, _⟩ := h
  exact sq_qb h1 h2 h3 (h4 p hp)
theorem thou {k b n m : Nat} (hk : k ≤ 1024) (hb : b ≤ 2 ^ n) (h : n + 10 ≤ m) : k * b ≤ 2 ^ m := by
  have h1 : k * b ≤ 1024 * 2 ^ n := Nat.mul_le_mul hk hb
  have h2 : 1024 * 2 ^ n = 2 ^ (n + 10) := by rw [Nat.pow_add]; omega
  exact Nat.le_trans (by omega) (pow_lt h)
theorem fin_g {N b n k m : Nat} (h1 : 0 < N) (h2 : N < 2 ^ n) (h3 : b < 2 ^ m) (hk : k ≤ 1000) (hn : n ≤ 3900) (hm : m ≤ 3880) : Fin N b k := by
  refine ⟨h1, Nat.lt_of_lt_of_le h2 (pow_lt hn), ?_⟩
  have := thou (k := k + 1) (b := b + 1) (n := m) (m := 3890) (by omega) h3 (by omega)
  exact Nat.lt_of_le_of_lt this (Nat.pow_lt_pow_right (by decide) (by decide))
theorem TyG.fine {n m w : Nat} {lo : Int} {s : Spr} (h : TyG n m lo w s) (hn : n ≤ 3000) (hm : m ≤ 1000) : Fine (s.map (·.2)) := by
  obtain ⟨⟨N, b, h1, h2, h3, h4⟩, _, h6⟩ := h
  exact ⟨N, b, fin_g h1 h2 h3 (by rw [List.length_map]; omega) (by omega) (by omega), fun r hr => by obtain ⟨p, hp, rfl⟩ := List.mem_map.mp hr; exact h4 p hp⟩
theorem TyG.gd {n m w : Nat} {lo : Int} {s : Spr} (h : TyG n m lo w s) (hn : n ≤ 3000) (hm : m ≤ 1000) (hw : w < 64) : Gd s := ⟨h.fine hn hm, by have := h.len; omega, Nat.lt_of_le_of_lt h.acc hw⟩
theorem gat_lenA (s : Spr) : (gatF s).length ≤ (acc s).length := by
  unfold gatF
  refine Nat.le_trans (List.length_filterMap_le _ _) ?_
  rw [(srt_perm _).length_eq, List.length_map]
  exact Nat.le_refl _
theorem TyG.gat {n m w : Nat} {lo : Int} {s : Spr} (h : TyG n m lo w s) (hm : m ≤ 1000) : TyG (n + 10) w lo w (gatF s) := by
  obtain ⟨⟨N, b, h1, h2, h3, h4⟩, h5, h6⟩ := h
  have hs := wt_sq h1 (s := s) fun r hr => by obtain ⟨p, hp, rfl⟩ := List.mem_map.mp hr; exact h4 p hp
  have hb : s.length * b < 2 ^ (n + 10) := by
    have e : (2 : Nat) ^ (n + 10) = 1024 * 2 ^ n := by rw [Nat.pow_add]; omega
    rw [e]
    exact Nat.lt_of_le_of_lt (Nat.mul_le_mul_left _ (Nat.le_of_lt h3)) (Nat.mul_lt_mul_of_pos_right (by omega) (Nat.two_pow_pos n))
  refine ⟨⟨N, s.length * b, h1, Nat.lt_of_lt_of_le h2 (pow_lt (by omega)), hb, fun p hp => by rw [(gat_mem hp).2]; exact hs _⟩, fun p hp => ?_, Nat.le_trans (gat_lenA s) (few_of h5)⟩
  obtain ⟨q, hq, e⟩ := List.mem_map.mp (gat_mem hp).1
  rw [← e]
  exact h5 q hq
theorem TyG.sum {n m w n' m' w' : Nat} {lo lo' : Int} {s t : Spr} (h : TyG n m lo w s) (h' : TyG n' m' lo' w' t) : TyG (n + n') (m * m') (lo + lo') (w + w') (sumF s t) := by
  obtain ⟨⟨N, b, h1, h2, h3, h4⟩, h5, h6⟩ := h
  obtain ⟨⟨M, c, g1, g2, g3, g4⟩, g5, g6⟩ := h'
  refine ⟨⟨N * M, b * c, Nat.mul_pos h1 g1, ?_, ?_, fun p hp => ?_⟩, fun p hp => ?_, Nat.le_trans (sum_len s t) (Nat.mul_le_mul h6 g6)⟩
  · rw [Nat.pow_add]; exact Nat.mul_lt_mul_of_lt_of_le h2 (Nat.le_of_lt g2) (Nat.two_pow_pos _)
  · rw [Nat.pow_add]; exact Nat.mul_lt_mul_of_lt_of_le h3 (Nat.le_of_lt g3) (Nat.two_pow_pos _)
  · obtain ⟨a, ha, hb⟩ := List.mem_flatMap.mp hp
    obtain ⟨q, hq, rfl⟩ := List.mem_map.mp hb
    exact sq_mul (h4 a ha) (g4 q hq)
  · obtain ⟨a, ha, hb⟩ := List.mem_flatMap.mp hp
    obtain ⟨q, hq, rfl⟩ := List.mem_map.mp hb
    have := h5 a ha
    have := g5 q hq
    show lo + lo' ≤ a.1 + q.1 ∧ a.1 + q.1 < lo + lo' + ((w + w' : Nat) : Int)
    omega
theorem TyG.of {n : Nat} {s : Spr} {lo : Int} {w m : Nat} (h : Ty n s) (hv : ∀ p ∈ s, lo ≤ p.1 ∧ p.1 < lo + w) (hl : s.length ≤ m) : TyG n m lo w s := ⟨h.q, hv, hl⟩
theorem TyG.wide {n m w w' : Nat} {lo lo' : Int} {s : Spr} (h : TyG n m lo w s) (h1 : lo' ≤ lo) (h2 : lo + w ≤ lo' + w') : TyG n m lo' w' s := ⟨h.q, fun p hp => by have := h.v p hp; omega, h.len⟩
theorem TyG.mono {n m w n' m' : Nat} {lo : Int} {s : Spr} (h : TyG n m lo w s) (h1 : n ≤ n') (h2 : m ≤ m') : TyG n' m' lo w s := by
  obtain ⟨⟨N, b, a1, a2, a3, a4⟩, h5, h6⟩ := h
  exact ⟨⟨N, b, a1, Nat.lt_of_lt_of_le a2 (pow_lt h1), Nat.lt_of_lt_of_le a3 (pow_lt h1), a4⟩, h5, by omega⟩
theorem TyG.mn {n m w : Nat} {lo : Int} {s : Spr} (h : TyG n m lo w s) (hn : n ≤ 1000) (hm : m ≤ 1000) (hl : -1000 ≤ lo ∧ lo ≤ 1000) (hw : w ≤ 1000) : Mn s := by
  have hv : ∀ p ∈ s, Bt 12 p.1 := fun p hp => by
    have := h.v p hp
    exact bt_range (by have : (2 : Int) ^ 12 = 4096 := by decide
                       omega) (by have : (2 : Int) ^ 12 = 4096 := by decide
                                  omega)
  have hq := h.qb
  obtain ⟨⟨N, b, h1, h2, h3, h4⟩, h5, h6⟩ := h
  refine ⟨⟨N, 2 ^ 12 * b, fin_g h1 h2 (m := n + 12) ?_ (by rw [List.length_map]; omega) (by omega) (by omega), fun r hr => ?_⟩, fun p hp => ⟨(hv p hp).mono (by decide), (hq p hp).mono (by omega)⟩, by omega⟩
  · have e : (2 : Nat) ^ (n + 12) = 2 ^ 12 * 2 ^ n := by rw [Nat.pow_add, Nat.mul_comm]
    rw [e]
    exact Nat.mul_lt_mul_of_pos_left h3 (Nat.two_pow_pos 12)
  · obtain ⟨p, hp, rfl⟩ := List.mem_map.mp hr
    exact sq_intmul h1 (hv p hp) (h4 p hp)
/-- the law's spreads lie within their interval, their chances are above 0 and add up to 1 -/
theorem spr_in {n : Nat} {low width : Int} (h : SprOk n width) (cell : Int) : ∀ p ∈ sprF cell n low width, low ≤ p.1 ∧ p.1 < low + width := fun p hp => by
  have h1 := (gat_mem hp).1
  obtain ⟨q, hq, e⟩ := List.mem_map.mp h1
  unfold wtd at hq
  obtain ⟨k, hk, rfl⟩ := List.mem_map.mp hq
  rw [List.mem_range] at hk
  have e : (sprV cell n low width).getD k 0 = p.1 := e
  rw [← e, List.getD_eq_getElem?_getD, List.getElem?_eq_getElem hk, Option.getD_some]
  exact sprV_mem h cell (List.getElem_mem hk)
theorem wtd_snd {vs ws : List Int} (h : vs.length = ws.length) : (wtd vs ws).map (·.2) = csF ws := by
  unfold wtd csF
  rw [List.map_map]
  refine List.ext_getElem? fun i => ?_
  rw [List.getElem?_map, List.getElem?_map]
  by_cases hi : i < vs.length
  · rw [List.getElem?_range hi, List.getElem?_eq_getElem (show i < ws.length by omega)]
    show some (Rat.divInt (ws.getD i 0) ws.sum) = some (Rat.divInt ws[i] ws.sum)
    rw [List.getD_eq_getElem?_getD, List.getElem?_eq_getElem (show i < ws.length by omega), Option.getD_some]
  · rw [List.getElem?_eq_none (by rw [List.length_range]; omega), List.getElem?_eq_none (show ws.length ≤ i by omega)]; rfl
theorem spr_mass {n : Nat} {low width : Int} (h : SprOk n width) (cell : Int) : mass (sprF cell n low width) = 1 := by
  have hw := spr_wd (low := low) h cell
  unfold sprF
  rw [mass_gat, mass_eq, wtd_snd hw.len, sum_cs (by have := hw.sum; omega)]
theorem spr_gt {n : Nat} {low width : Int} (h : SprOk n width) (cell : Int) : ∀ p ∈ sprF cell n low width, 0 < p.2 := gat_pos fun p hp => by
  have hw := spr_wd (low := low) h cell
  have hm : p.2 ∈ (wtd (sprV cell n low width) (sprW cell n width)).map (·.2) := List.mem_map.mpr ⟨p, hp, rfl⟩
  rw [wtd_snd hw.len] at hm
  exact cs_pos (by have := hw.sum; omega) (fun v hv => by have := hw.pos v hv; omega) _ hm
end MX

/-! Errors raised out of an except suite; slices of tuples and of the script; chains. -/
namespace DL
open PySem L2 PyProof.Rows
section
variable {P : Program} {w : World} {K : PySem.W.Frag} {mg : Str → Option Value} {base : Heap} {x qual : Str} {st : Stmt} {f : Addr} {fd : FuncData} {N ps : List Str} {k : Nat} {α : Type} {fs : α → List SD} {pre : α → Prop} {fo : α → Option D} {C : Value}
abbrev cxT (P : Program) (w : World) (K : PySem.W.Frag) (mg : Str → Option Value) (base : Heap) (N : List Str) (qual : Str) (st : Stmt) (f : Addr) (cdv : Value) (A : Around) (outer : List Env) (s : Shared) (H : Hp) (E : XK) : Cx := cxOf (L2N.CX P w) P w K mg base N qual (defScope st) f cdv A outer s H E
/-- a def that hands back data or raises, its errors without a context -/
theorem fn_T (F : Fun K x qual st f fd) (S : FnScope N ps (defScope st)) (hn : ∀ a, (fs a).length = ps.length)
    (body : ∀ (cdv : Value) (A : Around) (outer : List Env) (s : Shared) (H : Hp) (E : XK), Room k (A.deeper (PyProof.Rows.envOfC qual (defScope st) s.heap.objs.size f cdv)) →
      ∃ t, PSs (cxT P w K mg base N qual st f cdv A outer s H E) (defBody st) t ∧ ∀ a, pre a → (∀ d, fo a = some d → Run K E t (envOf N (fs a)) (.rt d) ∨ (d = .none ∧ ∃ e, Run K E t (envOf N (fs a)) (.nx e))) ∧ (fo a = none → Run K E t (envOf N (fs a)) (.ex C))) :
    FnOk P w K mg base (L2N.CX P w) (k + 1) f fd ps (SpX K fs pre C fo) := by
  obtain ⟨c1, c2, c3, c4, c5, c6, cdv, c7, c8, rfl, look, isCode⟩ := F.ex
  refine L2.fn_of look isCode S (fun vs H Q E h => ?_) fun A outer s H vs Q E room h => ?_
  · obtain ⟨a, G, gh, ha, _⟩ := h
    rw [ha.len, hn a]
  · obtain ⟨a, G, gh, ha, hp, q1, q2⟩ := h
    obtain ⟨t, h1, h2⟩ := body cdv A outer s H E room
    refine ⟨t, h1, ?_⟩
    obtain ⟨h3, h4⟩ := h2 a hp
    cases e : fo a with
    | none => exact h4 e G H G H _ _ (ok_start gh ha) fun G' H' fw => q2 e G' H' fw
    | some d =>
      rcases h3 d e with h5 | ⟨ed, en, h5⟩
      · exact h5 G H G H _ _ (ok_start gh ha) fun v G' H' fw hv => q1 d e v G' H' fw hv
      · subst ed
        exact h5 G H G H _ _ (ok_start gh ha) fun G' H' σ' ok' => q1 _ e _ G' H' ok'.fw .non
end
section
variable {X : Cx} {W : WX} {x m : Str} {C : Addr} {j : Nat} {p p2 pos pos2 cpos : Pos}
theorem ps_errT (hc : X.calm = true) (tk : L2N.Takes X W) (F : ErrC X.K X.mg x C) (hg : Gl X x) (hdb : (x == ("__debug__" : Str)) = false := by decide) :
    PS X (.Raise (some (.Call (.Name x p) [.Constant (.str m) j p2] [] pos)) none pos2) (fun _ σ H => W (.ref C) none σ H) :=
  L2N.ps_raise hc tk (L2N.pmk_own PySem.F.excBase_ValueError F.ex F.g F.kp (raises_own F.sub F.ty) hg hdb)
theorem pmk5_err (F : ErrC X.K X.mg x C) (hg : Gl X x) (hdb : (x == ("__debug__" : Str)) = false := by decide) : L2H.PMk5 X (.Call (.Name x p) [.Constant (.str m) j p2] [] pos) (fun _ H Q => Q (.ref C) none H) := by
  intro pn s σ H Q inv want
  refine wpAny_Call_Name_kw (ld_glob inv hg F.g ?_ hdb)
  refine PySem.W.callWith_K (h₀ := X.base) inv.ok.mod.kin F.kp (thn ((pa_cons pe_str pa_nil : PA X [.Constant (.str m) j p2] (tCons (tC (.str m)) tNil)).run pos pn s σ H (fun zs HH => zs = [V.str m] ∧ H = HH) inv ⟨rfl, rfl⟩) fun args s1 got => ?_)
  obtain ⟨zs, HH, inv1, rel, e1, e2⟩ := got
  subst e1
  subst e2
  refine ⟨inv1.kIn, ?_⟩
  match args, rel with
  | [arg], .cons _ .nil =>
    obtain ⟨b1, b2, b3, b4, b5, b6, b7, b8, b9, b10, b11, b12, b13, b14, b15, b16, isN, isC, isM, isI, isT⟩ := exc_obj inv1.kIn F.ex
    exact wpAny_call_exc_subT PySem.F.excBase_ValueError isT isC isM isI (fun hh ad made => L2H.mk_of5 inv1 made (raises_own F.sub F.ty) want (inv1.hok.gone made.new)) (by show 1 ≤ sizeLine; rw [sizeLine_eq]; omega)
theorem ps_errHN (hot : L2H.HotC X) (tk : L2.Takes X W) (F : ErrC X.K X.mg x C) (hg : Gl X x) (hdb : (x == ("__debug__" : Str)) = false := by decide) :
    PS X (.Raise (some (.Call (.Name x p) [.Constant (.str m) j p2] [] pos)) (some (.Constant .none 0 cpos)) pos2) (fun _ σ H => W (.ref C) none σ H) :=
  L2H.ps_raiseHN hot tk (pmk5_err F hg hdb)
end
variable {K : PySem.W.Frag} {E : XK} {env : EnvD}
section
variable {α : Type} {fs : α → List SD} {pre : α → Prop} {fo : α → Option D} {C c C2 : Value} {t : TA} {ss : List SD} {ts : Addr → Value → Option Addr → TS} {Wout : WX}
/-- try: f(..) except c: .., f does not raise -/
theorem run_onlyN {x : α} {d : D} (h : EvA K t env ss) (e : ss = fs x) (hp : pre x) (hn : fo x = some d) :
    Run K E (fun D σ H => tDrop (tCallS (SpX K fs pre C fo) (WE (wOnly K c ts Wout D)) t) D σ H) env (.nx env) := fun G0 H0 G H σ D ok q =>
  h G0 H0 G H σ ok _ fun vs G1 H1 a hv => ⟨x, G1, a.gh, by rw [← e]; exact hv, hp, fun z hz v G2 H2 a2 _ => q G2 H2 σ ((ok.go a).go a2), fun z => by rw [hn] at z; cases z⟩
/-- .. f raises, the suite raises another -/
theorem run_onlyR {x : α} (h : EvA K t env ss) (e : ss = fs x) (hp : pre x) (hn : fo x = none) (hm : PySem.W.exmOne K C c = some true) (hs : ∀ a, ts a C none = fun D σ H => E C2 none H) :
    Run K E (fun D σ H => tDrop (tCallS (SpX K fs pre C fo) (WE (wOnly K c ts Wout D)) t) D σ H) env (.ex C2) := fun G0 H0 G H σ D ok q =>
  h G0 H0 G H σ ok _ fun vs G1 H1 a hv => ⟨x, G1, a.gh, by rw [← e]; exact hv, hp, fun z hz => (by rw [hn] at hz; cases hz), fun _ G2 H2 a2 => ⟨true, hm, fun _ b _ => by rw [hs]; exact q G2 H2 ((ok.fw.trans a).trans a2), fun z => nomatch z⟩⟩
end
section
variable {ta tb tc : TE} {ds : List D} {i j k : Int}
/-- a slice of a tuple that is not the whole -/
theorem ed_sliceT {tl th : TO} {lo hi : Option Int} (ha : EvD K ta env (.tuple ds)) (hl : EvO K tl env lo) (hh : EvO K th env hi) (hn : ¬(HT.sIx ds.length 0 lo = 0 ∧ HT.sIx ds.length ds.length hi = ds.length)) : EvD K (tSl (rSlT K) ta tl th) env (.tuple (cutD ds lo hi)) := fun G0 H0 G H σ ok Q q =>
  ha G0 H0 G H σ ok _ fun v G1 H1 a hv => hl G0 H0 G1 H1 σ (ok.go a) _ fun G2 H2 a2 => hh G0 H0 G2 H2 σ ((ok.go a).go a2) _ fun G3 H3 a3 => by
    obtain ⟨p, xs, e, hs, hd⟩ := (hv.mono (a2.trans a3).gg).tup_inv
    subst e
    refine ⟨p, xs, rfl, sqT_mono a3.gh hs, by rw [hd.len]; exact hn, fun r hr => ?_⟩
    have fw := Fw.new (o := .tup (cutV xs lo hi)) a3.gh hr
    refine q _ _ _ (((a.trans a2).trans a3).trans fw) (.tup (.inl (.inl upd_same)) ?_)
    have key : Dds K G3 (cutV xs lo hi) (cutD ds lo hi) := by
      unfold cutV cutD
      rw [hd.len]
      exact (hd.drop _).take _
    exact key.mono fw.gg
/-- a slice of the script -/
theorem en_sliceR {ns : List Int} {tl th : TO} {lo hi : Option Int} (m : Nat) (h : env[m]? = some (.scr ns)) (hl : EvO K tl env lo) (hh : EvO K th env hi) : EvN K (tSl (rSlL K) (tVar m) tl th) env (cutD (ns.map PyData.int) lo hi) := fun G0 H0 G H σ ok Q q =>
  ev_scr m h G0 H0 G H σ ok _ fun v G1 H1 a hv => hl G0 H0 G1 H1 σ (ok.go a) _ fun G2 H2 a2 => hh G0 H0 G2 H2 σ ((ok.go a).go a2) _ fun G3 H3 a3 => by
    obtain ⟨p, e, hs⟩ := hv
    cases e
    refine ⟨p, _, rfl, a3.gh.seq ((a2.trans a3).gg.seq hs), fun r hr => ?_⟩
    refine q r _ G3 _ (((a.trans a2).trans a3).trans (Fw.hid a3.gh hr)) (((a.trans a2).trans a3).hh.free hr) (a3.gh.free hr) upd_same ?_
    unfold cutV cutD
    rw [List.length_map, List.length_map]
    exact ((Dds.ints ns).drop _).take _
end
theorem ed_chain {ta tb tc : TE} {g g' : Int → Int → Bool} {i j k : Int} (ha : EvD K ta env (.int i)) (hb : EvD K tb env (.int j)) (hc : EvD K tc env (.int k)) : EvD K (tChain (rI0 fun i j => .bl (g i j)) (rI0 fun i j => .bl (g' i j)) ta tb tc) env (.bool (g i j && g' j k)) := fun G0 H0 G H σ ok Q q =>
  ha G0 H0 G H σ ok _ fun v G1 H1 a hv => hb G0 H0 G1 H1 σ (ok.go a) _ fun u G2 H2 a2 hu => by
    refine ⟨i, j, hv.int_inv, hu.int_inv, g i j, rfl, ?_⟩
    cases e : g i j with
    | true => exact iteT (hc G0 H0 G2 H2 σ ((ok.go a).go a2) _ fun w G3 H3 a3 hw => ⟨j, k, hu.int_inv, hw.int_inv, by
        have := q (.bl (g' j k)) G3 H3 ((a.trans a2).trans a3)
        rw [e] at this
        exact this (.bl _)⟩)
    | false =>
      refine iteF ?_
      have := q (.bl false) G2 H2 (a.trans a2)
      rw [e] at this
      exact this (.bl _)
theorem kit_ii : kitB "int" "int" = some true := by decide +kernel
theorem kit_ti : kitB "tuple" "int" = some false := by decide +kernel
theorem kit_it : kitB "int" "tuple" = some false := by decide +kernel
end DL

namespace MX
open PySem L2 DL
/-! ### layers with any parts -/
inductive Pt
  | i (x : Int)
  | f (t l : Int)
abbrev encP : Pt → PyData
  | .i x => .int x
  | .f t l => .tuple [.int t, .int l]
structure RL where
  w : Str
  ps : List Pt
abbrev encR (l : RL) : PyData := .tuple (.str l.w :: l.ps.map encP)
structure RT where
  price : Int
  ls : List RL
abbrev encRT (t : RT) : PyData := .tuple [.int t.price, .list (t.ls.map encR)]
def amB : Pt → Bool
  | .i x => decide (0 ≤ x) && decide (x ≤ 1000)
  | .f _ _ => false
def shB : Pt → Bool
  | .i _ => false
  | .f t l => (decide (l ≥ 1) && decide (((Nat.gcd t.natAbs l.natAbs : Nat) : Int) = 1)) && (decide (0 ≤ t) && decide (t ≤ l))
def leB : Pt → Pt → Bool
  | .i x, .i y => decide (x ≤ y)
  | _, _ => false
def lyB (l : RL) : Bool := if l.w = "share" then (match l.ps with
    | [p] => shB p
    | _ => false) else if l.w = "limit" then (match l.ps with
    | [p] => amB p
    | _ => false) else if l.w = "band" then (match l.ps with
    | [p, q] => amB p && (amB q && leB p q)
    | _ => false) else false
def trB (t : RT) : Bool := amB (.i t.price) && (decide (t.ls.length ≤ 4) && t.ls.all lyB)
def rawL : Lay → RL
  | .share r => ⟨"share", [.f r.num r.den]⟩
  | .limit c => ⟨"limit", [.i c]⟩
  | .band b c => ⟨"band", [.i b, .i c]⟩
def rawT (t : Tr) : RT := ⟨t.prem, t.ls.map rawL⟩
theorem rawT_enc (t : Tr) : encT t = encRT (rawT t) := by
  show PyData.tuple [.int t.prem, .list (t.ls.map encL)] = .tuple [.int t.prem, .list ((t.ls.map rawL).map encR)]
  rw [List.map_map, List.map_congr_left (g := encR ∘ rawL) fun l _ => by cases l <;> rfl]
/-- valid layers -/
def LayV : Lay → Prop
  | .share r => 0 ≤ r.num ∧ r.num ≤ r.den
  | .limit c => 0 ≤ c ∧ c ≤ 1000
  | .band b c => 0 ≤ b ∧ b ≤ c ∧ c ≤ 1000
theorem rawL_ok {l : Lay} (h : LayV l) : lyB (rawL l) = true := by
  cases l with
  | share r =>
    obtain ⟨h1, h2⟩ := h
    have hd := r.den_nz
    have hr : Nat.gcd r.num.natAbs r.den = 1 := r.reduced
    show ((decide ((r.den : Int) ≥ 1) && decide (((Nat.gcd r.num.natAbs (r.den : Int).natAbs : Nat) : Int) = 1)) && (decide (0 ≤ r.num) && decide (r.num ≤ (r.den : Int)))) = true
    rw [Int.natAbs_natCast, hr, decide_eq_true h1, decide_eq_true h2, decide_eq_true (show (r.den : Int) ≥ 1 by omega)]
    rfl
  | limit c =>
    show (decide (0 ≤ c) && decide (c ≤ 1000)) = true
    rw [decide_eq_true h.1, decide_eq_true h.2]; rfl
  | band b c =>
    obtain ⟨h1, h2, h3⟩ := h
    show ((decide (0 ≤ b) && decide (b ≤ 1000)) && ((decide (0 ≤ c) && decide (c ≤ 1000)) && decide (b ≤ c))) = true
    rw [decide_eq_true h1, decide_eq_true h2, decide_eq_true h3, decide_eq_true (show b ≤ 1000 by omega), decide_eq_true (show 0 ≤ c by omega)]; rfl
theorem layP_v {p0 p1 p2 p3 p4 p5 p6 p7 : Int} (h : PB p0 p1 p2 p3 p4 p5 p6 p7) : LayV (layP p0 p1 p2 p3 p4 p5 p6 p7) := by
  obtain ⟨t1, t2⟩ := tb_bd h
  have hk := layP_ok h
  unfold layP at *
  split at hk
  · rename_i c
    rw [if_pos c]
    exact ⟨hk.1, hk.2.1⟩
  · rename_i c
    rw [if_neg c]
    obtain ⟨b0, b1, b2, b3, b4, b5, b6, b7⟩ := h
    split
    · show 0 ≤ _ ∧ _ ≤ (1000 : Int)
      split
      · omega
      · split <;> omega
    · have k1 : 0 ≤ (if p5 = 0 then p6 else p3) ∧ (if p5 = 0 then p6 else p3) ≤ 1000 := by split <;> omega
      have k2 : 0 ≤ (if p5 = 0 then p7 else p4) ∧ (if p5 = 0 then p7 else p4) ≤ 1000 := by split <;> omega
      generalize (if p5 = 0 then p6 else p3) = u at k1 ⊢
      generalize (if p5 = 0 then p7 else p4) = v at k2 ⊢
      show 0 ≤ mn u v ∧ mn u v ≤ mx u v ∧ mx u v ≤ 1000
      unfold mn mx
      split <;> split <;> omega
structure TrV (t : Tr) : Prop where
  ls : ∀ l ∈ t.ls, LayV l
  few : t.ls.length ≤ 4
  prem : 0 ≤ t.prem ∧ t.prem ≤ 1000
theorem trF_v {cell most : Int} (h : 0 < most) (h2 : most ≤ 1001) : TrV (trF cell most) := by
  have hD := drT (cell := cell) h
  obtain ⟨x0, e0, a0, b0⟩ := hD.d0
  obtain ⟨x1, e1, a1, b1⟩ := hD.d1
  have g0 : (drawsF cell (limsT most)).getD 0 0 = x0 := by rw [List.getD_eq_getElem?_getD, e0]; rfl
  have g1 : (drawsF cell (limsT most)).getD 1 0 = x1 := by rw [List.getD_eq_getElem?_getD, e1]; rfl
  refine ⟨fun l hl => ?_, ?_, ?_⟩
  · obtain ⟨k, hk, rfl⟩ := List.mem_map.mp hl
    rw [List.mem_range, g1] at hk
    exact layP_v (hD.pb (by omega))
  · show ((List.range _).map _).length ≤ 4
    rw [List.length_map, List.length_range, g1]; omega
  · show 0 ≤ (drawsF cell (limsT most)).getD 0 0 ∧ (drawsF cell (limsT most)).getD 0 0 ≤ 1000
    rw [g0]; omega
theorem rawT_ok {t : Tr} (h : TrV t) : trB (rawT t) = true := by
  show ((decide (0 ≤ t.prem) && decide (t.prem ≤ 1000)) && (decide ((t.ls.map rawL).length ≤ 4) && (t.ls.map rawL).all lyB)) = true
  have hf := h.few
  rw [decide_eq_true h.prem.1, decide_eq_true h.prem.2, List.length_map, decide_eq_true hf]
  have : (t.ls.map rawL).all lyB = true := by
    rw [List.all_map, List.all_eq_true]
    exact fun l hl => rawL_ok (h.ls l hl)
  rw [this]; rfl
/-! ### showing -/
structure Sb (n k : Nat) (d : PyData) : Prop where
  lv : d.leavesShort 2000 = true
  sh : d.showable = true
  nd : d.hasDict = false
  dp : d.depth ≤ n
  bk : d.bulk ≤ k
structure Sbs (n k : Nat) (ds : List PyData) : Prop where
  lv : PyData.leavesShortAll 2000 ds = true
  sh : PyData.showableAll ds = true
  nd : PyData.hasDictAll ds = false
  dp : PyData.depthAll ds ≤ n
  bk : PyData.bulkAll ds ≤ k
theorem Sb.mono {n k n' k' : Nat} {d : PyData} (h : Sb n k d) (h1 : n ≤ n') (h2 : k ≤ k') : Sb n' k' d := ⟨h.lv, h.sh, h.nd, Nat.le_trans h.dp h1, Nat.le_trans h.bk h2⟩
theorem Sbs.mono {n k n' k' : Nat} {d : List PyData} (h : Sbs n k d) (h1 : n ≤ n') (h2 : k ≤ k') : Sbs n' k' d := ⟨h.lv, h.sh, h.nd, Nat.le_trans h.dp h1, Nat.le_trans h.bk h2⟩
theorem sbs_nil {n : Nat} : Sbs n 0 [] := ⟨by simp [PyData.leavesShortAll], by simp [PyData.showableAll], by simp [PyData.hasDictAll], by simp [PyData.depthAll], by simp [PyData.bulkAll]⟩
theorem sbs_cons {n k j : Nat} {d : PyData} {ds : List PyData} (h : Sb n k d) (hs : Sbs n j ds) : Sbs n (k + 1 + j) (d :: ds) := by
  refine ⟨?_, ?_, ?_, ?_, ?_⟩
  · simp only [PyData.leavesShortAll, h.lv, hs.lv, Bool.and_true]
  · simp only [PyData.showableAll, h.sh, hs.sh, Bool.and_true]
  · simp only [PyData.hasDictAll, h.nd, hs.nd, Bool.or_false]
  · have := h.dp; have := hs.dp; simp only [PyData.depthAll]; omega
  · have := h.bk; have := hs.bk; simp only [PyData.bulkAll]; omega
theorem sb_int {x : Int} (h : Bt 1900 x) : Sb 0 0 (.int x) := ⟨(leaf_int h).1, (leaf_int h).2, by simp [PyData.hasDict], by simp [PyData.depth], by simp [PyData.bulk]⟩
theorem sb_str {x : Str} {k : Nat} (h : (x.cps.toList.all fun c => decide (c < 16 ^ 8)) = true) (hk : x.cps.size ≤ k) : Sb 0 k (.str x) := ⟨by simpa only [PyData.leavesShort] using h, by simp [PyData.showable], by simp [PyData.hasDict], by simp [PyData.depth], by simpa [PyData.bulk] using hk⟩
theorem sb_lst {n k : Nat} {ds : List PyData} (h : Sbs n k ds) : Sb (n + 1) k (.list ds) := ⟨by simpa only [PyData.leavesShort] using h.lv, by simpa only [PyData.showable] using h.sh, by simpa only [PyData.hasDict] using h.nd, by have := h.dp; simp only [PyData.depth]; omega, by simpa only [PyData.bulk] using h.bk⟩
theorem sb_tup {n k : Nat} {ds : List PyData} (h : Sbs n k ds) : Sb (n + 1) k (.tuple ds) := ⟨by simpa only [PyData.leavesShort] using h.lv, by simpa only [PyData.showable] using h.sh, by simpa only [PyData.hasDict] using h.nd, by have := h.dp; simp only [PyData.depth]; omega, by simpa only [PyData.bulk] using h.bk⟩
theorem sbs_map {α : Type} {n k : Nat} {f : α → PyData} : ∀ {xs : List α}, (∀ x ∈ xs, Sb n k (f x)) → Sbs n ((k + 1) * xs.length) (xs.map f)
  | [], _ => sbs_nil
  | x :: xs, h => by
    have := sbs_cons (h x (List.mem_cons_self)) (sbs_map fun y hy => h y (List.mem_cons_of_mem _ hy))
    rw [List.map_cons]
    exact this.mono (Nat.le_refl _) (by rw [List.length_cons, Nat.mul_succ]; omega)
theorem sb_shw {n k : Nat} {d : PyData} (h : Sb n k d) (hn : n ≤ 60) (hk : k ≤ 5000) (hs : (∃ ds, d = .list ds) ∨ ∃ ds, d = .tuple ds) : Shw d := shw_of h.lv h.sh h.nd (Nat.le_trans h.dp hn) (Nat.le_trans h.bk hk) hs
def PtE : Pt → Prop
  | .i x => Bt 1900 x
  | .f t l => Bt 1900 t ∧ Bt 1900 l
def WOk (w : Str) : Prop := (w.cps.toList.all fun c => decide (c < 16 ^ 8)) = true ∧ w.cps.size ≤ 10
theorem w_share : WOk "share" := ⟨by decide +kernel, by decide +kernel⟩
theorem w_limit : WOk "limit" := ⟨by decide +kernel, by decide +kernel⟩
theorem w_band : WOk "band" := ⟨by decide +kernel, by decide +kernel⟩
structure RLE (l : RL) : Prop where
  w : WOk l.w
  few : l.ps.length ≤ 4
  ps : ∀ p ∈ l.ps, PtE p
theorem sb_P {p : Pt} (h : PtE p) : Sb 1 2 (encP p) := by
  cases p with
  | i x => exact (sb_int h).mono (by decide) (by decide)
  | f t l => exact (sb_tup (sbs_cons (sb_int h.1) (sbs_cons (sb_int h.2) sbs_nil))).mono (by decide) (by decide)
theorem sb_R {l : RL} (h : RLE l) : Sb 2 30 (encR l) := by
  have h2 := sbs_map (f := encP) fun p hp => sb_P (h.ps p hp)
  have h3 := h.few
  exact sb_tup ((sbs_cons ((sb_str h.w.1 h.w.2).mono (by decide) (Nat.le_refl _)) h2).mono (Nat.le_refl _) (by omega))
theorem shw_RT {t : RT} (hp : Bt 1900 t.price) (h : ∀ l ∈ t.ls, RLE l) (hl : t.ls.length ≤ 20) : Shw (encRT t) := by
  have h2 := sbs_map (f := encR) fun l hl => sb_R (h l hl)
  have h3 : Sb 3 1000 (.list (t.ls.map encR)) := (sb_lst h2).mono (by decide) (by omega)
  exact sb_shw (sb_tup (sbs_cons ((sb_int hp).mono (by decide) (Nat.le_refl _)) (sbs_cons h3 sbs_nil))) (by decide) (by decide) (.inr ⟨_, rfl⟩)
theorem rawL_e {l : Lay} (h : LayOk l) : RLE (rawL l) := by
  have big : ∀ {x : Int}, 0 ≤ x → x ≤ 1000000 → Bt 1900 x := fun h0 h1 => Bt.mono (n := 30) (bt_range (by omega) (by omega)) (by decide)
  cases l with
  | share r =>
    obtain ⟨_, _, hq⟩ := h
    exact ⟨w_share, by show 1 ≤ 4; decide, fun p hp => by
      rw [show (rawL (.share r)).ps = [.f r.num r.den] from rfl, List.mem_singleton] at hp; rw [hp]; exact ⟨hq.num.mono (by decide), hq.den.mono (by decide)⟩⟩
  | limit c => exact ⟨w_limit, by show 1 ≤ 4; decide, fun p hp => by
      rw [show (rawL (.limit c)).ps = [.i c] from rfl, List.mem_singleton] at hp; rw [hp]; exact big h.1 h.2⟩
  | band b c =>
    obtain ⟨h1, h2, h3⟩ := h
    exact ⟨w_band, by show 2 ≤ 4; decide, fun p hp => by
      rw [show (rawL (.band b c)).ps = [.i b, .i c] from rfl] at hp
      simp only [List.mem_cons, List.not_mem_nil, or_false] at hp
      rcases hp with e | e <;> rw [e]
      · exact big h1 (by omega)
      · exact big (by omega) h3⟩
end MX

namespace MX
open PySem L2 DL
/-! ### houses -/
structure Wt where
  prem : Int
  lines : List Spr
  turns : Spr
structure Hs where
  ws : List Wt
  ts : List Tr
abbrev encW (w : Wt) : PyData := .tuple [.int w.prem, .list (w.lines.map encS), encS w.turns]
abbrev encH (h : Hs) : PyData := .tuple [.list (h.ws.map encW), .list (h.ts.map encT)]
/-- a spread of at most m values from lo on, below hi -/
structure SpG (lo hi : Int) (m : Nat) (s : Spr) : Prop where
  ty : Ty 46 s
  can : Can s
  pos : ∀ p ∈ s, 0 < p.2
  mass : mass s = 1
  len : s.length ≤ m
  val : ∀ p ∈ s, lo ≤ p.1 ∧ p.1 < hi
theorem spg_of {n : Nat} {low width : Int} (h : SprOk n width) (hl : -1000000 ≤ low ∧ low ≤ 1000000) (cell : Int) (hf : (sprF cell n low width).length ≤ n) : SpG low (low + width) n (sprF cell n low width) :=
  ⟨ty_spr h hl cell, gat_can _, spr_gt h cell, spr_mass h cell, hf, spr_in h cell⟩
structure WtOk (n : Int) (w : Wt) : Prop where
  prem : 0 ≤ w.prem ∧ w.prem ≤ 1000
  few : w.lines.length ≤ 3
  lines : ∀ s ∈ w.lines, SpG 0 1001 3 s
  turns : SpG 0 n 2 w.turns
structure HsOk (h : Hs) : Prop where
  nw : 1 ≤ h.ws.length ∧ h.ws.length ≤ 4
  nt : 1 ≤ h.ts.length ∧ h.ts.length ≤ 4
  ws : ∀ w ∈ h.ws, WtOk h.ws.length w
  ts : ∀ t ∈ h.ts, TrOk t ∧ TrV t
theorem sb_S {lo hi : Int} {m : Nat} {s : Spr} (h : SpG lo hi m s) (hm : m ≤ 50) : Sb 3 (6 * m) (encS s) := by
  have h2 := sbs_map (n := 2) (k := 5) (f := encI) (xs := s) fun p hp =>
    (sb_tup (sbs_cons ((sb_int ((h.ty.v p hp).mono (by decide : 46 ≤ 1900))).mono (by decide) (Nat.le_refl _)) (sbs_cons (sb_tup (sbs_cons (sb_int ((h.ty.qb p hp).num.mono (by decide : 46 ≤ 1900))) (sbs_cons (sb_int ((h.ty.qb p hp).den.mono (by decide : 46 ≤ 1900))) sbs_nil))) sbs_nil))).mono (by decide) (by decide)
  have := h.len
  exact (sb_lst h2).mono (by decide) (by omega)
theorem sb_W {n : Int} {w : Wt} (h : WtOk n w) : Sb 5 80 (encW w) := by
  have h1 : Sbs 3 ((6 * 3 + 1) * w.lines.length) (w.lines.map encS) := sbs_map fun s hs => sb_S (h.lines s hs) (by decide)
  have h2 := sb_S h.turns (by decide)
  have hf := h.few
  have hb : Bt 1900 w.prem := Bt.mono (n := 30) (bt_range (by have := h.prem; omega) (by have := h.prem; omega)) (by decide)
  exact (sb_tup (sbs_cons ((sb_int hb).mono (by decide) (Nat.le_refl _)) (sbs_cons ((sb_lst h1).mono (Nat.le_refl 4) (by omega : _ ≤ 57)) (sbs_cons (h2.mono (by decide) (Nat.le_refl _)) sbs_nil)))).mono (by decide) (by decide)
theorem sb_T {t : Tr} (h : TrOk t) : Sb 4 400 (encT t) := by
  rw [rawT_enc]
  have h2 : Sbs 2 ((30 + 1) * (t.ls.map rawL).length) ((t.ls.map rawL).map encR) := sbs_map fun l hl => by
    obtain ⟨x, hx, rfl⟩ := List.mem_map.mp hl
    exact sb_R (rawL_e (h.ok x hx))
  rw [List.length_map] at h2
  have hf := h.few
  exact (sb_tup (sbs_cons ((sb_int (h.prem.mono (by decide : 60 ≤ 1900))).mono (by decide) (Nat.le_refl _)) (sbs_cons ((sb_lst h2).mono (Nat.le_refl 3) (by omega : _ ≤ 310)) sbs_nil))).mono (by decide) (by decide)
theorem sb_H {h : Hs} (ok : HsOk h) : Sb 7 2000 (encH h) := by
  have h1 : Sbs 5 ((80 + 1) * h.ws.length) (h.ws.map encW) := sbs_map fun w hw => sb_W (ok.ws w hw)
  have h2 : Sbs 4 ((400 + 1) * h.ts.length) (h.ts.map encT) := sbs_map fun t ht => sb_T (ok.ts t ht).1
  have := ok.nw
  have := ok.nt
  exact (sb_tup (sbs_cons ((sb_lst h1).mono (Nat.le_refl 6) (by omega : _ ≤ 324)) (sbs_cons ((sb_lst h2).mono (by decide : 5 ≤ 6) (by omega : _ ≤ 1604)) sbs_nil))).mono (by decide) (by decide)
theorem shw_H {h : Hs} (ok : HsOk h) : Shw (encH h) := sb_shw (sb_H ok) (by decide) (by decide) (.inr ⟨_, rfl⟩)
/-! ### the law's houses -/
structure HA where
  cell : Int
  more : Int
  places : Int
  lines : Int
  wide : Int
structure HAOk (a : HA) : Prop where
  places : 1 ≤ a.places ∧ a.places ≤ 4
  lines : 1 ≤ a.lines ∧ a.lines ≤ 4
  wide : a.wide = 0 ∨ a.wide = 1
def szF (wide : Int) : Int := if wide = 0 then 9 else 1001
def pmF (wide : Int) : Int := if wide = 0 then 7 else 1001
def mxF (wide : Int) : Int := if wide = 0 then 4 else 1001
theorem hpick_at {x y wide : Int} (h : wide = 0 ∨ wide = 1) : atI [PyData.int x, PyData.int y] wide = some (.int (if wide = 0 then x else y)) := by
  rcases h with e | e <;> subst e <;> rfl
theorem sz_ok {n : Nat} (hn : 1 ≤ n ∧ n < 64) (wide : Int) : SprOk n (szF wide) := by
  unfold szF
  split
  · exact ⟨hn.1, hn.2, by decide, by decide⟩
  · exact ⟨hn.1, hn.2, by decide, by decide⟩
def limsH (places : Int) : List Int := places :: 4 :: List.replicate 4 1000000000
def limsW (wide lines : Int) : List Int := pmF wide :: lines :: List.replicate 4 1000000000
def partF (a : HA) (k : Nat) : List Int := drawsF (a.more.fdiv ((k : Int) + 1) + 7 * (k : Int)) (limsW a.wide a.lines)
def wtF (a : HA) (count : Int) (k : Nat) : Wt := ⟨(partF a k).getD 0 0, (List.range ((partF a k).getD 1 0).toNat).map fun j => sprF ((partF a k).getD (2 + j) 0) 3 0 (szF a.wide), sprF ((partF a k).getD 5 0) 2 0 count⟩
def countF (a : HA) : Int := 1 + (drawsF a.cell (limsH a.places)).getD 0 0
def houseF (a : HA) : Hs := ⟨(List.range (countF a).toNat).map (wtF a (countF a)), (List.range (1 + (drawsF a.cell (limsH a.places)).getD 1 0).toNat).map fun k => trF ((drawsF a.cell (limsH a.places)).getD (2 + k) 0 + (k : Int)) (mxF a.wide)⟩
theorem rep_at {n i : Nat} (h : i < n) (x : Int) : (List.replicate n x)[i]? = some x := by rw [List.getElem?_replicate, if_pos h]
theorem limsH_at {p : Int} {i : Nat} (h : i < 4) : (limsH p)[2 + i]? = some 1000000000 := by
  rw [show 2 + i = i + 1 + 1 by omega]
  show (List.replicate 4 (1000000000 : Int))[i]? = _
  exact rep_at h _
theorem limsW_at {w l : Int} {i : Nat} (h : i < 4) : (limsW w l)[2 + i]? = some 1000000000 := by
  rw [show 2 + i = i + 1 + 1 by omega]
  show (List.replicate 4 (1000000000 : Int))[i]? = _
  exact rep_at h _
theorem limsH_ok {p : Int} (h : 1 ≤ p ∧ p ≤ 4) : ∀ l ∈ limsH p, 0 < l ∧ l ≤ 1000000000 := fun l hl => by
  rcases List.mem_cons.mp hl with e | hl
  · omega
  · rcases List.mem_cons.mp hl with e | hl
    · omega
    · rw [(List.mem_replicate.mp hl).2]; omega
theorem limsW_ok {w q : Int} (h : 1 ≤ q ∧ q ≤ 4) : ∀ l ∈ limsW w q, 0 < l ∧ l ≤ 1000000000 := fun l hl => by
  rcases List.mem_cons.mp hl with e | hl
  · have : pmF w = 7 ∨ pmF w = 1001 := by unfold pmF; split <;> simp
    omega
  · rcases List.mem_cons.mp hl with e | hl
    · omega
    · rw [(List.mem_replicate.mp hl).2]; omega
theorem getD_draw {cell : Int} {ls : List Int} {i : Nat} {l : Int} (hp : ∀ l ∈ ls, 0 < l) (h : ls[i]? = some l) : (drawsF cell ls)[i]? = some ((drawsF cell ls).getD i 0) ∧ 0 ≤ (drawsF cell ls).getD i 0 ∧ (drawsF cell ls).getD i 0 < l := by
  obtain ⟨x, e, a, b⟩ := drawsF_at cell hp h
  rw [List.getD_eq_getElem?_getD, e, Option.getD_some]
  exact ⟨rfl, a, b⟩
structure PartOk (a : HA) (Q : List Int) : Prop where
  d0 : Q[0]? = some (Q.getD 0 0) ∧ 0 ≤ Q.getD 0 0 ∧ Q.getD 0 0 < pmF a.wide
  d1 : Q[1]? = some (Q.getD 1 0) ∧ 0 ≤ Q.getD 1 0 ∧ Q.getD 1 0 < a.lines
  dj : ∀ j : Nat, j < 4 → Q[2 + j]? = some (Q.getD (2 + j) 0)
theorem part_ok {a : HA} (h : HAOk a) (k : Nat) : PartOk a (partF a k) := by
  have hp : ∀ l ∈ limsW a.wide a.lines, 0 < l := fun l hl => (limsW_ok h.lines l hl).1
  exact ⟨getD_draw hp rfl, getD_draw hp rfl, fun j hj => (getD_draw hp (limsW_at hj)).1⟩
structure HdOk (a : HA) (D : List Int) : Prop where
  d0 : D[0]? = some (D.getD 0 0) ∧ 0 ≤ D.getD 0 0 ∧ D.getD 0 0 < a.places
  d1 : D[1]? = some (D.getD 1 0) ∧ 0 ≤ D.getD 1 0 ∧ D.getD 1 0 < 4
  dj : ∀ j : Nat, j < 4 → D[2 + j]? = some (D.getD (2 + j) 0)
theorem hd_ok {a : HA} (h : HAOk a) : HdOk a (drawsF a.cell (limsH a.places)) := by
  have hp : ∀ l ∈ limsH a.places, 0 < l := fun l hl => (limsH_ok h.places l hl).1
  exact ⟨getD_draw hp rfl, getD_draw hp rfl, fun j hj => (getD_draw hp (limsH_at hj)).1⟩
theorem sp2_ok {n : Int} (h : 1 ≤ n ∧ n ≤ 4) : SprOk 2 n := ⟨by decide, by decide, h.1, by omega⟩
theorem count_bd {a : HA} (h : HAOk a) : 1 ≤ countF a ∧ countF a ≤ 4 := by
  have h1 := (hd_ok h).d0.2
  have h2 := h.places
  show 1 ≤ 1 + (drawsF a.cell (limsH a.places)).getD 0 0 ∧ 1 + (drawsF a.cell (limsH a.places)).getD 0 0 ≤ 4
  omega
theorem sz_le (w : Int) : szF w ≤ 1001 := by unfold szF; split <;> decide
theorem pm_le (w : Int) : pmF w ≤ 1001 := by unfold pmF; split <;> decide
theorem mx_bd (w : Int) : 0 < mxF w ∧ mxF w ≤ 1001 := by unfold mxF; split <;> decide
theorem wtF_ok {a : HA} (h : HAOk a) (k : Nat) : WtOk (countF a) (wtF a (countF a) k) := by
  have hp := part_ok h k
  have hc := count_bd h
  have h3 := pm_le a.wide
  refine ⟨?_, ?_, fun s hs => ?_, ?_⟩
  · have := hp.d0.2
    show 0 ≤ (partF a k).getD 0 0 ∧ (partF a k).getD 0 0 ≤ 1000
    omega
  · show ((List.range ((partF a k).getD 1 0).toNat).map _).length ≤ 3
    have := hp.d1.2
    have := h.lines
    rw [List.length_map, List.length_range]; omega
  · obtain ⟨j, hj, rfl⟩ := List.mem_map.mp hs
    have hz := sz_ok (n := 3) (by decide) a.wide
    have h4 := spg_of (low := 0) hz (by decide) ((partF a k).getD (2 + j) 0) (spr_few hz _)
    exact ⟨h4.ty, h4.can, h4.pos, h4.mass, h4.len, fun p hp => by have := h4.val p hp; have := sz_le a.wide; omega⟩
  · have hz := sp2_ok hc
    have h4 := spg_of (low := 0) hz (by decide) ((partF a k).getD 5 0) (spr_few hz _)
    exact ⟨h4.ty, h4.can, h4.pos, h4.mass, h4.len, fun p hp => by have := h4.val p hp; omega⟩
theorem house_len (a : HA) : (houseF a).ws.length = (countF a).toNat := by
  show ((List.range (countF a).toNat).map _).length = _
  rw [List.length_map, List.length_range]
theorem houseF_ok {a : HA} (h : HAOk a) : HsOk (houseF a) := by
  have hc := count_bd h
  have hl := house_len a
  refine ⟨by omega, ?_, fun w hw => ?_, fun t ht => ?_⟩
  · show 1 ≤ ((List.range _).map _).length ∧ ((List.range _).map _).length ≤ 4
    have := (hd_ok h).d1.2
    rw [List.length_map, List.length_range]; omega
  · obtain ⟨k, _, rfl⟩ := List.mem_map.mp hw
    rw [hl, show (((countF a).toNat : Nat) : Int) = countF a by omega]
    exact wtF_ok h k
  · obtain ⟨k, _, rfl⟩ := List.mem_map.mp ht
    have := mx_bd a.wide
    exact ⟨trF_ok this.1 (by omega), trF_v this.1 this.2⟩
end MX

namespace DL
open PySem L2
variable {K : PySem.W.Frag} {E : XK} {env env' : EnvD}
theorem rev_get {α : Type} {xs : List α} {i : Nat} {x : α} (h : xs.reverse[i]? = some x) : i < xs.length ∧ xs[xs.length - 1 - i]? = some x := by
  have hi : i < xs.length := by
    have := (List.getElem?_eq_some_iff.mp h).1
    rwa [List.length_reverse] at this
  rw [List.getElem?_reverse hi] at h
  exact ⟨hi, h⟩
/-- for x in reversed(list) -/
theorem ei_rev {ta : TE} {ds : List D} (h : EvD K ta env (.list ds)) : EvI K (iRev K (tCons ta tNil)) env ds.reverse := fun G0 H0 G H σ ok R q =>
  h G0 H0 G H σ ok _ fun v G1 H1 a hv => by
    obtain ⟨p, xs, e, hs, hd⟩ := hv.lst_inv
    subst e
    refine ⟨p, xs, rfl, SqL.gh a.gh hs, q _ G1 H1 a ⟨fun G2 H2 g1 g2 => by show xs.length ≤ ds.reverse.length; rw [List.length_reverse, hd.len]; exact Nat.le_refl _, fun i d G2 H2 hi g1 g2 => ?_⟩⟩
    obtain ⟨hlt, hi2⟩ := rev_get hi
    obtain ⟨u, h1, h2⟩ := hd.get hi2
    rw [← hd.len] at h1 hlt
    refine ⟨⟨hlt, xs, u, SqL.gh g2 (g1 _ _ hs), h1⟩, fun x H' hy => ?_⟩
    obtain ⟨e1, e2⟩ := hy
    have e3 := e2 xs (SqL.gh g2 (g1 _ _ hs))
    rw [h1] at e3
    cases e3
    rw [e1]
    exact ⟨G2, Fw.refl g2, h2.mono g1⟩
/-- f(..) as a statement, f would hand back a new list but raises -/
theorem run_dropXN {α : Type} {fs : α → List SD} {pre : α → Prop} {fo : α → Option (List D)} {C : Value} {t : TA} {ss : List SD} {x : α} (h : EvA K t env ss) (e : ss = fs x) (hp : pre x) (hn : fo x = none) : Run K E (tDrop (tCall (SpXN K fs pre C fo) [] E t)) env (.ex C) := fun G0 H0 G H σ D ok q =>
  h G0 H0 G H σ ok _ fun vs G1 H1 a hv => ⟨x, G1, a.gh, by rw [List.append_nil, ← e]; exact hv, hp, fun z hz => (by rw [hn] at hz; cases hz), fun _ G2 H2 a2 => q G2 H2 ((ok.fw.trans a).trans a2)⟩
end DL
namespace MX
open PySem L2 DL
/-! ### damages and changes of a year -/
def dmgF (ls : List Spr) : Spr := ls.foldl (fun s l => gatF (sumF s l)) [(0, 1)]
theorem dmg_step {ls : List Spr} {i : Nat} (hi : i < ls.length) : dmgF (ls.take (i + 1)) = gatF (sumF (dmgF (ls.take i)) ls[i]) := by
  unfold dmgF
  rw [List.take_add_one, List.getElem?_eq_getElem hi, Option.toList_some, List.foldl_append]; rfl
def nnF : Nat → Nat
  | 0 => 46
  | n + 1 => 2 * nnF n + 7
structure DmgI (i : Nat) (s : Spr) : Prop where
  ty : Ty (nnF i) s
  len : s.length ≤ 3 ^ i
  can : Can s
  val : ∀ p ∈ s, 0 ≤ p.1 ∧ p.1 ≤ 1000 * i
theorem dmg0 : DmgI 0 [(0, 1)] := by
  refine ⟨⟨⟨1, 1, by decide, by decide, by decide, fun p hp => ?_⟩, fun p hp => ?_, by decide⟩, by decide, ⟨by simp, fun p hp => ?_⟩, fun p hp => ?_⟩
  · rw [List.mem_singleton] at hp; subst hp; exact ⟨1, (by show (1 : Rat) = Rat.divInt 1 1; decide), by decide⟩
  · rw [List.mem_singleton] at hp; subst hp; exact Bt.zero _
  · rw [List.mem_singleton] at hp; subst hp; show (1 : Rat) ≠ 0; decide
  · rw [List.mem_singleton] at hp; subst hp; show (0 : Int) ≤ 0 ∧ (0 : Int) ≤ 1000 * ((0 : Nat) : Int); decide
theorem nn_ge : ∀ i, 46 ≤ nnF i
  | 0 => Nat.le_refl _
  | i + 1 => by have := nn_ge i; show 46 ≤ 2 * nnF i + 7; omega
theorem dmgS {i : Nat} (hi : i < 3) {s l : Spr} (h : DmgI i s) (hl : SpG 0 1001 3 l) : DmgI (i + 1) (gatF (sumF s l)) ∧ Ty (2 * nnF i + 1) (sumF s l) ∧ s.length ≤ 9 := by
  have hl3 := hl.len
  have hs9 : s.length ≤ 9 := by
    have := h.len
    have : (3 : Nat) ^ i ≤ 3 ^ 2 := Nat.pow_le_pow_right (by decide) (by omega)
    omega
  have hmul : s.length * l.length ≤ 9 * 3 := Nat.mul_le_mul hs9 hl3
  have hT := ty_sum h.ty (hl.ty.mono (nn_ge i)) (by omega)
  refine ⟨⟨hT.gat, ?_, gat_can _, fun p hp => ?_⟩, hT, hs9⟩
  · have h1 := gat_len (sumF s l)
    have h2 := sum_len s l
    have h3 : s.length * l.length ≤ 3 ^ i * 3 := Nat.mul_le_mul h.len hl3
    rw [Nat.pow_succ]; omega
  · obtain ⟨q, hq, e⟩ := List.mem_map.mp (gat_mem hp).1
    obtain ⟨a, ha, hb⟩ := List.mem_flatMap.mp hq
    obtain ⟨b, hb2, rfl⟩ := List.mem_map.mp hb
    have h1 := h.val a ha
    have h2 := hl.val b hb2
    have e : a.1 + b.1 = p.1 := e
    omega
theorem dmg_inv {ls : List Spr} (h : ∀ l ∈ ls, SpG 0 1001 3 l) (hl : ls.length ≤ 3) : ∀ i, i ≤ ls.length → DmgI i (dmgF (ls.take i))
  | 0, _ => dmg0
  | i + 1, hi => by
    rw [dmg_step (show i < ls.length by omega)]
    exact (dmgS (by omega) (dmg_inv h hl i (by omega)) (h _ (List.getElem_mem _))).1
theorem dmg_all {ls : List Spr} (h : ∀ l ∈ ls, SpG 0 1001 3 l) (hl : ls.length ≤ 3) : DmgI ls.length (dmgF ls) := by
  have := dmg_inv h hl ls.length (Nat.le_refl _)
  rwa [List.take_length] at this
structure DmgE (s : Spr) : Prop where
  ty : Ty 417 s
  len : s.length ≤ 27
  can : Can s
  val : ∀ p ∈ s, 0 ≤ p.1 ∧ p.1 ≤ 3000
theorem nn3 {i : Nat} (h : i ≤ 3) : nnF i ≤ 417 := by
  have : i = 0 ∨ i = 1 ∨ i = 2 ∨ i = 3 := by omega
  rcases this with e | e | e | e <;> subst e <;> decide
theorem dmgE {ls : List Spr} (h : ∀ l ∈ ls, SpG 0 1001 3 l) (hl : ls.length ≤ 3) : DmgE (dmgF ls) := by
  have h1 := dmg_all h hl
  have h2 : (3 : Nat) ^ ls.length ≤ 3 ^ 3 := Nat.pow_le_pow_right (by decide) hl
  exact ⟨h1.ty.mono (nn3 hl), by have := h1.len; omega, h1.can, fun p hp => by have := h1.val p hp; omega⟩
/-- the change of the reserve -/
def negF (s : Spr) : Spr := s.reverse.map fun p => (-p.1, p.2)
def chgF (prem : Int) (t : Tr) (s : Spr) : Spr := shF (negF (gatF (mapT t s))) (prem - t.prem)
def chgL (prem : Int) (t : Tr) (s : Spr) : Spr := s.map fun p => (prem - t.prem - remF t.ls p.1, p.2)
theorem can_neg {a : Spr} (h : Can a) : Can (negF a) := by
  refine ⟨?_, fun p hp => ?_⟩
  · have h1 := h.asc
    unfold negF
    rw [List.map_map]
    rw [List.pairwise_map] at h1 ⊢
    rw [List.pairwise_reverse]
    exact h1.imp fun {p q} h => by show -q.1 < -p.1; omega
  · obtain ⟨q, hq, rfl⟩ := List.mem_map.mp hp; exact h.nz q (List.mem_reverse.mp hq)
theorem ex_map (a : Spr) (g : Int → Int) (f : Int → Rat) : Ex (a.map fun p => (g p.1, p.2)) f = Ex a fun x => f (g x) := by
  induction a with
  | nil => rfl
  | cons p a ih => rw [List.map_cons, ex_cons, ex_cons, ih]
theorem chg_is (prem : Int) (t : Tr) (s : Spr) : gatF (chgL prem t s) = chgF prem t s := by
  have hc : Can (chgF prem t s) := can_sh (can_neg (gat_can _)) _
  rw [← can_gat hc]
  refine ex_wt fun f => ?_
  unfold chgF chgL negF mapT
  rw [ex_sh, ex_map _ (fun x => -x), ex_perm (List.reverse_perm _), ex_gat, ex_map _ (fun x => remF t.ls x), ex_map _ (fun x => prem - t.prem - remF t.ls x)]
  refine congrArg (Ex s) (funext fun x => ?_)
  rw [show prem - t.prem - remF t.ls x = -remF t.ls x + (prem - t.prem) by omega]
end MX

namespace MX
open PySem L2 DL
theorem sb_shw8 {n k : Nat} {d : PyData} (h : Sb n k d) (hn : n ≤ 60) (hk : k ≤ 8000) (hs : (∃ ds, d = .list ds) ∨ ∃ ds, d = .tuple ds) : Shw d := by
  refine ⟨h.sh, h.nd, Nat.le_trans h.dp hn, ?_, hs⟩
  have h1 := PyData.shown_le_bulk 2000 (by decide) d h.lv
  rw [sizeLine_eq]
  have : (2000 + 2) * d.bulk ≤ 2002 * 8000 := Nat.mul_le_mul_left _ (Nat.le_trans h.bk hk)
  omega
end MX

namespace DL
open PySem L2
theorem run_par {K : PySem.W.Frag} {E : XK} {env : EnvD} {i j : Nat} {ta tb : TE} {d e : D} (ha : EvD K ta env d) (hb : EvD K tb env e) : Run K E (tPar i j (tCons ta (tCons tb tNil))) env (.nx ((env.set i (.dat d)).set j (.dat e))) := fun G0 H0 G H σ D ok q =>
  ea_d ha (ea_d hb ea_nil) G0 H0 G H σ ok _ fun vs G1 H1 a hv => by
    obtain ⟨_, ⟨v, e1, d1⟩, _, ⟨u, e2, d2⟩, ev⟩ : ∃ v1, (∃ v, v1 = v ∧ Dd K G1 v d) ∧ ∃ v2, (∃ v, v2 = v ∧ Dd K G1 v e) ∧ vs = [v1, v2] := by
      cases hv with
      | cons m s r =>
        cases r with
        | cons m2 s2 r2 =>
          cases r2
          obtain ⟨v, e, d⟩ := s
          obtain ⟨v2, e2, d2⟩ := s2
          cases e; cases e2
          exact ⟨_, ⟨_, rfl, d⟩, _, ⟨_, rfl, d2⟩, rfl⟩
    subst e1 e2
    exact ⟨_, _, ev, q G1 H1 _ (((ok.go a).set (s := .dat d) i rfl ⟨_, rfl, d1⟩).set (s := .dat e) j rfl ⟨_, rfl, d2⟩)⟩
end DL
namespace MX
open PySem L2 DL
/-! ### digits -/
def gcel (large : Bool) (base c : Int) : Nat → Int
  | 0 => c
  | k + 1 => if large then (gcel large base c k).fdiv base else gcel large base c k
def gdig (large : Bool) (base c : Int) (k : Nat) : Int :=
  if large then (gcel large base c k).fmod base else ((c * 48271 + ((k : Int) + 1) * ((k : Int) + 5) * 69621 + c.fdiv 97 * (k : Int)).fmod 2147483647).fmod base
theorem gcel_small (base c : Int) : ∀ k, gcel false base c k = c
  | 0 => rfl
  | k + 1 => by unfold gcel; rw [if_neg (by decide)]; exact gcel_small base c k
def largeF (c : Int) : Bool := decide (1000000000000000000 ≤ c)
def digF (c base : Int) (n : Nat) : List Int := (List.range n).map (gdig (largeF c) base c)
theorem digF_len (c base : Int) (n : Nat) : (digF c base n).length = n := by unfold digF; rw [List.length_map, List.length_range]
theorem gdig_bd (large : Bool) {base : Int} (h : 0 < base) (c : Int) (k : Nat) : 0 ≤ gdig large base c k ∧ gdig large base c k < base := by
  unfold gdig
  split
  · exact fmod_bd h
  · exact fmod_bd h
/-- a row of digits below base -/
structure Dig (base : Int) (n : Nat) (D : List Int) : Prop where
  len : D.length = n
  bd : ∀ i : Nat, 0 ≤ D.getD i 0 ∧ D.getD i 0 < base
theorem dig_of {base : Int} (h : 0 < base) (c : Int) (n : Nat) : Dig base n (digF c base n) := ⟨digF_len c base n, fun i => by
  by_cases hi : i < n
  · rw [List.getD_eq_getElem?_getD, show (digF c base n)[i]? = some (gdig (largeF c) base c i) by unfold digF; rw [List.getElem?_map, List.getElem?_range hi]; rfl]
    exact gdig_bd _ h c i
  · rw [List.getD_eq_getElem?_getD, List.getElem?_eq_none (by rw [digF_len]; omega)]
    exact ⟨Int.le_refl _, h⟩⟩
theorem Dig.at {base : Int} {n : Nat} {D : List Int} (h : Dig base n D) {i : Nat} (hi : i < n) : D[i]? = some (D.getD i 0) := by
  rw [List.getD_eq_getElem?_getD, List.getElem?_eq_getElem (by rw [h.len]; exact hi)]; rfl
theorem atI_d {ns : List Int} {i : Int} {n : Nat} {x : Int} (e : i = (n : Int)) (h : ns[n]? = some x) : atI (ns.map PyData.int) i = some (.int x) := by subst e; exact atI_map h
theorem Dig.ix {base : Int} {n : Nat} {D : List Int} (h : Dig base n D) {i : Int} (k : Nat) (e : i = (k : Int)) (hi : k < n) : atI (D.map PyData.int) i = some (.int (D.getD k 0)) := atI_d e (h.at hi)
theorem fm2 {x : Int} {m : Int} (h : 0 < m) : 0 ≤ x.fmod m ∧ x.fmod m < m := fmod_bd h
/-! ### spreads from draws -/
def partD (draw : Int) (k : Nat) : Int := 1 + (draw.fdiv (3 * (k : Int) + 2)).fmod 4
def partsD (draw : Int) (n : Nat) : List Int := (List.range n).map (partD draw)
theorem partD_bd (draw : Int) (k : Nat) : 1 ≤ partD draw k ∧ partD draw k ≤ 4 := by
  have := fm2 (x := draw.fdiv (3 * (k : Int) + 2)) (m := 4) (by decide)
  unfold partD; omega
theorem sum_bd4 : ∀ {l : List Int}, (∀ x ∈ l, 1 ≤ x ∧ x ≤ 4) → (l.length : Int) ≤ l.sum ∧ l.sum ≤ 4 * (l.length : Int)
  | [], _ => by simp
  | x :: l, h => by
    have h1 := h x (List.mem_cons_self)
    have h2 := sum_bd4 (l := l) fun y hy => h y (List.mem_cons_of_mem _ hy)
    rw [List.sum_cons, List.length_cons]; omega
theorem psum_bd (draw : Int) (n : Nat) : (n : Int) ≤ (partsD draw n).sum ∧ (partsD draw n).sum ≤ 4 * (n : Int) := by
  have h := sum_bd4 (l := partsD draw n) fun x hx => by
    obtain ⟨k, _, rfl⟩ := List.mem_map.mp hx
    exact partD_bd draw k
  rw [show (partsD draw n).length = n by unfold partsD; rw [List.length_map, List.length_range]] at h
  exact h
def spD (draw : Int) (vs : List Int) : Spr := (List.range vs.length).map fun k => (vs.getD k 0, Rat.divInt (partD draw k) (partsD draw vs.length).sum)
theorem spD_len (draw : Int) (vs : List Int) : (spD draw vs).length = vs.length := by unfold spD; rw [List.length_map, List.length_range]
/-! ### houses -/
def fullG (S : List Int) : Bool := decide ((S.getD 4 0).fmod 10 = 9)
def greatG (S : List Int) : Bool := decide ((S.getD 4 0).fmod 10 = 8)
def count0 (S : List Int) : Int := if fullG S then 4 else 1 + (S.getD 0 0).fmod 3
def countG (S : List Int) : Int := if greatG S then 1 else count0 S
def nlG (S : List Int) (k : Nat) : Int := if fullG S then 3 - (k : Int).fmod 2 else ((S.getD 1 0).fdiv ((k : Int) + 1)).fmod 3
def dvA (d : Int) : List Int := [d.fmod 2, d.fmod 2 + 1 + (d.fdiv 2).fmod 3]
def dvB (full : Bool) (d : Int) : List Int := if (decide ((d.fdiv 6).fmod 2 = 1) && !full) = true then dvA d ++ [d.fmod 2 + 1 + (d.fdiv 2).fmod 3 + 1 + (d.fdiv 12).fmod 4] else dvA d
def dvC (full great : Bool) (d : Int) (j : Nat) : List Int := if (great && decide ((j : Int) = 0)) = true then dvB full d ++ [20 + d.fmod 41] else dvB full d
def lineG (S D : List Int) (k j : Nat) : Spr := spD (D.getD ((3 * k + j) % 16) 0) (dvC (fullG S) (greatG S) (D.getD ((3 * k + j) % 16) 0) j)
def otherB (count d : Int) (j : Nat) : Bool := decide (0 < (d.fdiv ((j : Int) + 1)).fmod 3) || decide ((j : Int) = d.fmod count)
def othersG (count d : Int) : List Int := (List.range count.toNat).filterMap fun j => if otherB count d j = true then some (j : Int) else none
def prem1 (S : List Int) (k : Nat) : Int := ((S.getD 2 0).fdiv ((k : Int) + 1)).fmod 4
def premG (S : List Int) (k : Nat) : Int := if (S.getD 5 0).fmod 4 = 3 then ((S.getD 2 0).fdiv ((k : Int) + 1)).fmod 25 else prem1 S k
def wtG (S D : List Int) (k : Nat) : Wt := ⟨premG S k, (List.range (nlG S k).toNat).map fun j => lineG S D k j, spD (D.getD (10 + k) 0) (othersG (countG S) (D.getD (10 + k) 0))⟩
def drG (d : Int) : Nat → Int
  | 0 => d
  | j + 1 => drG d j + 7 * (j : Int)
def layG (x : Int) : List Lay :=
  if x.fmod 4 = 1 then [.limit ((x.fdiv 4).fmod 4)] else if x.fmod 4 = 2 then [.share (Rat.divInt ((x.fdiv 4).fmod 4) 3)] else if x.fmod 4 = 3 then [.band ((x.fdiv 4).fmod 3) ((x.fdiv 4).fmod 3 + (x.fdiv 12).fmod 4)] else []
def laysG (d : Int) : Nat → List Lay
  | 0 => []
  | j + 1 => laysG d j ++ layG (drG d (j + 1))
def nyG (full : Bool) (k : Nat) : Int := if (full && decide ((k : Int) = 1)) = true then 4 else 1
def trG (full : Bool) (d : Int) (k : Nat) : Tr := ⟨((drG d (nyG full k).toNat).fdiv 48).fmod 3, laysG d (nyG full k).toNat⟩
def ntG (S : List Int) : Int := if fullG S then 4 else 1 + (S.getD 3 0).fmod 3
def trs1 (S D : List Int) : List Tr := (List.range (ntG S).toNat).map fun k => trG (fullG S) (D.getD ((13 + k) % 16) 0) k
def trs2 (S D : List Int) : List Tr := if fullG S then (trs1 S D).set 3 ⟨0, (trG true (D.getD 0 0) 3).ls⟩ else trs1 S D
def hsG (S D : List Int) : Hs := ⟨(List.range (countG S).toNat).map (wtG S D), trs2 S D⟩
def houseG (first second : Int) : Hs := hsG (digF first 2520 8) (digF second 27720 16)
theorem countG_bd (S : List Int) : 1 ≤ countG S ∧ countG S ≤ 4 := by
  have := fm2 (x := S.getD 0 0) (m := 3) (by decide)
  unfold countG count0; split <;> (try split) <;> omega
theorem ntG_bd (S : List Int) : 1 ≤ ntG S ∧ ntG S ≤ 4 := by
  have := fm2 (x := S.getD 3 0) (m := 3) (by decide)
  unfold ntG; split <;> omega
theorem nlG_bd (S : List Int) (k : Nat) : 0 ≤ nlG S k ∧ nlG S k ≤ 3 := by
  have := fm2 (x := (k : Int)) (m := 2) (by decide)
  have := fm2 (x := (S.getD 1 0).fdiv ((k : Int) + 1)) (m := 3) (by decide)
  unfold nlG; split <;> omega
theorem nyG_bd (full : Bool) (k : Nat) : 1 ≤ nyG full k ∧ nyG full k ≤ 4 := by unfold nyG; split <;> omega
theorem layG_len (x : Int) : (layG x).length ≤ 1 := by unfold layG; split <;> (try split) <;> (try split) <;> simp
theorem laysG_len (d : Int) : ∀ m, (laysG d m).length ≤ m
  | 0 => Nat.le_refl _
  | m + 1 => by
    have := laysG_len d m
    have := layG_len (drG d (m + 1))
    unfold laysG; rw [List.length_append]; omega
theorem othersG_len (c d : Int) (hc : c ≤ 4) : (othersG c d).length ≤ 4 := Nat.le_trans (List.length_filterMap_le _ _) (by rw [List.length_range]; omega)
theorem dvB_len (full : Bool) (d : Int) : 2 ≤ (dvB full d).length ∧ (dvB full d).length ≤ 3 := by unfold dvB dvA; split <;> simp
theorem dvC_len (full great : Bool) (d : Int) (j : Nat) : 2 ≤ (dvC full great d j).length ∧ (dvC full great d j).length ≤ 4 := by
  have := dvB_len full d
  unfold dvC; split
  · rw [List.length_append]; simp only [List.length_singleton]; omega
  · omega
end MX

namespace DL
open PySem L2
variable {K : PySem.W.Frag} {E : XK} {env : EnvD}
theorem take_flat {α : Type} {zss : List (List α)} {i : Nat} {zs : List α} (h : zss[i]? = some zs) : (zss.take (i + 1)).flatten = (zss.take i).flatten ++ zs := by
  rw [List.take_add_one, h, Option.toList_some, List.flatten_append, List.flatten_singleton]
theorem flat_le {α : Type} {zss : List (List α)} {i : Nat} {zs : List α} (h : zss[i]? = some zs) : (zss.take i).flatten.length + zs.length ≤ zss.flatten.length := by
  have e : zss.flatten = (zss.take (i + 1)).flatten ++ (zss.drop (i + 1)).flatten := by rw [← List.flatten_append, List.take_append_drop]
  rw [e, List.length_append, take_flat h, List.length_append]; omega
/-- [e for x in xs for y in ys], the targets names -/
theorem en_lc2 {wi wi1 : TI} {te : TE} {vs vs1 : List Nat} {t t1 : Nat} {ds : List D} (zss : List (List D)) (hi : EvI K wi env ds) (ht : t ∈ vs) (ht1 : t1 ∈ vs1) (hl : zss.length = ds.length)
    (h : ∀ (i : Nat) (d : D) (zs : List D), ds[i]? = some d → zss[i]? = some zs → ∃ es : List D, EvI K wi1 ((wipeD env vs).set t (.dat d)) es ∧ es.length = zs.length ∧ ∀ (j : Nat) (e z : D), es[j]? = some e → zs[j]? = some z → EvD K te ((wipeD ((wipeD env vs).set t (.dat d)) vs1).set t1 (.dat e)) z)
    (hlen : zss.flatten.length ≤ 10000000) : EvN K (tLc2 wi (gName t) tYes wi1 (gName t1) tYes te vs vs1) env zss.flatten := fun G0 H0 G H σ ok Q q =>
  hi G0 H0 G H σ ok _ fun J G1 H1 a wk Dl hD => by
    have fr1 : Fw G H G1 (upd H1 Dl (.lst [])) := a.trans (Fw.hid a.gh hD)
    have hDH : H Dl = none := a.hh.free hD
    refine ⟨fun i m H2 => i + m = ds.length ∧ ∃ (G2 : Hp) (acc : List V), Same G1 G2 ∧ Fw G H G2 H2 ∧ G2 Dl = none ∧ H2 Dl = some (.lst acc) ∧ Dds K G2 acc (zss.take i).flatten, ⟨ds.length, Nat.zero_add _, G1, [], Same.refl _, fr1, a.gh.free hD, upd_same, .nil⟩, ?_⟩
    rintro i m H2 ⟨him, G2, acc, g12, f2, gD, hDl, hacc⟩
    by_cases hlt : i < ds.length
    · have hd := List.getElem?_eq_getElem hlt
      have hzs : zss[i]? = some zss[i] := List.getElem?_eq_getElem (by omega)
      generalize zss[i] = zs at hzs
      obtain ⟨es, hi1, hel, hte⟩ := h i _ _ hd hzs
      obtain ⟨hgo, hy⟩ := wk.go i _ G2 H2 hd g12 f2.gh
      refine .inr ⟨hgo, fun H' => ∃ (G3 : Hp) (acc : List V), Same G1 G3 ∧ Fw G H G3 H' ∧ G3 Dl = none ∧ H' Dl = some (.lst acc) ∧ Dds K G3 acc (zss.take (i + 1)).flatten, fun H' hN => ⟨m - 1, by omega, by omega, hN⟩, fun x H3 hx => ?_⟩
      obtain ⟨G3, a3, hx3⟩ := hy x H3 hx
      have f3 := f2.trans a3
      have hDne : H2 Dl ≠ none := by rw [hDl]; simp
      have ok2 : ∀ {G' H' : Hp}, Fw G H G' H' → Dd K G' x ds[i] → Ok K G0 H0 G' H' ((L2.wipe σ vs).set t (some x)) ((wipeD env vs).set t (.dat ds[i])) := fun f hx => ((ok.go f).wipe vs).set (s := .dat ds[i]) t rfl ⟨x, rfl, hx⟩
      refine ⟨wipe_sets (ts := [t]) (Sets.set (by simp)) (fun i hi => by rw [List.mem_singleton.mp hi]; exact ht), ?_⟩
      refine hi1 G0 H0 G3 H3 _ (ok2 f3 hx3) _ fun J1 G5 H5 a5 wk1 => ?_
      have f5 := f3.trans a5
      refine ⟨fun j k H6 => j + k = es.length ∧ ∃ (G6 : Hp) (acc : List V), Same G5 G6 ∧ Fw G H G6 H6 ∧ G6 Dl = none ∧ H6 Dl = some (.lst acc) ∧ Dds K G6 acc ((zss.take i).flatten ++ zs.take j), ⟨es.length, Nat.zero_add _, G5, acc, Same.refl _, f5, (a3.trans a5).fr Dl hDne gD, (a3.trans a5).hh _ _ hDl, by rw [List.take_zero, List.append_nil]; exact hacc.mono (a3.trans a5).gg⟩, ?_⟩
      rintro j k H6 ⟨hjk, G6, acc6, g56, f6, gD6, hDl6, hacc6⟩
      by_cases hj : j < es.length
      · have he := List.getElem?_eq_getElem hj
        have hz : zs[j]? = some (zs[j]'(by omega)) := List.getElem?_eq_getElem (by omega)
        generalize zs[j]'(by omega) = z at hz
        obtain ⟨hgo1, hy1⟩ := wk1.go j _ G6 H6 he g56 f6.gh
        refine .inr ⟨hgo1, fun H' => ∃ (G7 : Hp) (acc : List V), Same G5 G7 ∧ Fw G H G7 H' ∧ G7 Dl = none ∧ H' Dl = some (.lst acc) ∧ Dds K G7 acc ((zss.take i).flatten ++ zs.take (j + 1)), fun H' hN => ⟨k - 1, by omega, by omega, hN⟩, fun y H7 hy7 => ?_⟩
        obtain ⟨G7, a7, hy7⟩ := hy1 y H7 hy7
        have f7 := f6.trans a7
        refine ⟨wipe_sets (ts := [t1]) (Sets.set (by simp)) (fun i hi => by rw [List.mem_singleton.mp hi]; exact ht1), ?_⟩
        refine hte j _ _ he hz G0 H0 G7 H7 _ (((ok2 f7 (hx3.mono ((a5.gg.trans g56).trans a7.gg))).wipe vs1).set (s := .dat es[j]) t1 rfl ⟨y, rfl, hy7⟩) _ fun u G8 H8 a8 hu => ?_
        have a68 := a7.trans a8
        have hne6 : H6 Dl ≠ none := by rw [hDl6]; simp
        have g8 : G8 Dl = none := a68.fr Dl hne6 gD6
        refine ⟨acc6, a68.hh _ _ hDl6, ?_, G8, acc6 ++ [u], g56.trans a68.gg, ⟨(f6.trans a68).gg, same_upd2 a68.gh g8, fun b o e => by rw [upd_ne (ne_of_none e hDH)]; exact (f6.trans a68).hh _ _ e, (f6.trans a68).fr⟩, g8, upd_same, ?_⟩
        · have := flat_le hzs
          rw [hacc6.len, List.length_append, List.length_take, sizeLine_eq]; omega
        · rw [List.take_add_one, hz, Option.toList_some, ← List.append_assoc]
          exact (hacc6.mono a68.gg).append (.cons hu .nil)
      · have e : j = es.length := by omega
        subst e
        refine .inl ⟨wk1.stop G6 H6 g56 f6.gh, G6, acc6, (g12.trans (a3.trans a5).gg).trans g56, f6, gD6, hDl6, ?_⟩
        rw [hel, List.take_length] at hacc6
        rw [take_flat hzs]; exact hacc6
    · have e : i = ds.length := by omega
      subst e
      rw [← hl, List.take_length] at hacc
      exact .inl ⟨wk.stop G2 H2 g12 f2.gh, q Dl acc G2 H2 f2 hDH gD hDl hacc⟩
/-- [list(x) for x in xs], of which the item w stays hidden -/
theorem lc_hole {wi : TI} {te : TE} {vs : List Nat} {t w : Nat} {ds : List D} {zss : List (List D)} {zw : List D} (hw : zss[w]? = some zw) (hi : EvI K wi env ds) (ht : t ∈ vs) (hl : zss.length = ds.length)
    (h : ∀ (i : Nat) (d : D) (zs : List D), ds[i]? = some d → zss[i]? = some zs → EvN K te ((wipeD env vs).set t (.dat d)) zs) (hlen : ds.length ≤ 10000000)
    {G0 H0 G H : Hp} {σ : L2.St} (ok : Ok K G0 H0 G H σ env) {Q : VK}
    (q : ∀ (Dl p : Addr) (a1 a2 xs : List V) (G' H' : Hp), Fw G H G' H' → H Dl = none → G' Dl = none → H' Dl = some (.lst (a1 ++ .ref p :: a2)) → p ≠ Dl → H p = none → G' p = none → H' p = some (.lst xs) → Dds K G' xs zw → Dds K G' a1 ((zss.take w).map PyData.list) → Dds K G' a2 ((zss.drop (w + 1)).map PyData.list) → Q (.ref Dl) H') :
    tLc wi (gName t) tYes te vs σ H Q :=
  hi G0 H0 G H σ ok _ fun J G1 H1 a wk Dl hD => by
    have fr1 : Fw G H G1 (upd H1 Dl (.lst [])) := a.trans (Fw.hid a.gh hD)
    have hDH : H Dl = none := a.hh.free hD
    let St : Nat → Hp → Hp → List V → Prop := fun i G2 H2 acc => (i ≤ w ∧ Dds K G2 acc ((zss.take i).map PyData.list)) ∨ (w < i ∧ ∃ (p : Addr) (a1 a2 xs : List V), acc = a1 ++ .ref p :: a2 ∧ p ≠ Dl ∧ H p = none ∧ G2 p = none ∧ H2 p = some (.lst xs) ∧ Dds K G2 xs zw ∧ Dds K G2 a1 ((zss.take w).map PyData.list) ∧ Dds K G2 a2 (((zss.take i).drop (w + 1)).map PyData.list))
    refine ⟨fun i m H2 => i + m = ds.length ∧ ∃ (G2 : Hp) (acc : List V), Same G1 G2 ∧ Fw G H G2 H2 ∧ G2 Dl = none ∧ H2 Dl = some (.lst acc) ∧ acc.length = i ∧ St i G2 H2 acc, ⟨ds.length, Nat.zero_add _, G1, [], Same.refl _, fr1, a.gh.free hD, upd_same, rfl, .inl ⟨Nat.zero_le _, .nil⟩⟩, ?_⟩
    rintro i m H2 ⟨him, G2, acc, g12, f2, gD, hDl, hal, hst⟩
    by_cases hlt : i < ds.length
    · have hd := List.getElem?_eq_getElem hlt
      have hzs : zss[i]? = some zss[i] := List.getElem?_eq_getElem (by omega)
      generalize zss[i] = zs at hzs
      obtain ⟨hgo, hy⟩ := wk.go i _ G2 H2 hd g12 f2.gh
      refine .inr ⟨hgo, fun H' => ∃ (G3 : Hp) (acc : List V), Same G1 G3 ∧ Fw G H G3 H' ∧ G3 Dl = none ∧ H' Dl = some (.lst acc) ∧ acc.length = i + 1 ∧ St (i + 1) G3 H' acc, fun H' hN => ⟨m - 1, by omega, by omega, hN⟩, fun x H3 hx => ?_⟩
      obtain ⟨G3, a3, hx3⟩ := hy x H3 hx
      have f3 := f2.trans a3
      have hDne : H2 Dl ≠ none := by rw [hDl]; simp
      refine ⟨wipe_sets (ts := [t]) (Sets.set (by simp)) (fun i hi => by rw [List.mem_singleton.mp hi]; exact ht), ?_⟩
      refine h i _ _ hd hzs G0 H0 G3 H3 _ (((ok.go f3).wipe vs).set (s := .dat ds[i]) t rfl ⟨x, rfl, hx3⟩) _ fun p' xs' G6 H6 a6 hp0 gp hp hdd => ?_
      have a36 := a3.trans a6
      have g6 : G6 Dl = none := a36.fr Dl hDne gD
      have hD6 : H6 Dl = some (.lst acc) := a36.hh _ _ hDl
      have hpD : p' ≠ Dl := fun z => by rw [z] at hp0; have := a3.hh _ _ hDl; rw [this] at hp0; cases hp0
      have hp2 : H2 p' = none := a3.hh.free hp0
      have hpH : H p' = none := f2.hh.free hp2
      have hsz : acc.length < sizeLine := by rw [hal, sizeLine_eq]; omega
      have updD : ∀ {G7 : Hp}, Fw G H G7 H6 → G7 Dl = none → Fw G H G7 (upd H6 Dl (.lst (acc ++ [.ref p']))) := fun f7 g7 => ⟨f7.gg, same_upd2 f7.gh g7, fun b o e => by rw [upd_ne (ne_of_none e hDH)]; exact f7.hh _ _ e, f7.fr⟩
      have f6 := f2.trans a36
      -- publishing the new list
      have fp : Fw G2 H2 (upd G6 p' (.lst xs')) H6 := Fw.pub a36 hp2 hp gp
      have gpD : (upd G6 p' (.lst xs')) Dl = none := by rw [upd_ne (Ne.symm hpD)]; exact g6
      have dp : Dd K (upd G6 p' (.lst xs')) (.ref p') (.list zs) := .lst upd_same (hdd.mono (same_upd gp))
      rcases hst with ⟨hiw, hacc⟩ | ⟨hiw, p, a1, a2, xs, eacc, hpd, hpn, gpn, hpx, hxs, ha1, ha2⟩
      · by_cases e : i = w
        · -- the item w
          subst e
          rw [hw] at hzs
          cases hzs
          refine ⟨acc, hD6, hsz, G6, acc ++ [.ref p'], g12.trans a36.gg, updD f6 g6, g6, upd_same, by rw [List.length_append, hal]; rfl, .inr ⟨by omega, p', acc, [], xs', rfl, hpD, hpH, gp, by rw [upd_ne hpD]; exact hp, hdd, hacc.mono a36.gg, ?_⟩⟩
          rw [List.drop_eq_nil_of_le (by rw [List.length_take]; omega)]
          exact .nil
        · refine ⟨acc, hD6, hsz, upd G6 p' (.lst xs'), acc ++ [.ref p'], g12.trans fp.gg, updD (f2.trans fp) gpD, gpD, upd_same, by rw [List.length_append, hal]; rfl, .inl ⟨by omega, ?_⟩⟩
          rw [List.take_add_one, hzs, Option.toList_some, List.map_append]
          exact (hacc.mono fp.gg).append (.cons dp .nil)
      · have hpp : p ≠ p' := fun z => by rw [z, hp2] at hpx; cases hpx
        have hpx6 : H6 p = some (.lst xs) := a36.hh _ _ hpx
        have gp7 : (upd G6 p' (.lst xs')) p = none := by rw [upd_ne hpp]; exact a36.fr p (by rw [hpx]; simp) gpn
        refine ⟨acc, hD6, hsz, upd G6 p' (.lst xs'), acc ++ [.ref p'], g12.trans fp.gg, updD (f2.trans fp) gpD, gpD, upd_same, by rw [List.length_append, hal]; rfl, .inr ⟨by omega, p, a1, a2 ++ [.ref p'], xs, by rw [eacc, List.append_assoc]; rfl, hpd, hpn, gp7, by rw [upd_ne hpd]; exact hpx6, hxs.mono fp.gg, ha1.mono fp.gg, ?_⟩⟩
        rw [List.take_add_one, hzs, Option.toList_some, List.drop_append_of_le_length (by rw [List.length_take]; have := (List.getElem?_eq_some_iff.mp hzs).1; omega), List.map_append]
        exact (ha2.mono fp.gg).append (.cons dp .nil)
    · have e : i = ds.length := by omega
      subst e
      have hwl := (List.getElem?_eq_some_iff.mp hw).1
      rcases hst with ⟨hiw, hacc⟩ | ⟨hiw, p, a1, a2, xs, eacc, hpd, hpn, gpn, hpx, hxs, ha1, ha2⟩
      · omega
      · rw [← hl, List.take_length] at ha2
        rw [eacc] at hDl
        exact .inl ⟨wk.stop G2 H2 g12 f2.gh, q Dl p a1 a2 xs G2 H2 f2 hDH gD hDl hpd hpn gpn hpx hxs ha1 ha2⟩
end DL

namespace DL
open PySem L2 MX
variable {K : PySem.W.Frag} {E : XK} {env : EnvD}
abbrev rLstOf (K : PySem.W.Frag) : List V → Hp → VK → Prop := fun xs H Q => ∃ p ys, xs = [.ref p] ∧ (SqL K H p ys ∨ SqT K H p ys) ∧ ∀ l, H l = none → Q (.ref l) (upd H l (.lst ys))
theorem run_seqA {a b rest : TS} {e1 : EnvD} {r : RD} (h : Run K E (tSeq a b) env (.nx e1)) (h' : Run K E rest e1 r) : Run K E (tSeq a (tSeq b rest)) env r := run_seq (t := tSeq a b) h h'
section
variable {wi : TI} {te : TE} {vs : List Nat} {t w L : Nat} {ds : List D} {zss : List (List D)} {zw : List D}
theorem hole_end {G0 H0 G H G1 H1 G3 H3 : Hp} {σ : L2.St} {Dl p : Addr} {a1 a2 ys : List V} {zw' : List D} (ok : Ok K G0 H0 G H σ env) (hLl : L < env.length) (f : Fw G H G1 H1) (a23 : Fw G1 H1 G3 H3) (hDH : H Dl = none) (gD : G1 Dl = none) (hD : H1 Dl = some (.lst (a1 ++ .ref p :: a2))) (hpd : p ≠ Dl) (hpH : H p = none) (gp : G1 p = none) (hp : H1 p ≠ none)
    (hw : w < zss.length) (hys : Dds K G3 ys zw') (h1 : Dds K G1 a1 ((zss.take w).map PyData.list)) (h2 : Dds K G1 a2 ((zss.drop (w + 1)).map PyData.list)) :
    ∃ G5, Ok K G0 H0 G5 (upd H3 p (.lst ys)) (σ.set L (some (.ref Dl))) (env.set L (.ml ((zss.set w zw').map PyData.list))) := by
  have f3 : Fw G H G3 H3 := f.trans a23
  have g3p : G3 p = none := a23.fr p hp gp
  have g3D : G3 Dl = none := a23.fr Dl (by rw [hD]; simp) gD
  have f5 : Fw G H G3 (upd H3 p (.lst ys)) := ⟨f3.gg, same_upd2 f3.gh g3p, fun b o e => by rw [upd_ne (ne_of_none e hpH)]; exact f3.hh _ _ e, f3.fr⟩
  have fp : Fw G H (upd G3 p (.lst ys)) (upd H3 p (.lst ys)) := Fw.pub f5 hpH upd_same g3p
  have mono : Same G1 (upd G3 p (.lst ys)) := a23.gg.trans (same_upd g3p)
  refine ⟨upd G3 p (.lst ys), ok.setTree fp L (Tr.of_ml (xs := a1 ++ .ref p :: a2) (by rw [upd_ne (Ne.symm hpd)]; exact g3D) (by rw [upd_ne (Ne.symm hpd)]; exact a23.hh _ _ hD) ?_) fun x hx => by rw [List.mem_singleton.mp hx]; exact hDH⟩
  rw [List.set_eq_take_append_cons_drop, if_pos hw, List.map_append, List.map_cons]
  exact (h1.mono mono).append (.cons (.lst upd_same (hys.mono (same_upd g3p))) (h2.mono mono))
theorem hole_at {G1 : Hp} {p : Addr} {a1 a2 : List V} (hw : w < zss.length) (h1 : Dds K G1 a1 ((zss.take w).map PyData.list)) : atI (a1 ++ V.ref p :: a2) (w : Int) = some (.ref p) := by
  have e : a1.length = w := by rw [h1.len, List.length_map, List.length_take]; omega
  refine atI_int (by omega) ?_
  rw [Int.toNat_natCast, List.getElem?_append_right (by omega), e, Nat.sub_self]; rfl
/-- name = [list(x) for x in xs]; name[w].append(e) -/
theorem run_nestA {tw te2 : TE} {d : D} (hw : zss[w]? = some zw) (hi : EvI K wi env ds) (ht : t ∈ vs) (hl : zss.length = ds.length)
    (h : ∀ (i : Nat) (d : D) (zs : List D), ds[i]? = some d → zss[i]? = some zs → EvN K te ((wipeD env vs).set t (.dat d)) zs) (hlen : ds.length ≤ 10000000) (hLl : L < env.length)
    (hwi : EvD K tw (env.set L .un) (.int (w : Int))) (hd : EvD K te2 (env.set L .un) d) (hzl : zw.length < 10000000) :
    Run K E (tSeq (tAsg (tLc wi (gName t) tYes te vs) (gName L)) (tDrop (tBM K "list" rAppend (tOp (rIxL K) (tVar L) tw) (tCons te2 tNil)))) env (.nx (env.set L (.ml ((zss.set w (zw ++ [d])).map PyData.list)))) := fun G0 H0 G H σ D ok q => by
    show tLc wi (gName t) tYes te vs σ H (fun x H1 => (tDrop (tBM K "list" rAppend (tOp (rIxL K) (tVar L) tw) (tCons te2 tNil))) D (σ.set L (some x)) H1)
    refine lc_hole hw hi ht hl h hlen ok fun Dl p a1 a2 xs G1 H1 f hDH gD hD hpd hpH gp hp hxs h1 h2 => ?_
    have hwl := (List.getElem?_eq_some_iff.mp hw).1
    have okL : Ok K G0 H0 G1 H1 (σ.set L (some (.ref Dl))) (env.set L .un) := (ok.go f).set (s := .un) L rfl trivial
    have hsL : (σ.set L (some (.ref Dl)))[L]? = some (some (.ref Dl)) := List.getElem?_set_self (by rw [ok.len]; exact hLl)
    refine ⟨_, hsL, hwi G0 H0 G1 H1 _ okL _ fun u G2 H2 b2 hu => ⟨Dl, _, _, .ref p, rfl, hu.int_inv, .inl (.inl (b2.hh _ _ hD)), hole_at hwl h1, .inl ⟨rfl, xs, SqL.of (b2.hh _ _ hp)⟩, hd G0 H0 G2 H2 _ (okL.go b2) _ fun v G3 H3 b3 hv => ⟨p, xs, v, rfl, rfl, b3.hh _ _ (b2.hh _ _ hp), ?_, ?_⟩⟩⟩
    · rw [hxs.len, sizeLine_eq]; omega
    · obtain ⟨G5, ok5⟩ := hole_end (L := L) ok hLl f (b2.trans b3) hDH gD hD hpd hpH gp (by rw [hp]; simp) hwl ((hxs.mono (b2.trans b3).gg).append (.cons hv .nil)) h1 h2
      exact q G5 _ _ ok5
/-- name = [list(x) for x in xs]; name[w][n] = e -/
theorem run_nestS {tw te2 ty : TE} {d : D} {n : Int} {j : Nat} (hw : zss[w]? = some zw) (hi : EvI K wi env ds) (ht : t ∈ vs) (hl : zss.length = ds.length)
    (h : ∀ (i : Nat) (d : D) (zs : List D), ds[i]? = some d → zss[i]? = some zs → EvN K te ((wipeD env vs).set t (.dat d)) zs) (hlen : ds.length ≤ 10000000) (hLl : L < env.length)
    (hwi : EvD K tw (env.set L .un) (.int (w : Int))) (hd : EvD K te2 (env.set L .un) d) (hy : EvD K ty (env.set L .un) (.int n)) (hj : ixN zw.length n = some j) :
    Run K E (tSeq (tAsg (tLc wi (gName t) tYes te vs) (gName L)) (tAsg te2 (gSub (tOp (rIxL K) (tVar L) tw) ty rSetL))) env (.nx (env.set L (.ml ((zss.set w (zw.set j d)).map PyData.list)))) := fun G0 H0 G H σ D ok q => by
    show tLc wi (gName t) tYes te vs σ H (fun x H1 => (tAsg te2 (gSub (tOp (rIxL K) (tVar L) tw) ty rSetL)) D (σ.set L (some x)) H1)
    refine lc_hole hw hi ht hl h hlen ok fun Dl p a1 a2 xs G1 H1 f hDH gD hD hpd hpH gp hp hxs h1 h2 => ?_
    have hwl := (List.getElem?_eq_some_iff.mp hw).1
    have okL : Ok K G0 H0 G1 H1 (σ.set L (some (.ref Dl))) (env.set L .un) := (ok.go f).set (s := .un) L rfl trivial
    have hsL : (σ.set L (some (.ref Dl)))[L]? = some (some (.ref Dl)) := List.getElem?_set_self (by rw [ok.len]; exact hLl)
    refine hd G0 H0 G1 H1 _ okL _ fun v G2 H2 b2 hv => ⟨_, hsL, hwi G0 H0 G2 H2 _ (okL.go b2) _ fun u G3 H3 b3 hu => ⟨Dl, _, _, .ref p, rfl, hu.int_inv, .inl (.inl (b3.hh _ _ (b2.hh _ _ hD))), hole_at hwl h1, hy G0 H0 G3 H3 _ ((okL.go b2).go b3) _ fun u2 G4 H4 b4 hu2 => ⟨p, xs, n, j, rfl, hu2.int_inv, b4.hh _ _ (b3.hh _ _ (b2.hh _ _ hp)), by rw [hxs.len]; exact hj, ?_⟩⟩⟩
    have b24 := (b2.trans b3).trans b4
    obtain ⟨G5, ok5⟩ := hole_end (L := L) ok hLl f b24 hDH gD hD hpd hpH gp (by rw [hp]; simp) hwl (Dds.set (hv.mono (b3.trans b4).gg) j (hxs.mono b24.gg)) h1 h2
    exact q G5 _ _ ok5
end
end DL

namespace DL
open PySem L2 PySem.Spec PyProof.Rows
/-! ### math.lcm of two numbers below 2^12000 -/
theorem log_bt {n : Nat} {x : Nat} (h : x < 2 ^ n) (hn : 0 < n) : x.log2 < n := by
  obtain ⟨m, rfl⟩ : ∃ m, n = m + 1 := ⟨n - 1, by omega⟩
  have := PySem.W.mg_log h
  omega
def rLcm : List V → Hp → VK → Prop := fun vs H Q => ∃ a b : Int, vs = [.int a, .int b] ∧ MX.Bt 12000 a ∧ MX.Bt 12000 b ∧ Q (.int ((Nat.lcm a.natAbs b.natAbs : Nat) : Int)) H
theorem cr_lcm {X : Cx} : CallR X (.builtin "math.lcm") rLcm := by
  intro pins s σ H vs us Q I r h
  obtain ⟨a, b, rfl, ha, hb, q⟩ := h
  obtain ⟨t, u, rfl⟩ := Vals.int2 r
  have ha : a.natAbs < 2 ^ 12000 := ha
  have hb : b.natAbs < 2 ^ 12000 := hb
  have one : 1 < 2 ^ 12000 := Nat.one_lt_two_pow (by decide)
  have hab : max a.natAbs b.natAbs < 2 ^ 12000 := by
    rcases Nat.le_total a.natAbs b.natAbs with z | z
    · rw [Nat.max_eq_right z]; exact hb
    · rw [Nat.max_eq_left z]; exact ha
  have h1a : max 1 a.natAbs < 2 ^ 12000 := by
    rcases Nat.le_total 1 a.natAbs with z | z
    · rw [Nat.max_eq_right z]; exact ha
    · rw [Nat.max_eq_left z]; exact one
  have l1 := log_bt h1a (by decide)
  have l2 := log_bt hab (by decide)
  have le : (Nat.lcm 1 a.natAbs).lcm b.natAbs < 2 ^ 24000 := by
    rw [PySem.W.mc_lcm_one]
    refine Nat.lt_of_le_of_lt (PySem.W.mc_lcm_le _ _) ?_
    rw [show (24000 : Nat) = 12000 + 12000 from rfl, Nat.pow_add]
    exact Nat.mul_lt_mul'' ha hb
  have l3 := log_bt le (by decide)
  have hsz : ((((Nat.lcm 1 a.natAbs).lcm b.natAbs : Nat) : Int)).natAbs.log2 < bitsLine := Nat.lt_of_lt_of_le (by rw [Int.natAbs_natCast]; exact l3) (by decide)
  refine call_function_meets PySem.W.MGF.kind_lcm PySem.W.MGF.plain_lcm PySem.W.MGF.entry_lcm (PySem.W.MGF.args_lcm _ _) (PySem.W.mg_run_lcm a t b u (by omega) (by omega) hsz).meets ?_
  rw [PySem.W.mc_lcm_one]
  exact ⟨.int _, H, I.tok _, ⟨_, rfl⟩, q⟩
theorem ed_lcm {K : PySem.W.Frag} {env : EnvD} {ta tb : TE} {i j : Int} (ha : EvD K ta env (.int i)) (hb : EvD K tb env (.int j)) (hi : MX.Bt 12000 i) (hj : MX.Bt 12000 j) : EvD K (tCB rLcm (tCons ta (tCons tb tNil))) env (.int ((Nat.lcm i.natAbs j.natAbs : Nat) : Int)) :=
  ed_CB (ea_d ha (ea_d hb ea_nil)) fun vs G H _ hv Q q => by
    obtain ⟨v, u, rfl, h1, h2⟩ := args2 hv
    rw [h1.int_inv, h2.int_inv]
    exact ⟨i, j, rfl, hi, hj, q _ (.int _)⟩
end DL

/-! Trees: paths, fields, stores within. -/
namespace DL
open PySem L2
variable {K : PySem.W.Frag} {E : XK} {env env' e1 e2 : EnvD}
inductive Step
  | f (n : Str)
  | i (k : Nat)
def putT (f : Str) (t : T) : List (Str × T) → List (Str × T)
  | [] => [(f, t)]
  | (g, x) :: r => if g = f then (g, t) :: r else (g, x) :: putT f t r
def T.at1 (t : T) : Step → Option T
  | .f n => match t with
    | .o _ fs => fs.lookup n
    | _ => none
  | .i k => match t with
    | .l ts => ts[k]?
    | _ => none
def T.at : T → List Step → Option T
  | t, [] => some t
  | t, s :: p => match t.at1 s with
    | some u => u.at p
    | none => none
def T.put1 (t : T) (s : Step) (u : T) : T :=
  match s with
  | .f n => match t with
    | .o C fs => .o C (putT n u fs)
    | t => t
  | .i k => match t with
    | .l ts => .l (ts.set k u)
    | t => t
def T.put : T → List Step → T → T
  | _, [], u => u
  | t, s :: p, u => match t.at1 s with
    | some w => t.put1 s (w.put p u)
    | none => t
def Walk1 (H : Hp) (v : V) (s : Step) (w : V) : Prop :=
  match s with
  | .f n => ∃ a C dx fs, v = .ref a ∧ H a = some (.ins C dx fs) ∧ fs.lookup n = some w
  | .i k => ∃ a xs, v = .ref a ∧ H a = some (.lst xs) ∧ xs[k]? = some w
def Walk (H : Hp) : V → List Step → V → Prop
  | v, [], w => v = w
  | v, s :: p, w => ∃ x, Walk1 H v s x ∧ Walk H x p w
variable {G H G' H' : Hp}
theorem Walk1.det {v w u : V} {s : Step} (h : Walk1 H v s w) (h' : Walk1 H v s u) : w = u := by
  cases s with
  | f n =>
    obtain ⟨a, C, dx, fs, e, h1, h2⟩ := h
    obtain ⟨a', C', dx', fs', e', h1', h2'⟩ := h'
    subst e
    cases e'
    rw [h1] at h1'
    cases h1'
    rw [h2] at h2'
    exact Option.some.inj h2'
  | i k =>
    obtain ⟨a, xs, e, h1, h2⟩ := h
    obtain ⟨a', xs', e', h1', h2'⟩ := h'
    subst e
    cases e'
    rw [h1] at h1'
    cases h1'
    rw [h2] at h2'
    exact Option.some.inj h2'
theorem Walk.det : ∀ {p : List Step} {v w u : V}, Walk H v p w → Walk H v p u → w = u
  | [], _, _, _, h, h' => h.symm.trans h'
  | s :: p, v, w, u, ⟨x, h1, h2⟩, ⟨y, g1, g2⟩ => by
    obtain rfl := h1.det g1
    exact h2.det g2
theorem Walk.same (e : Same H H') : ∀ {p : List Step} {v w : V}, Walk H v p w → Walk H' v p w
  | [], _, _, h => h
  | .f n :: p, v, w, ⟨x, ⟨a, C, dx, fs, h0, h1, h2⟩, h3⟩ => ⟨x, ⟨a, C, dx, fs, h0, e _ _ h1, h2⟩, h3.same e⟩
  | .i n :: p, v, w, ⟨x, ⟨a, xs, h0, h1, h2⟩, h3⟩ => ⟨x, ⟨a, xs, h0, e _ _ h1, h2⟩, h3.same e⟩
theorem Walk.snoc : ∀ {p : List Step} {v w u : V} {s : Step}, Walk H v p w → Walk1 H w s u → Walk H v (p ++ [s]) u
  | [], _, _, _, _, h, h1 => by cases h; exact ⟨_, h1, rfl⟩
  | _ :: p, _, _, _, _, ⟨x, h1, h2⟩, h3 => ⟨x, h1, h2.snoc h3⟩
/-! the items of a tree's node -/
theorem Trs.get : ∀ {vs : List V} {ts : List T} {fp : List Addr} {k : Nat} {t : T}, Trs K G H vs ts fp → ts[k]? = some t → ∃ v f, vs[k]? = some v ∧ Tr K G H v t f ∧ (∀ x ∈ f, x ∈ fp)
  | _, _, _, _, _, .nil, e => by simp at e
  | _, _, _, 0, t, .cons h s n, e => by simp at e; subst e; exact ⟨_, _, rfl, h, fun x hx => List.mem_append_left _ hx⟩
  | _, _, _, k + 1, t, .cons h s n, e => by
    obtain ⟨v, f, h1, h2, h3⟩ := s.get (k := k) (t := t) (by simpa using e)
    exact ⟨v, f, by simpa using h1, h2, fun x hx => List.mem_append_right _ (h3 x hx)⟩
theorem Trs.set : ∀ {vs : List V} {ts : List T} {fp : List Addr} {k : Nat} {t : T}, Trs K G H vs ts fp → ts[k]? = some t → ∃ v f, vs[k]? = some v ∧ Tr K G H v t f ∧ (∀ x ∈ f, x ∈ fp) ∧
    ∀ (Nw : Addr → Prop) (H' : Hp) (w : V) (u : T) (f' : List Addr), (∀ x ∈ fp, ¬Nw x) → (∀ x o, H x = some o → x ∉ f → H' x = some o) → Tr K G H' w u f' → (∀ x ∈ f', x ∈ f ∨ Nw x) →
      ∃ fp', Trs K G H' (vs.set k w) (ts.set k u) fp' ∧ (∀ x ∈ fp', x ∈ fp ∨ Nw x)
  | _, _, _, _, _, .nil, e => by simp at e
  | _, _, _, 0, t, .cons (f := f) (g := g) h s n, e => by
    simp at e
    subst e
    refine ⟨_, _, rfl, h, fun x hx => List.mem_append_left _ hx, fun Nw H' w u f' k0 k1 k2 k3 => ⟨f' ++ g, .cons k2 (s.keep (Same.refl _) (fun x hx => (s.own x hx).1) fun x hx => ?_) (fun x hx hg => ?_), fun x hx => ?_⟩⟩
    · cases q : H x with
      | none => exact absurd q (s.own x hx).2
      | some o => exact k1 x o q fun z => n x z hx
    · rcases k3 x hx with z | z
      · exact n x z hg
      · exact k0 x (List.mem_append_right _ hg) z
    · rcases List.mem_append.mp hx with z | z
      · rcases k3 x z with y | y
        · exact .inl (List.mem_append_left _ y)
        · exact .inr y
      · exact .inl (List.mem_append_right _ z)
  | _, _, _, k + 1, t, .cons (f := f) (g := g) h s n, e => by
    obtain ⟨v, f2, h1, h2, h3, h4⟩ := s.set (k := k) (t := t) (by simpa using e)
    refine ⟨v, f2, by simpa using h1, h2, fun x hx => List.mem_append_right _ (h3 x hx), fun Nw H' w u f' k0 k1 k2 k3 => ?_⟩
    obtain ⟨fp', q1, q2⟩ := h4 Nw H' w u f' (fun x hx => k0 x (List.mem_append_right _ hx)) k1 k2 k3
    refine ⟨f ++ fp', .cons (h.keep (Same.refl _) (fun x hx => (h.own x hx).1) fun x hx => ?_) q1 (fun x hx hg => ?_), fun x hx => ?_⟩
    · cases q : H x with
      | none => exact absurd q (h.own x hx).2
      | some o => exact k1 x o q fun z => n x hx (h3 x z)
    · rcases q2 x hg with z | z
      · exact n x hx z
      · exact k0 x (List.mem_append_left _ hx) z
    · rcases List.mem_append.mp hx with z | z
      · exact .inl (List.mem_append_left _ z)
      · rcases q2 x z with y | y
        · exact .inl (List.mem_append_right _ y)
        · exact .inr y
/-- fields: by name -/
theorem fs_at {n : Str} : ∀ {fs : List (Str × V)} {ts : List (Str × T)} {t : T}, fs.map (·.1) = ts.map (·.1) → ts.lookup n = some t → ∃ k : Nat, (ts.map (·.2))[k]? = some t ∧ fs.lookup n = (fs.map (·.2))[k]? ∧ (∀ w, putF n w fs = (fs.map (·.1)).zip ((fs.map (·.2)).set k w)) ∧ ∀ u, putT n u ts = (ts.map (·.1)).zip ((ts.map (·.2)).set k u)
  | [], [], _, _, h => by simp at h
  | [], _ :: _, _, e, _ => by cases e
  | _ :: _, [], _, e, _ => by cases e
  | (g, v) :: fs, (g', t0) :: ts, t, e, h => by
    have e1 : g = g' := (List.cons.inj e).1
    have e2 := (List.cons.inj e).2
    subst e1
    have zs : ∀ {α : Type} (l : List (Str × α)), (l.map (·.1)).zip (l.map (·.2)) = l := fun l => by
      induction l with
      | nil => rfl
      | cons a l ih => rw [List.map_cons, List.map_cons, List.zip_cons_cons, ih]
    by_cases c : g = n
    · subst c
      have : t0 = t := by simpa [List.lookup] using h
      subst this
      refine ⟨0, rfl, by simp [List.lookup], fun w => ?_, fun u => ?_⟩
      · show (if g = g then (g, w) :: fs else _) = _
        rw [if_pos rfl, List.map_cons, List.map_cons, List.set_cons_zero, List.zip_cons_cons, zs]
      · show (if g = g then (g, u) :: ts else _) = _
        rw [if_pos rfl, List.map_cons, List.map_cons, List.set_cons_zero, List.zip_cons_cons, zs]
    · have hb : (n == g) = false := beq_eq_false_iff_ne.mpr (Ne.symm c)
      have h' : ts.lookup n = some t := by simpa only [List.lookup, hb] using h
      obtain ⟨k, k1, k2, k3, k4⟩ := fs_at e2 h'
      refine ⟨k + 1, by simpa using k1, ?_, fun w => ?_, fun u => ?_⟩
      · simp only [List.lookup, hb]
        simpa using k2
      · show (if g = n then (g, w) :: fs else (g, v) :: putF n w fs) = _
        rw [if_neg c, k3 w, List.map_cons, List.map_cons, List.set_cons_succ, List.zip_cons_cons]
      · show (if g = n then (g, u) :: ts else (g, t0) :: putT n u ts) = _
        rw [if_neg c, k4 u, List.map_cons, List.map_cons, List.set_cons_succ, List.zip_cons_cons]
theorem zip_fst {α : Type} : ∀ (a : List Str) (b : List α), a.length = b.length → (a.zip b).map (·.1) = a ∧ (a.zip b).map (·.2) = b
  | [], [], _ => ⟨rfl, rfl⟩
  | x :: a, y :: b, h => by
    obtain ⟨h1, h2⟩ := zip_fst a b (by simpa using h)
    rw [List.zip_cons_cons, List.map_cons, List.map_cons, h1, h2]
    exact ⟨rfl, rfl⟩
  | [], _ :: _, h => by simp at h
  | _ :: _, [], h => by simp at h
theorem set_same {α : Type} {xs : List α} {k : Nat} {w : α} (h : xs[k]? = some w) : xs.set k w = xs := by
  refine List.ext_getElem? fun j => ?_
  by_cases e : k = j
  · subst e
    rw [List.getElem?_set_self (List.getElem?_eq_some_iff.mp h).1, h]
  · rw [List.getElem?_set_ne e]
/-- one step down, and the store of another tree there -/
theorem Tr.step {v : V} {t t1 : T} {fp : List Addr} {s : Step} (h : Tr K G H v t fp) (ht : t.at1 s = some t1) : ∃ w f, Walk1 H v s w ∧ Tr K G H w t1 f ∧ (∀ x ∈ f, x ∈ fp) ∧
    ∀ (Nw : Addr → Prop) (H' : Hp) (u : T) (f' : List Addr), (∀ x ∈ fp, ¬Nw x) → (∀ x o, H x = some o → x ∉ f → H' x = some o) → Tr K G H' w u f' → (∀ x ∈ f', x ∈ f ∨ Nw x) →
      ∃ fp', Tr K G H' v (t.put1 s u) fp' ∧ (∀ x ∈ fp', x ∈ fp ∨ Nw x) := by
  cases s with
  | i k =>
    cases h with
    | l g ha hs n =>
      rename_i a xs ts fp
      obtain ⟨w, f, h1, h2, h3, h4⟩ := hs.set (k := k) (t := t1) ht
      refine ⟨w, f, ⟨a, xs, rfl, ha, h1⟩, h2, fun x hx => List.mem_cons_of_mem _ (h3 x hx), fun Nw H' u f' k0 k1 k2 k3 => ?_⟩
      obtain ⟨fp', q1, q2⟩ := h4 Nw H' w u f' (fun x hx => k0 x (List.mem_cons_of_mem _ hx)) k1 k2 k3
      rw [set_same h1] at q1
      have hna : a ∉ fp' := fun z => by
        rcases q2 a z with y | y
        · exact n y
        · exact k0 a List.mem_cons_self y
      refine ⟨a :: fp', .l g (k1 a _ ha fun z => n (h3 a z)) q1 hna, fun x hx => ?_⟩
      rcases List.mem_cons.mp hx with e | e
      · subst e; exact .inl List.mem_cons_self
      · rcases q2 x e with y | y
        · exact .inl (List.mem_cons_of_mem _ y)
        · exact .inr y
    | _ => cases ht
  | f nm =>
    cases h with
    | o g ha hk hs n =>
      rename_i a dx C fs ts fp
      obtain ⟨k, k1, k2, _, k4⟩ := fs_at hk ht
      obtain ⟨w, f, h1, h2, h3, h4⟩ := hs.set (k := k) (t := t1) k1
      refine ⟨w, f, ⟨a, C, dx, fs, rfl, ha, k2.trans h1⟩, h2, fun x hx => List.mem_cons_of_mem _ (h3 x hx), fun Nw H' u f' k0 m1 m2 m3 => ?_⟩
      obtain ⟨fp', q1, q2⟩ := h4 Nw H' w u f' (fun x hx => k0 x (List.mem_cons_of_mem _ hx)) m1 m2 m3
      rw [set_same h1] at q1
      have hna : a ∉ fp' := fun z => by
        rcases q2 a z with y | y
        · exact n y
        · exact k0 a List.mem_cons_self y
      have hz := zip_fst (ts.map (·.1)) ((ts.map (·.2)).set k u) (by rw [List.length_set, List.length_map, List.length_map])
      refine ⟨a :: fp', ?_, fun x hx => ?_⟩
      · show Tr K G H' (.ref a) (.o C (putT nm u ts)) _
        rw [k4 u]
        exact .o g (m1 a _ ha fun z => n (h3 a z)) (hk.trans hz.1.symm) (by rw [hz.2]; exact q1) hna
      · rcases List.mem_cons.mp hx with e | e
        · subst e; exact .inl List.mem_cons_self
        · rcases q2 x e with y | y
          · exact .inl (List.mem_cons_of_mem _ y)
          · exact .inr y
    | _ => cases ht
/-- a walk down, and the store of another tree there -/
theorem Tr.path : ∀ {p : List Step} {v : V} {t t1 : T} {fp : List Addr}, Tr K G H v t fp → t.at p = some t1 → ∃ w f, Walk H v p w ∧ Tr K G H w t1 f ∧ (∀ x ∈ f, x ∈ fp) ∧
    ∀ (Nw : Addr → Prop) (H' : Hp) (u : T) (f' : List Addr), (∀ x ∈ fp, ¬Nw x) → (∀ x o, H x = some o → x ∉ f → H' x = some o) → Tr K G H' w u f' → (∀ x ∈ f', x ∈ f ∨ Nw x) →
      ∃ fp', Tr K G H' v (t.put p u) fp' ∧ (∀ x ∈ fp', x ∈ fp ∨ Nw x)
  | [], v, t, t1, fp, h, e => by
    cases e
    exact ⟨v, fp, rfl, h, fun _ z => z, fun Nw H' u f' k0 k1 k2 k3 => ⟨f', k2, k3⟩⟩
  | s :: p, v, t, t1, fp, h, e => by
    unfold T.at at e
    cases e1 : t.at1 s with
    | none => rw [e1] at e; cases e
    | some t2 =>
      rw [e1] at e
      obtain ⟨w, f, h1, h2, h3, h4⟩ := h.step e1
      obtain ⟨w2, f2, g1, g2, g3, g4⟩ := h2.path e
      refine ⟨w2, f2, ⟨w, h1, g1⟩, g2, fun x hx => h3 x (g3 x hx), fun Nw H' u f' k0 k1 k2 k3 => ?_⟩
      obtain ⟨fp', q1, q2⟩ := g4 Nw H' u f' (fun x hx => k0 x (h3 x hx)) k1 k2 k3
      obtain ⟨fp'', r1, r2⟩ := h4 Nw H' (t2.put p u) fp' k0 (fun x o hx hn => k1 x o hx fun z => hn (g3 x z)) q1 q2
      refine ⟨fp'', ?_, r2⟩
      unfold T.put
      rw [e1]
      exact r1
/-- te tells what stands at the path p of slot i -/
def EvS (K : PySem.W.Frag) (te : TE) (env : EnvD) (i : Nat) (p : List Step) : Prop := ∀ (G0 H0 G H : Hp) (σ : L2.St), Ok K G0 H0 G H σ env → ∀ Q : VK, (∀ v w G' H', Fw G H G' H' → σ[i]? = some (some v) → Walk H' v p w → Q w H') → te σ H Q
def AtS (env : EnvD) (i : Nat) (p : List Step) (t : T) : Prop := ∃ u t0, env[i]? = some (.tr u t0) ∧ t0.at p = some t
theorem Ok.at {G0 H0 G H : Hp} {σ : L2.St} {i : Nat} {p : List Step} {t : T} (ok : Ok K G0 H0 G H σ env) (h : AtS env i p t) : ∃ v w f, σ[i]? = some (some v) ∧ Walk H v p w ∧ Tr K G H w t f := by
  obtain ⟨u, t0, h1, h2⟩ := h
  obtain ⟨v, fp, k1, _, k2, _⟩ := ok.tree (Fw.refl ok.gh) h1
  obtain ⟨w, f, k3, k4, _⟩ := k2.path h2
  exact ⟨v, w, f, k1, k3, k4⟩
theorem Ok.walk {G0 H0 G H : Hp} {σ : L2.St} {i : Nat} {p : List Step} {t : T} {v w : V} (ok : Ok K G0 H0 G H σ env) (h : AtS env i p t) (hv : σ[i]? = some (some v)) (hw : Walk H v p w) : ∃ f, Tr K G H w t f := by
  obtain ⟨v', w', f, h1, h2, h3⟩ := ok.at h
  rw [hv] at h1
  cases h1
  obtain rfl := hw.det h2
  exact ⟨f, h3⟩
/-- a store at the end of a path -/
theorem Ok.store {G0 H0 G H G1 H1 : Hp} {σ : L2.St} {i : Nat} {p : List Step} {u : Option V} {t0 t : T} {v w : V} (ok : Ok K G0 H0 G H σ env) (a : Fw G H G1 H1) (h1 : env[i]? = some (.tr u t0)) (h2 : t0.at p = some t) (hv : σ[i]? = some (some v)) (hw : Walk H1 v p w) :
    ∃ f, Tr K G1 H1 w t f ∧ (∀ x ∈ f, H x ≠ none) ∧ ∀ (H' : Hp) (t' : T) (f' : List Addr), (∀ x o, H1 x = some o → x ∉ f → H' x = some o) → Tr K G1 H' w t' f' → (∀ x ∈ f', x ∈ f ∨ H x = none) → Ok K G0 H0 G1 H' σ (env.set i (.tr u (t0.put p t'))) := by
  obtain ⟨v', fp, k1, _, k2, k20, k3⟩ := ok.tree a h1
  rw [hv] at k1
  cases k1
  obtain ⟨w', f, k4, k5, k6, k7⟩ := k2.path h2
  obtain rfl := hw.det k4
  refine ⟨f, k5, fun x hx => (k20 x (k6 x hx)).2, fun H' t' f' m1 m2 m3 => ?_⟩
  obtain ⟨fp', q1, q2⟩ := k7 (fun x => H x = none) H' t' f' (fun x hx => (k20 x hx).2) m1 m2 m3
  exact k3 H' _ fp' (fun x o hx hn => m1 x o hx fun z => hn (k6 x z)) q1 q2
/-- a new tree -/
def EvM (K : PySem.W.Frag) (te : TE) (env : EnvD) (t : T) : Prop := ∀ (G0 H0 G H : Hp) (σ : L2.St), Ok K G0 H0 G H σ env → ∀ Q : VK, (∀ v f G' H', Fw G H G' H' → (∀ x ∈ f, H x = none) → Tr K G' H' v t f → Q v H') → te σ H Q
theorem EvD.m {te : TE} {d : D} (h : EvD K te env d) : EvM K te env (.d d) := fun G0 H0 G H σ ok Q q => h G0 H0 G H σ ok Q fun v G1 H1 a hv => q v [] G1 H1 a (fun _ z => nomatch z) (.d hv)
theorem EvN.m {te : TE} {ds : List D} (h : EvN K te env ds) : EvM K te env (.l (ds.map T.d)) := fun G0 H0 G H σ ok Q q => h G0 H0 G H σ ok Q fun p xs G1 H1 a hp g1 h1 hd => q _ [p] G1 H1 a (fun x hx => by rw [List.mem_singleton.mp hx]; exact hp) (Tr.of_ml g1 h1 hd)
theorem run_setM {te : TE} {i : Nat} {t : T} (h : EvM K te env t) : Run K E (tAsg te (gName i)) env (.nx (env.set i (.tr none t))) := fun G0 H0 G H σ D ok q =>
  h G0 H0 G H σ ok _ fun v f G1 H1 a hf ht => q G1 H1 _ (ok.setTree a i ht hf)
theorem Trs.put {n : Str} {y : V} {t : T} {f' : List Addr} (ht : Tr K G H y t f') : ∀ {gs : List (Str × V)} {fs : List (Str × T)} {fp : List Addr}, gs.map (·.1) = fs.map (·.1) → Trs K G H (gs.map (·.2)) (fs.map (·.2)) fp → (∀ x ∈ f', x ∉ fp) →
    ∃ fp', Trs K G H ((putF n y gs).map (·.2)) ((putT n t fs).map (·.2)) fp' ∧ (putF n y gs).map (·.1) = (putT n t fs).map (·.1) ∧ ∀ x ∈ fp', x ∈ fp ∨ x ∈ f'
  | [], [], _, _, .nil, hd => ⟨f' ++ [], .cons ht .nil (fun _ _ z => nomatch z), rfl, fun x hx => .inr (by simpa using hx)⟩
  | [], _ :: _, _, e, _, _ => by cases e
  | _ :: _, [], _, e, _, _ => by cases e
  | (g, v) :: gs, (g', u) :: fs, _, e, .cons (f := f) (g := fr) h s nn, hd => by
    have e1 : g = g' := (List.cons.inj e).1
    have e2 := (List.cons.inj e).2
    subst e1
    by_cases c : g = n
    · have p1 : putF n y ((g, v) :: gs) = (g, y) :: gs := by show (if g = n then _ else _) = _; rw [if_pos c]
      have p2 : putT n t ((g, u) :: fs) = (g, t) :: fs := by show (if g = n then _ else _) = _; rw [if_pos c]
      rw [p1, p2]
      refine ⟨f' ++ fr, .cons ht s (fun x hx hz => hd x hx (List.mem_append_right _ hz)), by rw [List.map_cons, List.map_cons, e2], fun x hx => ?_⟩
      rcases List.mem_append.mp hx with z | z
      · exact .inr z
      · exact .inl (List.mem_append_right _ z)
    · have p1 : putF n y ((g, v) :: gs) = (g, v) :: putF n y gs := by show (if g = n then _ else _) = _; rw [if_neg c]
      have p2 : putT n t ((g, u) :: fs) = (g, u) :: putT n t fs := by show (if g = n then _ else _) = _; rw [if_neg c]
      rw [p1, p2]
      obtain ⟨fp', q1, q2, q3⟩ := Trs.put ht e2 s fun x hx hz => hd x hx (List.mem_append_right _ hz)
      refine ⟨f ++ fp', .cons h q1 (fun x hx hz => ?_), by rw [List.map_cons, List.map_cons, q2], fun x hx => ?_⟩
      · rcases q3 x hz with z | z
        · exact nn x hx z
        · exact hd x z (List.mem_append_left _ hx)
      · rcases List.mem_append.mp hx with z | z
        · exact .inl (List.mem_append_left _ z)
        · rcases q3 x z with y | y
          · exact .inl (List.mem_append_right _ y)
          · exact .inr y
theorem Trs.app : ∀ {vs ws : List V} {ts us : List T} {f g : List Addr}, Trs K G H vs ts f → Trs K G H ws us g → (∀ x ∈ f, x ∉ g) → Trs K G H (vs ++ ws) (ts ++ us) (f ++ g)
  | _, _, _, _, _, _, .nil, h, _ => h
  | _, _, _, _, _, g, .cons (f := f) (g := fr) h s n, h', hd => by
    rw [List.append_assoc]
    exact .cons h (s.app h' fun x hx => hd x (List.mem_append_right _ hx)) fun x hx hz => by
      rcases List.mem_append.mp hz with z | z
      · exact n x hx z
      · exact hd x (List.mem_append_left _ hx) z
section
variable {ta tb te tv : TE} {i : Nat} {p : List Step}
theorem es_v {u : Option V} {t : T} (i : Nat) (h : env[i]? = some (.tr u t) := by rfl) : EvS K (tVar i) env i [] := fun G0 H0 G H σ ok Q q => by
  obtain ⟨v, fp, k1, _, k2, _⟩ := ok.tree (Fw.refl ok.gh) h
  exact ⟨v, k1, q v v G H (Fw.refl ok.gh) k1 rfl⟩
theorem es_fld {C : Addr} {n : Str} {fs : List (Str × T)} (h : EvS K te env i p) (ha : AtS env i p (.o C fs)) (hf : (fs.lookup n).isSome = true) (c : Cls K C) (na : NoAttr K C n) : EvS K (tFld K te n) env i (p ++ [.f n]) := fun G0 H0 G H σ ok Q q =>
  h G0 H0 G H σ ok _ fun v w G1 H1 a hv hw => by
    obtain ⟨f, ht⟩ := (ok.go a).walk ha hv hw
    obtain ⟨t1, hf⟩ := Option.isSome_iff_exists.mp hf
    obtain ⟨w1, f1, g1, g2, _⟩ := ht.step (s := .f n) (t1 := t1) hf
    obtain ⟨b, C', dx, gs, e, e1, e2⟩ := g1
    have eC : C' = C := by
      cases ht with
      | o g ha hk hs n => cases e; rw [ha] at e1; cases e1; rfl
    subst eC
    exact ⟨b, C', dx, gs, w1, e, e1, c, na, e2, q v w1 G1 H1 a hv (hw.snoc ⟨b, C', dx, gs, e, e1, e2⟩)⟩
theorem Trs.len : ∀ {vs : List V} {ts : List T} {fp : List Addr}, Trs K G H vs ts fp → vs.length = ts.length
  | _, _, _, .nil => rfl
  | _, _, _, .cons _ s _ => congrArg (· + 1) s.len
theorem es_ix {ts : List T} {n : Int} {k : Nat} (h : EvS K ta env i p) (ha : AtS env i p (.l ts)) (hb : EvD K tb env (.int n)) (hk : ixN ts.length n = some k) : EvS K (tOp (rIxL K) ta tb) env i (p ++ [.i k]) := fun G0 H0 G H σ ok Q q =>
  h G0 H0 G H σ ok _ fun v w G1 H1 a hv hw => hb G0 H0 G1 H1 σ (ok.go a) _ fun u G2 H2 a2 hu => by
    obtain ⟨f, ht⟩ := (ok.go (a.trans a2)).walk ha hv (hw.same a2.hh)
    cases ht with
    | l g ha hs nn =>
      rename_i b xs fp
      have hl := hs.len
      have hkl := (ixN_seq hk).2.1
      obtain ⟨x, hx⟩ : ∃ x, xs[k]? = some x := ⟨_, List.getElem?_eq_getElem (show k < xs.length by omega)⟩
      refine ⟨b, xs, n, _, rfl, hu.int_inv, SqL.of ha, by unfold atI; rw [hl, hk]; exact hx, q v _ G2 H2 (a.trans a2) hv ((hw.same a2.hh).snoc ⟨b, xs, rfl, ha, hx⟩)⟩
/-- what is read is data -/
theorem ed_at {d : D} (h : EvS K te env i p) (ha : AtS env i p (.d d)) : EvD K te env d := fun G0 H0 G H σ ok Q q =>
  h G0 H0 G H σ ok _ fun v w G1 H1 a hv hw => by
    obtain ⟨f, ht⟩ := (ok.go a).walk ha hv hw
    cases ht with
    | d hd => exact q w G1 H1 a hd
theorem el_at {ds : List D} (h : EvS K te env i p) (ha : AtS env i p (.l (ds.map T.d))) : EvL K te env ds := fun G0 H0 G H σ ok Q q =>
  h G0 H0 G H σ ok _ fun v w G1 H1 a hv hw => by
    obtain ⟨f, ht⟩ := (ok.go a).walk ha hv hw
    obtain ⟨l, xs, e, _, g, hl, hd⟩ := ht.ml
    subst e
    exact q l xs G1 H1 a hl hd
/-- o.f = e -/
theorem run_fld {C : Addr} {n : Str} {u : Option V} {t0 t : T} {fs : List (Str × T)} (hv : EvM K tv env t) (h : EvS K te env i p) (h1 : env[i]? = some (.tr u t0)) (h2 : t0.at p = some (.o C fs)) (c : Cls K C) (na : NoAttr K C n) (hl : fs.length < 1000) :
    Run K E (sFld K te tv n) env (.nx (env.set i (.tr u (t0.put p (.o C (putT n t fs)))))) := fun G0 H0 G H σ D ok q =>
  hv G0 H0 G H σ ok _ fun y f1 G1 H1 a hf1 hy => h G0 H0 G1 H1 σ (ok.go a) _ fun v w G2 H2 a2 hv2 hw => by
    obtain ⟨f, ht, hin, hs⟩ := ok.store (a.trans a2) h1 h2 hv2 hw
    cases ht with
    | o g ha hk hts nn =>
      rename_i b dx gs fp
      have hgl : gs.length = fs.length := by have := congrArg List.length hk; simpa using this
      have hb : ∀ x, x ∈ f1 → x ∉ b :: fp := fun x hx hz => hin x hz (hf1 x hx)
      have k0 : Trs K G2 (upd H2 b (.ins C dx (putF n y gs))) (gs.map (·.2)) (fs.map (·.2)) fp := hts.keep (Same.refl _) (fun x hx => (hts.own x hx).1) fun x hx => by rw [upd_ne (fun z => nn (by rw [← z]; exact hx))]
      have hy2 := hy.fw a2
      have ky : Tr K G2 (upd H2 b (.ins C dx (putF n y gs))) y t f1 := hy2.keep (Same.refl _) (fun x hx => (hy2.own x hx).1) fun x hx => by rw [upd_ne (fun z => hb x hx (by rw [z]; exact List.mem_cons_self))]
      obtain ⟨fp', q1, q2, q3⟩ := Trs.put ky hk k0 fun x hx hz => hb x hx (List.mem_cons_of_mem _ hz)
      refine ⟨b, C, dx, gs, rfl, ha, c, na, by omega, q G2 _ σ (hs _ (.o C (putT n t fs)) (b :: fp') (fun x o hx hn => ?_) (.o g upd_same q2 q1 fun z => ?_) (fun x hx => ?_))⟩
      · rw [upd_ne (fun z => hn (by rw [z]; exact List.mem_cons_self))]; exact hx
      · rcases q3 b z with y | y
        · exact nn y
        · exact hb b y List.mem_cons_self
      · rcases List.mem_cons.mp hx with z | z
        · exact .inl (by rw [z]; exact List.mem_cons_self)
        · rcases q3 x z with y | y
          · exact .inl (List.mem_cons_of_mem _ y)
          · exact .inr (hf1 x y)
/-- xs.append(e) -/
theorem run_appendS {u : Option V} {t0 t : T} {ts : List T} (h : EvS K te env i p) (h1 : env[i]? = some (.tr u t0)) (h2 : t0.at p = some (.l ts)) (hv : EvM K tv env t) (hl : ts.length < 10000000) :
    Run K E (tDrop (tBM K "list" rAppend te (tCons tv tNil))) env (.nx (env.set i (.tr u (t0.put p (.l (ts ++ [t])))))) := fun G0 H0 G H σ D ok q =>
  h G0 H0 G H σ ok _ fun v w G1 H1 a hv1 hw => by
    obtain ⟨_, ht0⟩ := (ok.go a).walk ⟨u, t0, h1, h2⟩ hv1 hw
    cases ht0 with
    | l g ha hts nn =>
      rename_i b xs fp
      refine ⟨.inl ⟨rfl, xs, SqL.of ha⟩, hv G0 H0 G1 H1 σ (ok.go a) _ fun y f1 G2 H2 a2 hf1 hy => ?_⟩
      obtain ⟨f, ht, hin, hs⟩ := (ok.go a).store a2 h1 h2 hv1 (hw.same a2.hh)
      cases ht with
      | l g' ha' hts' nn' =>
        rename_i xs' fp'
        have e := a2.hh _ _ ha
        rw [ha'] at e
        cases e
        have hb : ∀ x, x ∈ f1 → x ∉ b :: fp' := fun x hx hz => hin x hz (hf1 x hx)
        have k0 : Trs K G2 (upd H2 b (.lst (xs ++ [y]))) xs ts fp' := hts'.keep (Same.refl _) (fun x hx => (hts'.own x hx).1) fun x hx => by rw [upd_ne (fun z => nn' (by rw [← z]; exact hx))]
        have ky : Tr K G2 (upd H2 b (.lst (xs ++ [y]))) y t f1 := hy.keep (Same.refl _) (fun x hx => (hy.own x hx).1) fun x hx => by rw [upd_ne (fun z => hb x hx (by rw [z]; exact List.mem_cons_self))]
        refine ⟨b, xs, y, rfl, rfl, ha', by rw [hts'.len, sizeLine_eq]; omega, q G2 _ σ (hs _ (.l (ts ++ [t])) (b :: (fp' ++ (f1 ++ []))) (fun x o hx hn => ?_) (.l g' upd_same (k0.app (.cons ky .nil fun _ _ z => nomatch z) fun x hx hz => ?_) fun z => ?_) (fun x hx => ?_))⟩
        · rw [upd_ne (fun z => hn (by rw [z]; exact List.mem_cons_self))]; exact hx
        · exact hb x (by simpa using hz) (List.mem_cons_of_mem _ hx)
        · rcases List.mem_append.mp z with y | y
          · exact nn' y
          · exact hb b (by simpa using y) List.mem_cons_self
        · rcases List.mem_cons.mp hx with z | z
          · exact .inl (by rw [z]; exact List.mem_cons_self)
          · rcases List.mem_append.mp z with y | y
            · exact .inl (List.mem_cons_of_mem _ y)
            · exact .inr (hf1 x (by simpa using y))
end
end DL

/-! Objects: made, their methods, calls that change what they are given; while. -/
namespace DL
open PySem L2
variable {K : PySem.W.Frag} {E : XK} {env env' e1 e2 : EnvD} {G H G' H' G1 H1 : Hp}
/-! ### published objects -/
theorem ods_at {n : Str} : ∀ {fs : List (Str × V)} {ds : List (Str × D)} {d : D}, fs.map (·.1) = ds.map (·.1) → Dds K G (fs.map (·.2)) (ds.map (·.2)) → ds.lookup n = some d → ∃ v, fs.lookup n = some v ∧ Dd K G v d
  | [], [], _, _, _, h => by simp at h
  | [], _ :: _, _, e, _, _ => by cases e
  | _ :: _, [], _, e, _, _ => by cases e
  | (g, v) :: fs, (g', d0) :: ds, d, e, .cons h hs, hl => by
    have e1 : g = g' := (List.cons.inj e).1
    subst e1
    by_cases c : g = n
    · subst c
      have : d0 = d := by simpa [List.lookup] using hl
      subst this
      exact ⟨v, by simp [List.lookup], h⟩
    · have hb : (n == g) = false := beq_eq_false_iff_ne.mpr (Ne.symm c)
      obtain ⟨w, h1, h2⟩ := ods_at (List.cons.inj e).2 hs (by simpa only [List.lookup, hb] using hl)
      exact ⟨w, by simpa only [List.lookup, hb] using h1, h2⟩
theorem ed_fld {te : TE} {C : Addr} {fs : List (Str × D)} {n : Str} {d : D} (h : EvD K te env (objD C fs)) (c : Cls K C) (na : NoAttr K C n) (hl : fs.lookup n = some d) : EvD K (tFld K te n) env d := fun G0 H0 G H σ ok Q q =>
  h G0 H0 G H σ ok _ fun v G1 H1 a hv => by
    obtain ⟨b, dx, gs, e, e1, hk, hd⟩ := hv.obj_inv
    subst e
    obtain ⟨w, h1, h2⟩ := ods_at hk hd hl
    exact ⟨b, C, dx, gs, w, rfl, a.gh _ _ e1, c, na, h1, q w G1 H1 a h2⟩
theorem lookup_none {n : Str} : ∀ {fs : List (Str × V)} {ks : List Str}, fs.map (·.1) = ks → n ∉ ks → fs.lookup n = none
  | [], _, _, _ => rfl
  | (g, v) :: fs, _, e, h => by
    subst e
    have c : g ≠ n := fun z => h (by simp [z])
    have hb : (n == g) = false := beq_eq_false_iff_ne.mpr (Ne.symm c)
    simp only [List.lookup, hb]
    exact lookup_none rfl fun z => h (by simp only [List.map_cons]; exact List.mem_cons_of_mem _ z)
/-- o.m(..) of a published object -/
theorem ed_meth {α : Type} {fs : α → List SD} {pre : α → Prop} {f : α → D} {te : TE} {t : TA} {C : Addr} {fl : List (Str × D)} {m : Str} {ss : List SD} {x : α} (h : EvD K te env (objD C fl)) (hm : m ∉ fl.map (·.1)) (ha : EvA K t env ss) (e : .dat (objD C fl) :: ss = fs x) (hp : pre x) :
    EvD K (tMeth C m (SpD K fs pre f) [] E te t) env (f x) := fun G0 H0 G H σ ok Q q =>
  h G0 H0 G H σ ok _ fun v G1 H1 a hv => by
    have hv0 := hv
    obtain ⟨b, dx, gs, e1, e2, hk, hd⟩ := hv.obj_inv
    subst e1
    exact ⟨b, dx, gs, rfl, a.gh _ _ e2, lookup_none hk hm, ha G0 H0 G1 H1 σ (ok.go a) _ fun vs G2 H2 a2 hvs => ⟨x, G2, a2.gh, by rw [List.append_nil, ← e]; exact .cons rfl ⟨_, rfl, hv0.mono a2.gg⟩ hvs, hp, fun v G3 H3 a3 hd => q v G3 H3 ((a.trans a2).trans a3) hd⟩⟩
theorem en_meth {α : Type} {fs : α → List SD} {pre : α → Prop} {fl' : α → List D} {te : TE} {t : TA} {C : Addr} {fl : List (Str × D)} {m : Str} {ss : List SD} {x : α} (h : EvD K te env (objD C fl)) (hm : m ∉ fl.map (·.1)) (ha : EvA K t env ss) (e : .dat (objD C fl) :: ss = fs x) (hp : pre x) :
    EvN K (tMeth C m (SpN K fs pre fl') [] E te t) env (fl' x) := fun G0 H0 G H σ ok Q q =>
  h G0 H0 G H σ ok _ fun v G1 H1 a hv => by
    have hv0 := hv
    obtain ⟨b, dx, gs, e1, e2, hk, hd⟩ := hv.obj_inv
    subst e1
    exact ⟨b, dx, gs, rfl, a.gh _ _ e2, lookup_none hk hm, ha G0 H0 G1 H1 σ (ok.go a) _ fun vs G2 H2 a2 hvs => ⟨x, G2, a2.gh, by rw [List.append_nil, ← e]; exact .cons rfl ⟨_, rfl, hv0.mono a2.gg⟩ hvs, hp, fun p xs G3 H3 a3 hp g3 h3 hd => q p xs G3 H3 ((a.trans a2).trans a3) ((a.trans a2).hh.free hp) g3 h3 hd⟩⟩
/-! ### promises of what changes its first argument -/
open Classical in
noncomputable def cutH (H : Hp) (fp : List Addr) : Hp := fun a => if a ∈ fp then none else H a
theorem cutH_in {fp : List Addr} {a : Addr} (h : a ∈ fp) : cutH H fp a = none := by unfold cutH; rw [if_pos h]
theorem cutH_out {fp : List Addr} {a : Addr} (h : a ∉ fp) : cutH H fp a = H a := by unfold cutH; rw [if_neg h]
theorem cutH_same {fp : List Addr} : Same (cutH H fp) H := fun a o e => by
  by_cases h : a ∈ fp
  · rw [cutH_in h] at e; cases e
  · rw [cutH_out h] at e; exact e
/-- the slot of a tree, changed by a call -/
theorem Ok.chg {G0 H0 : Hp} {σ : L2.St} (ok : Ok K G0 H0 G H σ env) (a : Fw G H G1 H1) {i : Nat} {u : Option V} {t : T} (hi : env[i]? = some (.tr u t)) : ∃ v fp, σ[i]? = some (some v) ∧ (∀ w, u = some w → v = w) ∧ Tr K G1 H1 v t fp ∧ (∀ x ∈ fp, H0 x = none ∧ H x ≠ none) ∧
    ∀ (G' H' : Hp) (t' : T) (fp' : List Addr), Fw G1 (cutH H1 fp) G' H' → Tr K G' H' v t' fp' → (∀ x ∈ fp', x ∈ fp ∨ H1 x = none) → Ok K G0 H0 G' H' σ (env.set i (.tr u t')) := by
  obtain ⟨F, hs⟩ := ok.ex
  obtain ⟨o, h1, v, e, hu0, h2⟩ := hs.sl i _ hi
  subst e
  have fresh1 : ∀ j x, x ∈ F j → G1 x = none ∧ H1 x ≠ none := fun j x hx => ⟨a.fr x (hs.inn j x hx).2 (hs.inn j x hx).1, fun z => (hs.inn j x hx).2 (a.hh.free z)⟩
  refine ⟨v, F i, h1, hu0, h2.fw a, fun x hx => ⟨hs.fresh i x hx, (hs.inn i x hx).2⟩, fun G' H' t' fp' fw k3 k4 => ?_⟩
  have hh' : Same H0 H' := fun x o e => fw.hh x o (by
    rw [cutH_out (fun z => by rw [hs.fresh i x z] at e; cases e)]; exact a.hh _ _ (ok.fw.hh _ _ e))
  have cutO : ∀ j, i ≠ j → ∀ x ∈ F j, cutH H1 (F i) x = H1 x := fun j hj x hx => cutH_out (hs.apart j i x (Ne.symm hj) hx)
  have other : ∀ j, i ≠ j → ∀ x ∈ F j, H' x = H1 x := fun j hj x hx => by
    cases q : H1 x with
    | none => exact absurd q (fresh1 j x hx).2
    | some o => exact fw.hh x o (by rw [cutO j hj x hx]; exact q)
  have otherG : ∀ j, i ≠ j → ∀ x ∈ F j, G' x = none := fun j hj x hx => fw.fr x (by rw [cutO j hj x hx]; exact (fresh1 j x hx).2) (fresh1 j x hx).1
  have fw1 := ok.fw.trans a
  refine ⟨fw.gh, ⟨fw1.gg.trans fw.gg, fw.gh, hh', fun l hl gl => ?_⟩, by rw [List.length_set]; exact ok.len, fun j => if j = i then fp' else F j, fun j u hu => ?_, fun j x hx => ?_, fun j k x hjk ha hb => ?_, fun j x hx => ?_⟩
  · have hlf : l ∉ F i := fun z => hl (hs.fresh i l z)
    exact fw.fr l (by rw [cutH_out hlf]; intro z; exact hl (fw1.hh.free z)) (fw1.fr l hl gl)
  · rcases get_set hu with ⟨e, _, e2⟩ | ⟨e, h4⟩
    · subst e; subst e2
      rw [if_pos rfl]
      exact ⟨_, h1, v, rfl, hu0, k3⟩
    · rw [if_neg (Ne.symm e)]
      obtain ⟨o, h5, h6⟩ := hs.sl j u h4
      exact ⟨o, h5, (h6.fw a).keep fw.gg (otherG j e) (other j e)⟩
  · by_cases e : j = i
    · subst e
      simp only [if_true] at hx
      rcases k4 x hx with z | z
      · exact hs.fresh _ x z
      · exact fw1.hh.free z
    · simp only [if_neg e] at hx
      exact hs.fresh j x hx
  · by_cases e : j = i
    · subst e
      simp only [if_true] at ha
      simp only [if_neg (Ne.symm hjk)] at hb
      rcases k4 x ha with z | z
      · exact hs.apart _ _ x hjk z hb
      · exact (fresh1 k x hb).2 z
    · simp only [if_neg e] at ha
      by_cases e2 : k = i
      · subst e2
        simp only [if_true] at hb
        rcases k4 x hb with z | z
        · exact hs.apart _ _ x hjk ha z
        · exact (fresh1 j x ha).2 z
      · simp only [if_neg e2] at hb
        exact hs.apart j k x hjk ha hb
  · by_cases e : j = i
    · subst e
      simp only [if_true] at hx
      exact k3.own x hx
    · simp only [if_neg e] at hx
      exact ⟨otherG j (Ne.symm e) x hx, by rw [other j (Ne.symm e) x hx]; exact (fresh1 j x hx).2⟩
section
variable {α : Type} {t0 t1 : α → T} {fs : α → List SD} {pre : α → Prop} {res : α → D}
def SpU (K : PySem.W.Frag) (t0 : α → T) (fs : α → List SD) (pre : α → Prop) (t1 : α → T) (res : α → D) : Sp := fun vs H Q _ => ∃ (x : α) (G : Hp) (v0 : V) (ws : List V) (fp : List Addr), vs = v0 :: ws ∧ Same G H ∧ Tr K G H v0 (t0 x) fp ∧ Args K G H ws (fs x) ∧ pre x ∧
  ∀ v G' H' fp', Fw G (cutH H fp) G' H' → Tr K G' H' v0 (t1 x) fp' → (∀ a ∈ fp', a ∈ fp ∨ H a = none) → Dd K G' v (res x) → Q v H'
theorem ok_startU {N : List Str} {v0 : V} {vs : List V} {ss : List SD} {t : T} {fp : List Addr} (gh : Same G H) (ht : Tr K G H v0 t fp) (h : Args K G H vs ss) : Ok K G (cutH H fp) G H (L2.start N (v0 :: vs)) (envOf N (.tr (some v0) t :: ss)) := by
  have hl := h.len
  refine ⟨gh, ⟨Same.refl _, gh, cutH_same, fun _ _ z => z⟩, ?_, fun i => if i = 0 then fp else [], fun i s hi => ?_, fun i a z => ?_, fun i j a hij z => ?_, fun i a z => ?_⟩
  · unfold L2.start envOf
    simp only [List.length_append, List.length_map, List.length_replicate, List.length_cons]
    omega
  · cases i with
    | zero =>
      have : s = .tr (some v0) t := by unfold envOf at hi; simpa using hi.symm
      subst this
      exact ⟨some v0, by unfold L2.start; simp, v0, rfl, (fun w e => by cases e; rfl), ht⟩
    | succ i =>
      rw [if_neg (by omega)]
      unfold envOf at hi
      unfold L2.start
      by_cases hlt : i < ss.length
      · rw [List.getElem?_append_left (by simp; omega), List.getElem?_cons_succ] at hi
        obtain ⟨hm, v, h1, h2⟩ := args_get h i s hi
        refine ⟨some v, ?_, SlF.of hm h2⟩
        rw [List.getElem?_append_left (by simp; omega), List.getElem?_map, List.getElem?_cons_succ, h1]
        rfl
      · rw [List.getElem?_append_right (by simp; omega), List.getElem?_replicate] at hi
        split at hi
        · cases hi
          refine ⟨none, ?_, rfl, trivial⟩
          rw [List.getElem?_append_right (by simp; omega), List.getElem?_replicate, List.length_map, if_pos (by simp at *; omega)]
        · cases hi
  · by_cases e : i = 0
    · rw [if_pos e] at z; exact cutH_in z
    · rw [if_neg e] at z; cases z
  · by_cases e : j = 0
    · rw [if_neg (fun y => hij (y.trans e.symm))] at z; cases z
    · rw [if_neg e]; simp
  · by_cases e : i = 0
    · rw [if_pos e] at z; exact ht.own a z
    · rw [if_neg e] at z; cases z
/-- return e, where slot i's tree has become t -/
theorem run_retU {te : TE} {i : Nat} {v : V} {t : T} {d : D} (hd : EvD K te env d) (h : env[i]? = some (.tr (some v) t) := by rfl) : Run K E (tRet te) env (.rm v t d) := fun G0 H0 G H σ D ok q =>
  hd G0 H0 G H σ ok _ fun u G1 H1 a hu => by
    obtain ⟨v', fp, k1, k2, k3, k4, _⟩ := ok.tree a h
    obtain rfl := k2 v rfl
    exact q u G1 H1 fp (ok.fw.trans a) hu k3 fun x hx => (k4 x hx).1
theorem run_retUN {i : Nat} {v : V} {t : T} (h : env[i]? = some (.tr (some v) t) := by rfl) : Run K E tRetN env (.rm v t .none) := fun G0 H0 G H σ D ok q => by
  obtain ⟨v', fp, k1, k2, k3, k4, _⟩ := ok.tree (Fw.refl ok.gh) h
  obtain rfl := k2 v rfl
  exact q _ G H fp ok.fw .non k3 fun x hx => (k4 x hx).1
end
section
variable {P : Program} {w : World} {mg : Str → Option Value} {base : Heap} {x qual : Str} {st : Stmt} {f : Addr} {fd : FuncData} {N ps : List Str} {k : Nat} {α : Type} {t0 t1 : α → T} {fs : α → List SD} {pre : α → Prop} {res : α → D}
theorem fn_U (F : Fun K x qual st f fd) (S : FnScope N ps (defScope st)) (hn : ∀ a, (fs a).length + 1 = ps.length)
    (body : ∀ (cdv : Value) (A : Around) (outer : List Env) (s : Shared) (H : Hp) (E : XK), Room k (A.deeper (PyProof.Rows.envOfC qual (defScope st) s.heap.objs.size f cdv)) →
      ∃ t, PSs (cx0 P w K mg base N qual st f cdv A outer s H E) (defBody st) t ∧ ∀ a v0, pre a → Run K E t (envOf N (.tr (some v0) (t0 a) :: fs a)) (.rm v0 (t1 a) (res a)) ∨ (res a = .none ∧ ∃ e, e[0]? = some (.tr (some v0) (t1 a)) ∧ Run K E t (envOf N (.tr (some v0) (t0 a) :: fs a)) (.nx e))) : FnOk P w K mg base CX0 (k + 1) f fd ps (SpU K t0 fs pre t1 res) := by
  refine F.ok S (fun vs H Q E h => ?_) (fun cdv A outer s H vs Q E hr h => ?_)
  · obtain ⟨a, G, v0, ws, fp, e, gh, ht, ha, _⟩ := h
    rw [e, List.length_cons, ha.len, hn a]
  · obtain ⟨a, G, v0, ws, fp, e, gh, ht, ha, hp, q⟩ := h
    subst e
    obtain ⟨t, h1, h2⟩ := body cdv A outer s H E hr
    refine ⟨t, h1, ?_⟩
    have back : ∀ (H0 : Hp) (y : Addr), H0 = cutH H fp → H0 y = none → y ∈ fp ∨ H y = none := fun H0 y e hy => by
      subst e
      by_cases z : y ∈ fp
      · exact .inl z
      · rw [cutH_out z] at hy; exact .inr hy
    rcases h2 a v0 hp with h3 | ⟨e0, e, he, h3⟩
    · exact h3 G (cutH H fp) G H _ _ (ok_startU gh ht ha) fun u G' H' fp' fw hu ht' hf => q u G' H' fp' fw ht' (fun y hy => back _ y rfl (hf y hy)) hu
    · refine h3 G (cutH H fp) G H _ _ (ok_startU gh ht ha) fun G' H' σ' ok' => ?_
      obtain ⟨v', fp', k1, k2, k3, k4, _⟩ := ok'.tree (Fw.refl ok'.gh) he
      obtain rfl := k2 v0 rfl
      exact q _ G' H' fp' ok'.fw k3 (fun y hy => back _ y rfl (k4 y hy).1) (by rw [e0]; exact .non)
end
/-! ### calls of such -/
/-- te gives d, and changes the slots to env' -/
def EvU (K : PySem.W.Frag) (te : TE) (env : EnvD) (d : D) (env' : EnvD) : Prop := ∀ (G0 H0 G H : Hp) (σ : L2.St), Ok K G0 H0 G H σ env → ∀ Q : VK, (∀ v G' H', Same G G' → Ok K G0 H0 G' H' σ env' → Dd K G' v d → Q v H') → te σ H Q
def EvAU (K : PySem.W.Frag) (ta : TA) (env : EnvD) (ss : List SD) (env' : EnvD) : Prop := ∀ (G0 H0 G H : Hp) (σ : L2.St), Ok K G0 H0 G H σ env → ∀ Q : List V → Hp → Prop, (∀ vs G' H', Same G G' → Ok K G0 H0 G' H' σ env' → Args K G' H' vs ss → Q vs H') → ta σ H Q
def EvTU (K : PySem.W.Frag) (tt : TT) (env : EnvD) (b : Bool) (env' : EnvD) : Prop := ∀ (G0 H0 G H : Hp) (σ : L2.St), Ok K G0 H0 G H σ env → ∀ Q : Bool → Hp → Prop, (∀ G' H', Same G G' → Ok K G0 H0 G' H' σ env' → Q b H') → tt σ H Q
section
variable {α : Type} {t0 t1 : α → T} {fs : α → List SD} {pre : α → Prop} {res : α → D} {f : α → D} {te : TE} {t : TA} {tt : TT} {i : Nat} {C : Addr} {m : Str} {ss : List SD} {d : D} {b : Bool}
theorem EvD.u (h : EvD K te env d) : EvU K te env d env := fun G0 H0 G H σ ok Q q => h G0 H0 G H σ ok Q fun v G1 H1 a hv => q v G1 H1 a.gg (ok.go a) hv
theorem eau_cons (h : EvU K te env d e1) (hs : EvA K t e1 ss) : EvAU K (tCons te t) env (.dat d :: ss) e1 := fun G0 H0 G H σ ok Q q =>
  h G0 H0 G H σ ok _ fun v G1 H1 s1 ok1 hv => hs G0 H0 G1 H1 σ ok1 _ fun vs G2 H2 a2 hvs => q _ G2 H2 (s1.trans a2.gg) (ok1.go a2) (.cons rfl ⟨v, rfl, hv.mono a2.gg⟩ hvs)
theorem eau_later {s : SD} (h : EvV K te env s) (hm : s.isMut = false) (hs : EvAU K t env ss e1) (hk : ∀ G H H' v, SlOk K G H (some v) s → SlOk K G H' (some v) s) (hk2 : ∀ G G' H v, Same G G' → SlOk K G H (some v) s → SlOk K G' H (some v) s) : EvAU K (tCons te t) env (s :: ss) e1 := fun G0 H0 G H σ ok Q q =>
  h G0 H0 G H σ ok _ fun v G1 H1 a hv => hs G0 H0 G1 H1 σ (ok.go a) _ fun vs G2 H2 s2 ok2 hvs => q _ G2 H2 (a.gg.trans s2) ok2 (.cons hm (hk2 _ _ _ _ s2 (hk _ _ H2 _ hv)) hvs)
theorem eau_laterD {d0 : D} (h : EvD K te env d0) (hs : EvAU K t env ss e1) : EvAU K (tCons te t) env (.dat d0 :: ss) e1 := eau_later h.v rfl hs (fun _ _ _ _ z => z) fun _ _ _ _ e z => by obtain ⟨v, e1, h⟩ := z; exact ⟨v, e1, h.mono e⟩
theorem eu_call {x : α} {E' : XK} (h : EvAU K t env ss e1) (e : ss = fs x) (hp : pre x) : EvU K (tCall (SpD K fs pre f) [] E' t) env (f x) e1 := fun G0 H0 G H σ ok Q q =>
  h G0 H0 G H σ ok _ fun vs G1 H1 s1 ok1 hv => ⟨x, G1, ok1.gh, by rw [List.append_nil, ← e]; exact hv, hp, fun v G2 H2 a2 hd => q v G2 H2 (s1.trans a2.gg) (ok1.go a2) hd⟩
theorem etu_B (h : EvU K te env (.bool b) e1) : EvTU K (tB te) env b e1 := fun G0 H0 G H σ ok Q q => h G0 H0 G H σ ok _ fun v G1 H1 s1 ok1 hv => ⟨b, hv.bl_inv, q G1 H1 s1 ok1⟩
theorem etu_not (h : EvTU K tt env b e1) : EvTU K (tNot tt) env (!b) e1 := fun G0 H0 G H σ ok Q q => h G0 H0 G H σ ok _ fun G1 H1 s1 ok1 => q G1 H1 s1 ok1
theorem Ok.grow {G0 H0 G H G1 H1 : Hp} {σ : L2.St} (ok : Ok K G0 H0 G1 H1 σ env) : Ok K G0 H0 G1 H1 σ env := ok
theorem run_ifU {u v : TS} {r : RD} (h : EvTU K tt env b e1) (h1 : b = true → Run K E u e1 r) (h2 : b = false → Run K E v e1 r) : Run K E (tIfS tt u v) env r := fun G0 H0 G H σ D ok q => h G0 H0 G H σ ok _ fun G1 H1 s1 ok1 => by
  cases b with
  | true => exact iteT (h1 rfl G0 H0 G1 H1 σ D ok1 q)
  | false => exact iteF (h2 rfl G0 H0 G1 H1 σ D ok1 q)
theorem run_setU {j : Nat} (h : EvU K te env d e1) : Run K E (tAsg te (gName j)) env (.nx (e1.set j (.dat d))) := fun G0 H0 G H σ D ok q =>
  h G0 H0 G H σ ok _ fun v G1 H1 s1 ok1 hv => q G1 H1 _ (ok1.set j rfl ⟨v, rfl, hv⟩)
theorem run_dropU (h : EvU K te env d e1) : Run K E (tDrop te) env (.nx e1) := fun G0 H0 G H σ D ok q => h G0 H0 G H σ ok _ fun v G1 H1 s1 ok1 hv => q G1 H1 σ ok1
theorem run_asgU {g : TG} {ts : List Nat} (h : EvU K te env d e1) (hg : EvG K g ts e1 d e2) : Run K E (tAsg te g) env (.nx e2) := fun G0 H0 G H σ D ok q =>
  h G0 H0 G H σ ok _ fun v G1 H1 s1 ok1 hv => hg G0 H0 G1 H1 σ v _ ok1 hv fun σ' _ ok' => q G1 H1 σ' ok'
/-- a call whose first argument is slot i's tree -/
theorem eu_chg {u : Option V} {x : α} {E' : XK} (hi : env[i]? = some (.tr u (t0 x))) (ha : EvA K t env (fs x)) (hp : pre x) : EvU K (tCall (SpU K t0 fs pre t1 res) [] E' (tCons (tVar i) t)) env (res x) (env.set i (.tr u (t1 x))) := fun G0 H0 G H σ ok Q q => by
  obtain ⟨v, fp0, k1, _, _, _⟩ := ok.tree (Fw.refl ok.gh) hi
  refine ⟨v, k1, ha G0 H0 G H σ ok _ fun vs G1 H1 a hvs => ?_⟩
  obtain ⟨v', fp, k1', k2, k3, k4, k5⟩ := ok.chg a hi
  rw [k1] at k1'
  cases k1'
  exact ⟨x, G1, v, vs, fp, by rw [List.append_nil], a.gh, k3, hvs, hp, fun w G2 H2 fp' fw ht hf hw => q w G2 H2 (a.gg.trans fw.gg) (k5 G2 H2 _ fp' fw ht hf) hw⟩
/-- o.m(..), o slot i's tree, an instance -/
theorem eu_methU {u : Option V} {x : α} {gs : List (Str × T)} {E' : XK} (hi : env[i]? = some (.tr u (t0 x))) (ho : t0 x = .o C gs) (hm : m ∉ gs.map (·.1)) (ha : EvA K t env (fs x)) (hp : pre x) : EvU K (tMeth C m (SpU K t0 fs pre t1 res) [] E' (tVar i) t) env (res x) (env.set i (.tr u (t1 x))) := fun G0 H0 G H σ ok Q q => by
  obtain ⟨v, fp0, k1, _, kt, _⟩ := ok.tree (Fw.refl ok.gh) hi
  rw [ho] at kt
  obtain ⟨b, dx, fs0, rfl, hb, hk⟩ : ∃ b dx fs0, v = .ref b ∧ H b = some (.ins C dx fs0) ∧ fs0.map (·.1) = gs.map (·.1) := by
    cases kt with
    | o g hb hk hs n => exact ⟨_, _, _, rfl, hb, hk⟩
  · refine ⟨_, k1, b, dx, fs0, rfl, hb, lookup_none hk hm, ha G0 H0 G H σ ok _ fun vs G1 H1 a hvs => ?_⟩
    obtain ⟨v', fp, k1', k2, k3, k4, k5⟩ := ok.chg a hi
    rw [k1] at k1'
    cases k1'
    exact ⟨x, G1, _, vs, fp, by rw [List.append_nil], a.gh, k3, hvs, hp, fun w G2 H2 fp' fw ht hf hw => q w G2 H2 (a.gg.trans fw.gg) (k5 G2 H2 _ fp' fw ht hf) hw⟩
/-- C(..).m(..), o a new instance that is then dropped -/
theorem ed_methNew {x : α} {gs : List (Str × T)} {E' : XK} (h : EvM K te env (t0 x)) (ho : t0 x = .o C gs) (hm : m ∉ gs.map (·.1)) (ha : EvA K t env (fs x)) (hp : pre x) : EvD K (tMeth C m (SpU K t0 fs pre t1 res) [] E' te t) env (res x) := fun G0 H0 G H σ ok Q q =>
  h G0 H0 G H σ ok _ fun v f G1 H1 a hf ht => by
    have ht0 := ht
    rw [ho] at ht
    obtain ⟨b, dx, fs0, rfl, hb, hk⟩ : ∃ b dx fs0, v = .ref b ∧ H1 b = some (.ins C dx fs0) ∧ fs0.map (·.1) = gs.map (·.1) := by
      cases ht with
      | o g hb hk hs n => exact ⟨_, _, _, rfl, hb, hk⟩
    · refine ⟨b, dx, fs0, rfl, hb, lookup_none hk hm, ha G0 H0 G1 H1 σ (ok.go a) _ fun vs G2 H2 a2 hvs => ⟨x, G2, _, vs, _, by rw [List.append_nil], a2.gh, ht0.fw a2, hvs, hp, fun w G3 H3 fp' fw ht hf' hw => q w G3 H3 ?_ hw⟩⟩
      have aa := a.trans a2
      refine ⟨aa.gg.trans fw.gg, fw.gh, fun y o e => fw.hh y o (by rw [cutH_out fun z => by rw [hf y z] at e; cases e]; exact aa.hh _ _ e), fun l hl gl => fw.fr l (by rw [cutH_out fun z => hl (hf l z)]; intro z; exact hl (aa.hh.free z)) (aa.fr l hl gl)⟩
/-- C(..) -/
theorem em_make {x : α} {E' : XK} (ha : EvA K t env (fs x)) (hp : pre x) : EvM K (tMake C (SpU K (fun _ => .o C []) fs pre t1 (fun _ => .none)) [] E' t) env (t1 x) := fun G0 H0 G H σ ok Q q =>
  ha G0 H0 G H σ ok _ fun vs G1 H1 a hvs y dx hy hdx hne => by
    have fw1 : Fw G1 H1 G1 (upd H1 dx (.own y)) := Fw.hid a.gh hdx
    have hy1 : (upd H1 dx (.own y)) y = none := by rw [upd_ne (Ne.symm hne)]; exact hy
    have fw2 : Fw G1 H1 G1 (upd (upd H1 dx (.own y)) y (.ins C dx [])) := fw1.trans (Fw.hid fw1.gh hy1)
    refine ⟨x, G1, .ref y, vs, [y], by rw [List.append_nil], fw2.gh, .o (a.gh.free hy) upd_same rfl .nil (by simp), hvs.fw fw2, hp, fun v G2 H2 fp' fw ht hf hv => ⟨hv.non_inv, q (.ref y) fp' G2 H2 ?_ (fun z hz => ?_) ht⟩⟩
    · refine ⟨a.gg.trans fw.gg, fw.gh, fun z o e => fw.hh z o ?_, fun l hl gl => fw.fr l ?_ (a.fr l hl gl)⟩
      · have e1 := a.hh _ _ e
        have z1 : z ≠ y := fun w => by rw [w, hy] at e1; cases e1
        have z2 : z ≠ dx := fun w => by rw [w, hdx] at e1; cases e1
        rw [cutH_out (by simpa using z1), upd_ne z1, upd_ne z2]
        exact e1
      · have z0 : H1 l ≠ none := fun w => hl (a.hh.free w)
        have z1 : l ≠ y := fun w => z0 (by rw [w]; exact hy)
        have z2 : l ≠ dx := fun w => z0 (by rw [w]; exact hdx)
        rw [cutH_out (by simpa using z1), upd_ne z1, upd_ne z2]
        exact z0
    · rcases hf z hz with w | w
      · rw [List.mem_singleton.mp w]; exact a.hh.free hy
      · by_cases z1 : z = y
        · rw [z1, upd_same] at w; cases w
        · by_cases z2 : z = dx
          · rw [z2]; exact a.hh.free hdx
          · rw [upd_ne z1, upd_ne z2] at w; exact a.hh.free w
/-- a new tree, published at once -/
theorem EvM.pd {t : T} (h : EvM K te env t) (hp : Pb t d) : EvD K te env d := fun G0 H0 G H σ ok Q q => h G0 H0 G H σ ok Q fun v f G1 H1 a hf ht => q v _ H1 (a.pubs (S := f) hf) (ht.pub a.gh (fun _ z => z) hp)
theorem EvM.is {t t' : T} (h : EvM K te env t) (e : t = t') : EvM K te env t' := e ▸ h
theorem run_pubT {t : T} {u : Option V} {r : RD} {s : TS} (i : Nat) (hi : env[i]? = some (.tr u t)) (hp : Pb t d) (h : Run K E s (env.set i (.dat d)) r) : Run K E s env r := fun G0 H0 G H σ D ok q => by
  obtain ⟨G', ok'⟩ := ok.publishT hi hp
  exact h G0 H0 G' H σ D ok' q
/-- an instance whose fields are data -/
theorem Pb.fields (C : Addr) (fs : List (Str × D)) : Pb (.o C (fs.map fun p => (p.1, T.d p.2))) (objD C fs) := .o (by rw [List.map_map]; rfl) (by rw [List.map_map]; have := Pbs.ds (fs.map (·.2)); rw [List.map_map] at this; exact this)
end
/-! ### while -/
theorem run_while {c : TT} {tb : TS} (Es : Nat → EnvD) (b : Nat → Bool) (n : Nat) (h0 : Less env (Es 0)) (ht : ∀ i, i < n → b i = true) (hn : b n = false) (hc : ∀ i, i ≤ n → EvT K c (Es i) (b i)) (hb : ∀ i, i < n → Turn1 K E tb (Es i) (Es (i + 1))) : Run K E (tWhile c tb) env (.nx (Es n)) := fun G0 H0 G H σ D ok q => by
  refine ⟨fun m σ2 H2 => ∃ i, i + m = n ∧ ∃ G2, Same G G2 ∧ Ok K G0 H0 G2 H2 σ2 (Es i), ⟨n, 0, by omega, G, Same.refl _, ok.less h0⟩, ?_⟩
  rintro m σ2 H2 ⟨i, him, G2, g2, ok2⟩
  refine hc i (by omega) G0 H0 G2 H2 σ2 ok2 _ fun G3 H3 a => ?_
  by_cases hlt : i < n
  · rw [ht i hlt]
    refine iteT ⟨fun σ' H' => ∃ G4, Same G G4 ∧ Ok K G0 H0 G4 H' σ' (Es (i + 1)), fun σ' H' ⟨G4, g4, ok4⟩ => ⟨m - 1, by omega, i + 1, by omega, G4, g4, ok4⟩, ?_⟩
    have ok3 := ok2.go a
    have g3 := g2.trans a.gg
    rcases hb i hlt with hr | hr
    · exact hr G3 H0 G3 H3 σ2 _ ok3.rebase fun G4 H4 σ4 ok4 => ⟨G4, g3.trans ok4.fw.gg, ok4.unbase ok3.fw⟩
    · exact hr G3 H0 G3 H3 σ2 _ ok3.rebase fun G4 H4 σ4 ok4 => ⟨G4, g3.trans ok4.fw.gg, ok4.unbase ok3.fw⟩
  · have e : i = n := by omega
    subst e
    rw [hn]
    exact iteF (q G3 H3 σ2 (ok2.go a))
end DL

/-! Dicts that are published (locked for good), moves, comprehensions over two. -/
namespace DL
open PySem L2
variable {K : PySem.W.Frag} {E : XK} {env env' e1 e2 : EnvD} {G H G' H' G1 H1 : Hp}
/-! ### locking -/
def tFrz (t : TS) : TS := fun D σ H => ∃ S, ∀ H', Frz H S H' → t D σ H'
def tFrzE (t : TE) : TE := fun σ H Q => t σ H fun v H1 => ∃ S, ∀ H', Frz H1 S H' → Q v H'
theorem mut_isDK {u : HO} (h : isDK (some u) = true) : Mut (some u) := by
  cases u with
  | dK _ => exact True.intro
  | dT _ => exact True.intro
  | _ => cases h
open Classical in
theorem inv_frz {X : Cx} {pins : List (Addr × Obj)} {σ : L2.St} {H : Hp} {s : Shared} (I : Inv X pins σ H s) : ∀ S : List Addr, ∃ H', Frz H S H' ∧ Inv X pins σ H' s
  | [] => ⟨H, ⟨fun _ _ => rfl, (fun _ h => by cases h), (fun _ h => by cases h)⟩, I⟩
  | a :: S => by
    obtain ⟨H1, f1, I1⟩ := inv_frz I S
    by_cases hm : a ∈ S
    · refine ⟨H1, ⟨fun x hx => f1.out x fun z => hx (List.mem_cons_of_mem _ z), fun x hx => ?_, fun x hx => ?_⟩, I1⟩
      · rcases List.mem_cons.mp hx with e | e
        · rw [e]; exact f1.yes a hm
        · exact f1.yes x e
      · rcases List.mem_cons.mp hx with e | e
        · rw [e]; exact f1.no a hm
        · exact f1.no x e
    · have e1 := f1.out a hm
      cases c : isDK (H a) with
      | false =>
        refine ⟨H1, ⟨fun x hx => f1.out x fun z => hx (List.mem_cons_of_mem _ z), fun x hx => ?_, fun x hx => ?_⟩, I1⟩
        · rcases List.mem_cons.mp hx with e | e
          · rw [e, c]; intro z; cases z
          · exact f1.yes x e
        · rcases List.mem_cons.mp hx with e | e
          · rw [e]; exact fun _ => e1
          · exact f1.no x e
      | true =>
        obtain ⟨u, hu⟩ : ∃ u, H a = some u := by
          cases q : H a with
          | none => rw [q] at c; cases c
          | some u => exact ⟨u, rfl⟩
        rw [hu] at c e1
        obtain ⟨od, I2⟩ := I1.lock e1 (mut_isDK c)
        refine ⟨_, ⟨fun x hx => ?_, fun x hx => ?_, fun x hx => ?_⟩, I2⟩
        · rw [upd_ne (fun z => hx (by rw [z]; exact List.mem_cons_self))]
          exact f1.out x fun z => hx (List.mem_cons_of_mem _ z)
        · rcases List.mem_cons.mp hx with e | e
          · rw [e]; exact fun _ => ⟨od, u, hu, upd_same⟩
          · rw [upd_ne (fun z => hm (by rw [← z]; exact e))]
            exact f1.yes x e
        · rcases List.mem_cons.mp hx with e | e
          · rw [e, hu, c]; intro z; cases z
          · rw [upd_ne (fun z => hm (by rw [← z]; exact e))]
            exact f1.no x e
theorem ps_frz {X : Cx} {st : Stmt} {t : TS} (h : PS X st t) : PS X st (tFrz t) := by
  refine ⟨fun pins s σ H D I hw => ?_⟩
  obtain ⟨S, hw⟩ := hw
  obtain ⟨H', f, I'⟩ := inv_frz I S
  exact h.run pins s σ H' D I' (hw H' f)
theorem pe_frz {X : Cx} {e : Expr} {t : TE} (h : PE X e t) : PE X e (tFrzE t) := by
  refine ⟨fun pins s σ H Q I hw => ?_⟩
  refine thn (h.run pins s σ H _ I hw) fun v s1 ⟨x, H1, I1, r, S, q⟩ => ?_
  obtain ⟨H', f, I'⟩ := inv_frz I1 S
  exact ⟨x, H', I', r, q H' f⟩
theorem ed_frz {te : TE} {t : T} {d : D} (h : EvM K te env t) (hp : Pf t d) : EvD K (tFrzE te) env d := fun G0 H0 G H σ ok Q q => h G0 H0 G H σ ok _ fun v f G1 H1 a hf ht => ⟨f, fun H' fz => by
  have gS : ∀ x ∈ f, G1 x = none := fun x hx => (ht.own x hx).1
  have gg : Same G1 (pubG G1 H' f) := fun x o e => by
    by_cases z : x ∈ f
    · rw [gS x z] at e; cases e
    · rw [pubG_out z]; exact e
  have gh : Same (pubG G1 H' f) H' := fun x o e => by
    by_cases z : x ∈ f
    · rw [pubG_in z] at e; exact e
    · rw [pubG_out z] at e; rw [fz.out x z]; exact a.gh _ _ e
  refine q v _ H' ⟨a.gg.trans gg, gh, fun x o e => ?_, fun l hl gl => by rw [pubG_out fun z => hl (hf l z)]; exact a.fr l hl gl⟩ (ht.pubF gg fz (fun _ z => z) hp)
  rw [fz.out x (fun z => by rw [hf x z] at e; cases e)]; exact a.hh _ _ e⟩
theorem run_frz {s : TS} {u : Option V} {t : T} {d : D} {r : RD} (i : Nat) (hi : env[i]? = some (.tr u t)) (hp : Pf t d) (h : Run K E s (env.set i (.dat d)) r) : Run K E (tFrz s) env r := fun G0 H0 G H σ D ok q => by
  obtain ⟨S, hS⟩ := ok.publishF hi hp
  refine ⟨S, fun H' fz => ?_⟩
  obtain ⟨G', ok'⟩ := hS H' fz
  exact h G0 H0 G' H' σ D ok' q
theorem frz_nil : Frz H [] H' → H' = H := fun f => funext fun a => f.out a (by simp)
theorem run_nofrz {s : TS} {r : RD} (h : Run K E s env r) : Run K E (tFrz s) env r := fun G0 H0 G H σ D ok q => ⟨[], fun H' f => by rw [frz_nil f]; exact h G0 H0 G H σ D ok q⟩
/-! ### new dicts -/
theorem em_dnew : EvM K tDNewK env (.m []) := fun G0 H0 G H σ ok Q q p hp => q _ [p] G _ (Fw.hid ok.gh hp) (fun x hx => by rw [List.mem_singleton.mp hx]; exact hp) (Tr.of_md (kvs := []) (ok.gh.free hp) upd_same rfl .nil)
theorem Kds.ofm {a : List (Key × V)} {b : List (Key × D)} (h : Kds K G a b) {p : Addr} (g : G p = none) (hp : H p = some (.dK a)) : Tr K G H (.ref p) (.m (b.map fun q => (q.1, T.d q.2))) [p] := Tr.of_md g hp h.keys h.vals
def mergeD (kvs more : List (Key × D)) : List (Key × D) := more.foldl (fun acc p => putD acc p.1 p.2) kvs
theorem Kds.merge : ∀ {a' : List (Key × V)} {b' : List (Key × D)} {a : List (Key × V)} {b : List (Key × D)}, Kds K G a' b' → Kds K G a b → Kds K G (mergeK a a') (mergeD b b')
  | _, _, _, _, .nil, h => h
  | _, _, _, _, .cons hv hs, h => hs.merge (h.put hv)
theorem mergeD_id : ∀ (more kvs : List (Key × D)), ((kvs ++ more).map (·.1)).Nodup → mergeD kvs more = kvs ++ more
  | [], kvs, _ => by simp [mergeD]
  | p :: more, kvs, h => by
    have e : putD kvs p.1 p.2 = kvs ++ [p] := by
      unfold putD
      rw [if_neg]
      intro z
      rw [List.any_eq_true] at z
      obtain ⟨q, hq, e⟩ := z
      rw [List.map_append, List.map_cons, List.nodup_append] at h
      exact h.2.2 q.1 (List.mem_map.mpr ⟨q, hq, rfl⟩) p.1 List.mem_cons_self (of_decide_eq_true e)
    show mergeD (putD kvs p.1 p.2) more = _
    rw [e, mergeD_id more (kvs ++ [p]) (by rw [List.append_assoc]; exact h), List.append_assoc]; rfl
/-- a pair as data -/
def prD (p : Key × D) : D := .tuple [keyD p.1, p.2]
theorem keyD_inv {v : V} {k : Key} (h : Dd K G v (keyD k)) : v = kV k := by
  cases k with
  | inl i => exact h.int_inv
  | inr x => exact h.str_inv
theorem pairs_at (gh : Same G H) : ∀ {vs : List V} {kvs : List (Key × D)}, Dds K G vs (kvs.map prD) → ∃ (ps : List Addr) (kv : List (Key × V)), vs = ps.map V.ref ∧ Paired (fun (p : Addr) (kv : Key × V) => SqT K H p [kV kv.1, kv.2]) ps kv ∧ Kds K G kv kvs
  | _, [], .nil => ⟨[], [], rfl, .nil, .nil⟩
  | _, (k, d) :: kvs, .cons h hs => by
    obtain ⟨ps, kv, e1, e2, e3⟩ := pairs_at gh hs
    obtain ⟨a, xs, e, hsq, hd⟩ := h.tup_inv
    subst e
    cases hd with
    | cons h1 h2 =>
      cases h2 with
      | cons h2 h3 =>
        cases h3
        rename_i v w
        obtain rfl := keyD_inv h1
        exact ⟨a :: ps, (k, w) :: kv, by rw [e1]; rfl, .cons (sqT_mono gh hsq) e2, .cons h2 e3⟩
abbrev rDictP (K : PySem.W.Frag) : List V → Hp → VK → Prop := fun xs H Q => ∃ (a : Addr) (ps : List Addr) (kvs : List (Key × V)), xs = [.ref a] ∧ SqL K H a (ps.map V.ref) ∧ Paired (fun p kv => SqT K H p [kV kv.1, kv.2]) ps kvs ∧ ∀ p, H p = none → Q (.ref p) (upd H p (.dK (mergeK [] kvs)))
theorem em_dictP {ta : TE} {kvs : List (Key × D)} (h : EvL K ta env (kvs.map prD)) : EvM K (tCB (rDictP K) (tCons ta tNil)) env (.m ((mergeD [] kvs).map fun p => (p.1, T.d p.2))) := fun G0 H0 G H σ ok Q q =>
  h G0 H0 G H σ ok _ fun p xs G1 H1 a hp hd => by
    obtain ⟨ps, kv, e1, e2, e3⟩ := pairs_at a.gh hd
    subst e1
    exact ⟨p, ps, kv, rfl, SqL.of hp, e2, fun b hb => q _ [b] G1 _ (a.trans (Fw.hid a.gh hb)) (fun x hx => by rw [List.mem_singleton.mp hx]; exact a.hh.free hb) ((e3.merge .nil).ofm (a.gh.free hb) upd_same)⟩
/-! ### reading published dicts -/
section
variable {ta ty tx : TE} {kvs : List (Key × D)} {n : Int} {d z : D}
theorem dct_kds {v : V} {a : List (Key × D)} (h : Dd K G v (dictD a)) : ∃ p kv ob, v = .ref p ∧ G p = some (.frz ob (.dK kv)) ∧ Kds K G kv a := by
  obtain ⟨p, kv, e, ⟨ob, h1⟩, h2, h3⟩ := h.dct_inv
  exact ⟨p, kv, ob, e, h1, Kds.of h2 h3⟩
theorem dgetF {H : Hp} {p : Addr} {ob : Obj} {kv : List (Key × V)} {k : Key} (h : H p = some (.frz ob (.dK kv))) : DGet H p (kV k) (valV kv k) := .inl ⟨kv, k, .inr ⟨ob, h⟩, rfl, rfl⟩
theorem ed_pget (ha : EvD K ta env (dictD kvs)) (hy : EvD K ty env (.int n)) (hz : lkD kvs (.inl n) = some d) : EvD K (tDGet ta ty) env d := fun G0 H0 G H σ ok Q q =>
  ha G0 H0 G H σ ok _ fun v G1 H1 a hv => hy G0 H0 G1 H1 σ (ok.go a) _ fun u G2 H2 a2 hu => by
    obtain ⟨p, kv, ob, e, h1, h2⟩ := dct_kds hv
    subst e
    rcases (h2.mono a2.gg).lk (k := .inl n) with ⟨e1, e2⟩ | ⟨v', d', e1, e2, e3⟩
    · rw [hz] at e2; cases e2
    · rw [hz] at e2; cases e2
      exact ⟨p, v', rfl, by rw [hu.int_inv, ← e1]; exact dgetF (k := .inl n) (a2.hh _ _ (a.gh _ _ h1)), q v' G2 H2 (a.trans a2) e3⟩
theorem ed_pget2 (ha : EvD K ta env (dictD kvs)) (hy : EvD K ty env (.int n)) (hx : EvD K tx env z) : EvD K (tDGet2 ta ty tx) env ((lkD kvs (.inl n)).getD z) := fun G0 H0 G H σ ok Q q =>
  ha G0 H0 G H σ ok _ fun v G1 H1 a hv => by
    obtain ⟨p, kv, ob, e, h1, h2⟩ := dct_kds hv
    subst e
    refine ⟨p, rfl, .inl ⟨kv, .inr ⟨ob, a.gh _ _ h1⟩⟩, hy G0 H0 G1 H1 σ (ok.go a) _ fun u G2 H2 a2 hu => hx G0 H0 G2 H2 σ ((ok.go a).go a2) _ fun w G3 H3 a3 hw => ?_⟩
    refine ⟨valV kv (.inl n), by rw [hu.int_inv]; exact dgetF (k := .inl n) ((a2.trans a3).hh _ _ (a.gh _ _ h1)), ?_⟩
    rcases (h2.mono (a2.trans a3).gg).lk (k := .inl n) with ⟨e1, e2⟩ | ⟨v', d', e1, e2, e3⟩
    · rw [e1]
      exact q w G3 H3 ((a.trans a2).trans a3) (by rw [e2]; exact hw)
    · rw [e1]
      exact q v' G3 H3 ((a.trans a2).trans a3) (by rw [e2]; exact e3)
theorem ed_pin (hy : EvD K ty env (.int n)) (ha : EvD K ta env (dictD kvs)) : EvD K (tDIn ty ta) env (.bool (lkD kvs (.inl n)).isSome) := fun G0 H0 G H σ ok Q q =>
  hy G0 H0 G H σ ok _ fun u G1 H1 a hu => ha G0 H0 G1 H1 σ (ok.go a) _ fun v G2 H2 a2 hv => by
    obtain ⟨p, kv, ob, e, h1, h2⟩ := dct_kds hv
    subst e
    refine ⟨p, valV kv (.inl n), rfl, by rw [hu.int_inv]; exact dgetF (k := .inl n) (a2.gh _ _ h1), ?_⟩
    have eb : (valV kv (.inl n)).isSome = (lkD kvs (.inl n)).isSome := by
      rcases h2.lk (k := .inl n) with ⟨e1, e2⟩ | ⟨v', d', e1, e2, e3⟩
      · rw [e1, e2]; rfl
      · rw [e1, e2]; rfl
    rw [eb]
    exact q _ G2 H2 (a.trans a2) (.bl _)
/-- the walks over it -/
theorem kds_get {a : List (Key × V)} {b : List (Key × D)} (h : Kds K G a b) {i : Nat} {k : Key} {d : D} (hi : b[i]? = some (k, d)) : ∃ v, a[i]? = some (k, v) ∧ Dd K G v d := by
  induction h generalizing i with
  | nil => simp at hi
  | cons hv hs ih =>
    cases i with
    | zero => simp at hi; obtain ⟨e1, e2⟩ := hi; subst e1; subst e2; exact ⟨_, rfl, hv⟩
    | succ i => simpa using ih (by simpa using hi)
theorem ei_items (ha : EvD K ta env (dictD kvs)) : EvI K (iItems ta) env (kvs.map prD) := fun G0 H0 G H σ ok R q =>
  ha G0 H0 G H σ ok _ fun v G1 H1 a hv => by
    obtain ⟨p, kv, ob, e, h1, h2⟩ := dct_kds hv
    subst e
    refine ⟨p, ob, kv, rfl, a.gh _ _ h1, q _ G1 H1 a ⟨fun G2 H2 g1 g2 => ⟨g2 _ _ (g1 _ _ h1), by rw [List.length_map, h2.len]; exact Nat.le_refl _⟩, fun i d G2 H2 hi g1 g2 => ?_⟩⟩
    rw [List.getElem?_map] at hi
    obtain ⟨⟨k, d0⟩, hk, rfl⟩ := Option.map_eq_some_iff.mp hi
    obtain ⟨w, w1, w2⟩ := kds_get h2 hk
    refine ⟨⟨g2 _ _ (g1 _ _ h1), (List.getElem?_eq_some_iff.mp w1).1⟩, fun x H' hy => ?_⟩
    obtain ⟨T0, k', v', e1, rfl, hT, rfl⟩ := hy
    rw [w1] at e1
    cases e1
    have fw := Fw.new (o := .tup [kV k, w]) g2 hT
    refine ⟨_, fw, .tup (.inl (.inl upd_same)) (.cons ?_ (.cons ((w2.mono g1).mono fw.gg) .nil))⟩
    cases k with
    | inl i => exact .int i
    | inr x => exact .str x
theorem ei_keys (ha : EvD K ta env (dictD kvs)) : EvI K (iKeys ta) env (kvs.map fun p => keyD p.1) := fun G0 H0 G H σ ok R q =>
  ha G0 H0 G H σ ok _ fun v G1 H1 a hv => by
    obtain ⟨p, kv, ob, e, h1, h2⟩ := dct_kds hv
    subst e
    refine ⟨p, ob, rfl, .inl ⟨kv, a.gh _ _ h1, q _ G1 H1 a ⟨fun G2 H2 g1 g2 => ⟨g2 _ _ (g1 _ _ h1), by rw [List.length_map, h2.len]; exact Nat.le_refl _⟩, fun i d G2 H2 hi g1 g2 => ?_⟩⟩⟩
    rw [List.getElem?_map] at hi
    obtain ⟨⟨k, d0⟩, hk, rfl⟩ := Option.map_eq_some_iff.mp hi
    obtain ⟨w, w1, w2⟩ := kds_get h2 hk
    refine ⟨⟨g2 _ _ (g1 _ _ h1), (List.getElem?_eq_some_iff.mp w1).1⟩, fun x H' hy => ?_⟩
    obtain ⟨e0, k', v', e1, rfl⟩ := hy
    subst e0
    rw [w1] at e1
    cases e1
    refine ⟨G2, Fw.refl g2, ?_⟩
    cases k with
    | inl i => exact .int i
    | inr x => exact .str x
end
/-! ### a tree goes to another slot -/
theorem run_move {i j : Nat} {u : Option V} {t : T} (hij : i ≠ j) (hj : env[j]? = some (.tr u t)) : Run K E (tAsg (tVar j) (gName i)) env (.nx ((env.set j .un).set i (.tr u t))) := fun G0 H0 G H σ D ok q => by
  obtain ⟨F, hs⟩ := ok.ex
  obtain ⟨o, h1, v, e, hu, h2⟩ := hs.sl j _ hj
  subst e
  refine ⟨v, h1, q G H _ ⟨ok.gh, ok.fw, by rw [List.length_set, List.length_set, List.length_set]; exact ok.len, fun k => if k = i then F j else if k = j then [] else F k, fun k s hk => ?_, fun k a ha => ?_, fun k l a hkl ha hb => ?_, fun k a ha => ?_⟩⟩
  · rcases get_set hk with ⟨e, hl, e2⟩ | ⟨e, h3⟩
    · subst e; subst e2
      refine ⟨some v, by rw [List.getElem?_set_self (by rw [ok.len]; rw [List.length_set] at hl; exact hl)], ?_⟩
      rw [if_pos rfl]
      exact ⟨v, rfl, hu, h2⟩
    · rw [if_neg (Ne.symm e), List.getElem?_set_ne e]
      rcases get_set h3 with ⟨e4, hl, e5⟩ | ⟨e4, h5⟩
      · subst e4; subst e5
        rw [if_pos rfl]
        exact ⟨_, h1, rfl, trivial⟩
      · rw [if_neg (Ne.symm e4)]
        exact hs.sl k s h5
  · split at ha
    · exact hs.fresh _ _ ha
    · split at ha
      · cases ha
      · exact hs.fresh _ _ ha
  · by_cases e1 : k = i
    · rw [if_pos e1] at ha
      rw [if_neg (fun z => hkl (e1.trans z.symm))] at hb
      split at hb
      · cases hb
      · exact hs.apart j l a (fun z => by rename_i q; exact q z.symm) ha hb
    · rw [if_neg e1] at ha
      split at ha
      · cases ha
      · rename_i hkj
        by_cases e2 : l = i
        · rw [if_pos e2] at hb; exact hs.apart k j a hkj ha hb
        · rw [if_neg e2] at hb
          split at hb
          · cases hb
          · exact hs.apart k l a hkl ha hb
  · split at ha
    · exact hs.inn _ _ ha
    · split at ha
      · cases ha
      · exact hs.inn _ _ ha
/-! ### [e for x in xs for y in ys] -/
theorem flat_le2 {α : Type} {zss : List (List α)} {i : Nat} {zs : List α} (h : zss[i]? = some zs) : (zss.take i).flatten.length + zs.length ≤ zss.flatten.length := flat_le h
/-- a target whose slots stay so while the heap goes on -/
def EvGp (K : PySem.W.Frag) (g : TG) (ts : List Nat) (env : EnvD) (d : D) (env' : EnvD) : Prop := ∀ (G H : Hp) (σ : L2.St) (v : V) (Nx : L2.St → Hp → Prop), Same G H → Dd K G v d → (∀ σ', Sets ts σ σ' → (∀ (G0 H0 G' H' : Hp), Same G G' → Ok K G0 H0 G' H' σ env → Ok K G0 H0 G' H' σ' env') → Nx σ' H) → g v σ H Nx
def EvGps (K : PySem.W.Frag) (g : TGs) (ts : List Nat) (env : EnvD) (ds : List D) (env' : EnvD) : Prop := ∀ (G H : Hp) (σ : L2.St) (vs : List V) (Nx : L2.St → Hp → Prop), Same G H → Dds K G vs ds → (∀ σ', Sets ts σ σ' → (∀ (G0 H0 G' H' : Hp), Same G G' → Ok K G0 H0 G' H' σ env → Ok K G0 H0 G' H' σ' env') → Nx σ' H) → g vs σ H Nx
theorem EvGp.g {g : TG} {ts : List Nat} {d : D} (h : EvGp K g ts env d env') : EvG K g ts env d env' := fun G0 H0 G H σ v Nx ok hv q => h G H σ v Nx ok.gh hv fun σ' s f => q σ' s (f G0 H0 G H (Same.refl _) ok)
theorem egp_name {ts : List Nat} {i : Nat} {d : D} (h : i ∈ ts) : EvGp K (gName i) ts env d (env.set i (.dat d)) := fun G H σ v Nx gh hv q => q _ (Sets.set h) fun G0 H0 G' H' e ok => ok.set i rfl ⟨v, rfl, hv.mono e⟩
theorem egps_nil {ts : List Nat} : EvGps K gNil ts env [] env := fun G H σ vs Nx gh hv q => by
  cases hv
  exact ⟨rfl, q σ (Sets.refl _ _) fun _ _ _ _ _ ok => ok⟩
theorem egps_cons {ts : List Nat} {g : TG} {gs : TGs} {d : D} {ds : List D} (h : EvGp K g ts env d e1) (hs : EvGps K gs ts e1 ds e2) : EvGps K (gCons g gs) ts env (d :: ds) e2 := fun G H σ vs Nx gh hv q => by
  cases hv with
  | cons a b => exact ⟨_, _, rfl, h G H σ _ _ gh a fun σ1 s1 f1 => hs G H σ1 _ _ gh b fun σ2 s2 f2 => q σ2 (s1.trans s2) fun G0 H0 G' H' e ok => f2 G0 H0 G' H' e (f1 G0 H0 G' H' e ok)⟩
theorem egp_tup {ts : List Nat} {n : Nat} {gs : TGs} {ds : List D} (h : EvGps K gs ts env ds env') (hn : ds.length = n) : EvGp K (gTup K n gs) ts env (.tuple ds) env' := fun G H σ v Nx gh hv q => by
  obtain ⟨a, xs, e, hs, hd⟩ := hv.tup_inv
  subst e
  exact ⟨a, xs, rfl, sqT_mono gh hs, by rw [hd.len]; exact hn, h G H σ xs Nx gh hd q⟩
theorem en_lc2G {wi wi1 : TI} {te : TE} {g g1 : TG} {vs vs1 ts ts1 : List Nat} {ds : List D} (zss : List (List D)) (hi : EvI K wi env ds) (ht : ∀ i ∈ ts, i ∈ vs) (ht1 : ∀ i ∈ ts1, i ∈ vs1) (hl : zss.length = ds.length)
    (h : ∀ (i : Nat) (d : D) (zs : List D), ds[i]? = some d → zss[i]? = some zs → ∃ (em : EnvD) (es : List D), EvGp K g ts (wipeD env vs) d em ∧ EvI K wi1 em es ∧ es.length = zs.length ∧ ∀ (j : Nat) (e z : D), es[j]? = some e → zs[j]? = some z → ∃ en, EvG K g1 ts1 (wipeD em vs1) e en ∧ EvD K te en z)
    (hlen : zss.flatten.length ≤ 10000000) : EvN K (tLc2 wi g tYes wi1 g1 tYes te vs vs1) env zss.flatten := fun G0 H0 G H σ ok Q q =>
  hi G0 H0 G H σ ok _ fun J G1 H1 a wk Dl hD => by
    have fr1 : Fw G H G1 (upd H1 Dl (.lst [])) := a.trans (Fw.hid a.gh hD)
    have hDH : H Dl = none := a.hh.free hD
    refine ⟨fun i m H2 => i + m = ds.length ∧ ∃ (G2 : Hp) (acc : List V), Same G1 G2 ∧ Fw G H G2 H2 ∧ G2 Dl = none ∧ H2 Dl = some (.lst acc) ∧ Dds K G2 acc (zss.take i).flatten, ⟨ds.length, Nat.zero_add _, G1, [], Same.refl _, fr1, a.gh.free hD, upd_same, .nil⟩, ?_⟩
    rintro i m H2 ⟨him, G2, acc, g12, f2, gD, hDl, hacc⟩
    by_cases hlt : i < ds.length
    · have hd := List.getElem?_eq_getElem hlt
      have hzs : zss[i]? = some zss[i] := List.getElem?_eq_getElem (by omega)
      generalize zss[i] = zs at hzs
      obtain ⟨em, es, hg, hi1, hel, hte⟩ := h i _ _ hd hzs
      obtain ⟨hgo, hy⟩ := wk.go i _ G2 H2 hd g12 f2.gh
      refine .inr ⟨hgo, fun H' => ∃ (G3 : Hp) (acc : List V), Same G1 G3 ∧ Fw G H G3 H' ∧ G3 Dl = none ∧ H' Dl = some (.lst acc) ∧ Dds K G3 acc (zss.take (i + 1)).flatten, fun H' hN => ⟨m - 1, by omega, by omega, hN⟩, fun x H3 hx => ?_⟩
      obtain ⟨G3, a3, hx3⟩ := hy x H3 hx
      have f3 := f2.trans a3
      have hDne : H2 Dl ≠ none := by rw [hDl]; simp
      refine hg G3 H3 _ x _ f3.gh hx3 fun σ2 s2 per => ⟨wipe_sets s2 ht, ?_⟩
      refine hi1 G0 H0 G3 H3 _ (per _ _ _ _ (Same.refl _) ((ok.go f3).wipe vs)) _ fun J1 G5 H5 a5 wk1 => ?_
      have f5 := f3.trans a5
      refine ⟨fun j k H6 => j + k = es.length ∧ ∃ (G6 : Hp) (acc : List V), Same G5 G6 ∧ Fw G H G6 H6 ∧ G6 Dl = none ∧ H6 Dl = some (.lst acc) ∧ Dds K G6 acc ((zss.take i).flatten ++ zs.take j), ⟨es.length, Nat.zero_add _, G5, acc, Same.refl _, f5, (a3.trans a5).fr Dl hDne gD, (a3.trans a5).hh _ _ hDl, by rw [List.take_zero, List.append_nil]; exact hacc.mono (a3.trans a5).gg⟩, ?_⟩
      rintro j k H6 ⟨hjk, G6, acc6, g56, f6, gD6, hDl6, hacc6⟩
      by_cases hj : j < es.length
      · have he := List.getElem?_eq_getElem hj
        have hz : zs[j]? = some (zs[j]'(by omega)) := List.getElem?_eq_getElem (by omega)
        generalize zs[j]'(by omega) = z at hz
        obtain ⟨hgo1, hy1⟩ := wk1.go j _ G6 H6 he g56 f6.gh
        refine .inr ⟨hgo1, fun H' => ∃ (G7 : Hp) (acc : List V), Same G5 G7 ∧ Fw G H G7 H' ∧ G7 Dl = none ∧ H' Dl = some (.lst acc) ∧ Dds K G7 acc ((zss.take i).flatten ++ zs.take (j + 1)), fun H' hN => ⟨k - 1, by omega, by omega, hN⟩, fun y H7 hy7 => ?_⟩
        obtain ⟨G7, a7, hy7⟩ := hy1 y H7 hy7
        have f7 := f6.trans a7
        obtain ⟨en, hg1, hen⟩ := hte j _ _ he hz
        have ok7 := per _ _ _ _ ((a5.gg.trans g56).trans a7.gg) ((ok.go f7).wipe vs)
        refine hg1 G0 H0 G7 H7 _ y _ (ok7.wipe vs1) hy7 fun σ3 s3 ok3 => ⟨wipe_sets s3 ht1, ?_⟩
        refine hen G0 H0 G7 H7 _ ok3 _ fun u G8 H8 a8 hu => ?_
        have a68 := a7.trans a8
        have hne6 : H6 Dl ≠ none := by rw [hDl6]; simp
        have g8 : G8 Dl = none := a68.fr Dl hne6 gD6
        refine ⟨acc6, a68.hh _ _ hDl6, ?_, G8, acc6 ++ [u], g56.trans a68.gg, ⟨(f6.trans a68).gg, same_upd2 a68.gh g8, fun b o e => by rw [upd_ne (ne_of_none e hDH)]; exact (f6.trans a68).hh _ _ e, (f6.trans a68).fr⟩, g8, upd_same, ?_⟩
        · have := flat_le hzs
          rw [hacc6.len, List.length_append, List.length_take, sizeLine_eq]; omega
        · rw [List.take_add_one, hz, Option.toList_some, ← List.append_assoc]
          exact (hacc6.mono a68.gg).append (.cons hu .nil)
      · have e : j = es.length := by omega
        subst e
        refine .inl ⟨wk1.stop G6 H6 g56 f6.gh, G6, acc6, (g12.trans (a3.trans a5).gg).trans g56, f6, gD6, hDl6, ?_⟩
        rw [hel, List.take_length] at hacc6
        rw [take_flat hzs]; exact hacc6
    · have e : i = ds.length := by omega
      subst e
      rw [← hl, List.take_length] at hacc
      exact .inl ⟨wk.stop G2 H2 g12 f2.gh, q Dl acc G2 H2 f2 hDH gD hDl hacc⟩
end DL

/-! Classes called, promises with several errors, tries around one call, x += e. -/
namespace DL
open PySem L2
variable {K : PySem.W.Frag} {E : XK} {env env' e1 e2 : EnvD} {G H G' H' G1 H1 : Hp}
/-! ### classes -/
/-- C(..) -/
def CalleeM (P : Program) (w : World) (K : PySem.W.Frag) (mg : Str → Option Value) (base : Heap) (CX : CXT) (k : Nat) (x : Str) (C : Addr) (ps : List Str) (sp : Sp) : Prop :=
  ∃ f fd, FnOk P w K mg base CX k f fd ps sp ∧ mg x = some (.ref C) ∧ Mk K C f ∧ Binds K fd ps []
/-- o.m(..) -/
def CalleeO (P : Program) (w : World) (K : PySem.W.Frag) (mg : Str → Option Value) (base : Heap) (CX : CXT) (k : Nat) (C : Addr) (m : Str) (ps : List Str) (sp : Sp) : Prop :=
  ∃ f fd, FnOk P w K mg base CX k f fd ps sp ∧ Cls K C ∧ Meth K C m f ∧ Binds K fd ps []
section
variable {X : Cx} {CX : CXT} {k : Nat} {ps : List Str} {sp : Sp} {x m : Str} {C : Addr} {p pos apos : Pos} {e o : Expr} {es : List Expr} {t : TA} {ta : TE}
theorem pe_mk (M : CalleeM X.prog X.w X.K X.mg X.base CX k x C ps sp) (hr : Room (k + 1) X.A) (hx : Passes CX X E) (ha : PA X (e :: es) t) (hg : Gl X x := by rfl) (hdb : (x == ("__debug__" : Str)) = false := by decide)
    (he : starEach (e :: es) X.env = (false, eval e X.env) :: starEach es X.env := by rfl) (hpl : (backTo pos (starEach es X.env)).any (·.1) = false := by rfl) : PE X (.Call (.Name x p) (e :: es) [] pos) (tMake C sp [] E t) := by
  obtain ⟨f, fd, F, m, M, b⟩ := M
  exact pe_make M F hr hg m b .nil hx ha hdb he hpl
theorem pe_mt {pl : Sem Bool} (ho : PE X o ta) (M : CalleeO X.prog X.w X.K X.mg X.base CX k C m ps sp) (hr : Room k X.A) (hx : Passes CX X E) (ha : PA X (e :: es) t)
    (hst : starEach (e :: es) X.env = (false, eval e X.env) :: starEach es X.env := by rfl) (hpl : (backTo pos (starEach es X.env)).any (·.1) = false := by rfl)
    (ht : eval (.Call (.Attribute o m apos) (e :: es) [] pos) X.env = (do
      let ov ← eval o X.env
      standAt apos.atName
      let (f, first) ← holding [ov] (getMethod ov m pl)
      callWith pos f first (backTo pos (starEach (e :: es) X.env)) (backToKw pos (keywordEach [] X.env))) := by rfl) :
    PE X (.Call (.Attribute o m apos) (e :: es) [] pos) (tMeth C m sp [] E ta t) := by
  obtain ⟨f, fd, F, c, M, b⟩ := M
  exact pe_meth ho c M F hr b .nil hx ha hst hpl ht
theorem pe_mt0 {pl : Sem Bool} (ho : PE X o ta) (M : CalleeO X.prog X.w X.K X.mg X.base CX k C m ps sp) (hr : Room k X.A) (hx : Passes CX X E)
    (ht : eval (.Call (.Attribute o m apos) [] [] pos) X.env = (do
      let ov ← eval o X.env
      standAt apos.atName
      let (f, first) ← holding [ov] (getMethod ov m pl)
      callWith pos f first (backTo pos (starEach [] X.env)) (backToKw pos (keywordEach [] X.env))) := by rfl) :
    PE X (.Call (.Attribute o m apos) [] [] pos) (tMeth C m sp [] E ta tNil) := by
  obtain ⟨f, fd, F, c, M, b⟩ := M
  exact pe_meth0 ho c M F hr b .nil hx ht
end
/-! ### several errors -/
inductive Rs
  | ok (d : D)
  | er (c : Value)
section
variable {α : Type} {fs : α → List SD} {pre : α → Prop} {res : α → Rs} {t : TA} {te : TE} {ss : List SD} {W : WX} {i : Nat} {ts ts2 : Addr → Value → Option Addr → TS} {c c2 C : Value} {Wout : WX}
/-- hands back data, or raises an error of one of several classes -/
def SpE (K : PySem.W.Frag) (fs : α → List SD) (pre : α → Prop) (res : α → Rs) : Sp := fun vs H Q E => ∃ (x : α) (G : Hp), Same G H ∧ Args K G H vs (fs x) ∧ pre x ∧
  (∀ d, res x = .ok d → ∀ v G' H', Fw G H G' H' → Dd K G' v d → Q v H') ∧ (∀ c, res x = .er c → ∀ G' H', Fw G H G' H' → E c none H')
theorem ed_callE {x : α} {d : D} {E' : XK} (h : EvA K t env ss) (e : ss = fs x) (hp : pre x) (hd : res x = .ok d) : EvD K (tCall (SpE K fs pre res) [] E' t) env d := fun G0 H0 G H σ ok Q q =>
  h G0 H0 G H σ ok _ fun vs G1 H1 a hv => ⟨x, G1, a.gh, by rw [List.append_nil, ← e]; exact hv, hp, fun d' hd' v G2 H2 a2 hv2 => q v G2 H2 (a.trans a2) (by rw [hd] at hd'; cases hd'; exact hv2), fun c z => by rw [hd] at z; cases z⟩
theorem run_dropE {x : α} (h : EvA K t env ss) (e : ss = fs x) (hp : pre x) (hn : res x = .er C) : Run K E (tDrop (tCall (SpE K fs pre res) [] E t)) env (.ex C) := fun G0 H0 G H σ D ok q =>
  h G0 H0 G H σ ok _ fun vs G1 H1 a hv => ⟨x, G1, a.gh, by rw [List.append_nil, ← e]; exact hv, hp, fun z hz => (by rw [hn] at hz; cases hz), fun c' hc G2 H2 a2 => by rw [hn] at hc; cases hc; exact q G2 H2 ((ok.fw.trans a).trans a2)⟩
theorem run_retE {x : α} (h : EvA K t env ss) (e : ss = fs x) (hp : pre x) (hn : res x = .er C) : Run K E (tRet (tCall (SpE K fs pre res) [] E t)) env (.ex C) := fun G0 H0 G H σ D ok q =>
  h G0 H0 G H σ ok _ fun vs G1 H1 a hv => ⟨x, G1, a.gh, by rw [List.append_nil, ← e]; exact hv, hp, fun z hz => (by rw [hn] at hz; cases hz), fun c' hc G2 H2 a2 => by rw [hn] at hc; cases hc; exact q G2 H2 ((ok.fw.trans a).trans a2)⟩
/-! a call in a try's body -/
theorem ev_callS {x : α} {G0 H0 G H : Hp} {σ : L2.St} {Q : VK} (ok : Ok K G0 H0 G H σ env) (h : EvA K t env ss) (e : ss = fs x) (hp : pre x) (q1 : ∀ d, res x = .ok d → ∀ v G' H', Fw G H G' H' → Dd K G' v d → Q v H') (q2 : ∀ c, res x = .er c → ∀ G' H', Fw G H G' H' → W c none σ H') :
    tCallS (SpE K fs pre res) (WE W) t σ H Q := h G0 H0 G H σ ok _ fun vs G1 H1 a hv => ⟨x, G1, a.gh, by rw [← e]; exact hv, hp, fun d hd v G2 H2 a2 hv2 => q1 d hd v G2 H2 (a.trans a2) hv2, fun c hc G2 H2 a2 => q2 c hc G2 H2 (a.trans a2)⟩
theorem Post.setNone {D0 : Ends} {r : RD} {G0 H0 : Hp} (q : Post K E G0 H0 D0 r) (hr : ∀ e, r ≠ .nx e) (hr2 : ∀ e, r ≠ .bk e) (hr3 : ∀ e, r ≠ .ct e) : Post K E G0 H0 { nx := fun σ' H' => D0.nx (σ'.set i none) H', rt := D0.rt, bk := fun σ' H' => D0.bk (σ'.set i none) H', ct := fun σ' H' => D0.ct (σ'.set i none) H' } r := by
  cases r with
  | nx e => exact absurd rfl (hr e)
  | bk e => exact absurd rfl (hr2 e)
  | ct e => exact absurd rfl (hr3 e)
  | rt d => exact q
  | rn d => exact q
  | ex d => exact q
  | rm _ _ _ => exact q
/-- try: return f(..), f hands back -/
theorem run_tryRet {WW : Ends → WX} {x : α} {d : D} (h : EvA K t env ss) (e : ss = fs x) (hp : pre x) (hd : res x = .ok d) : Run K E (fun D σ H => tRet (tCallS (SpE K fs pre res) (WE (WW D)) t) D σ H) env (.rt d) := fun G0 H0 G H σ D ok q =>
  ev_callS ok h e hp (fun d' hd' v G1 H1 a hv => q v G1 H1 (ok.fw.trans a) (by rw [hd] at hd'; cases hd'; exact hv)) fun c z => by rw [hd] at z; cases z
theorem run_tryRetAs {x : α} {d : D} (h : EvA K t env ss) (e : ss = fs x) (hp : pre x) (hn : res x = .er C) (hm : PySem.W.exmOne K C c = some true) (hs : ∀ a, Run K E (ts a C none) (env.set i (.raw (.ref a))) (.rt d)) :
    Run K E (fun D σ H => tRet (tCallS (SpE K fs pre res) (WE (wAs K c i ts Wout D)) t) D σ H) env (.rt d) := fun G0 H0 G H σ D ok q =>
  ev_callS ok h e hp (fun d' hd' => by rw [hn] at hd'; cases hd') fun c' hc G1 H1 a => by
    rw [hn] at hc
    cases hc
    exact ⟨true, hm, fun _ b _ => hs b G0 H0 G1 H1 _ _ ((ok.go a).set i rfl rfl) (Post.setNone q (fun _ z => nomatch z) (fun _ z => nomatch z) (fun _ z => nomatch z)), fun z => nomatch z⟩
/-- try: return f(..) except c: suite except c2: suite2 -/
theorem run_tryRetM1 {x : α} {d : D} {l : List (Value × (Addr → Value → Option Addr → TS))} (h : EvA K t env ss) (e : ss = fs x) (hp : pre x) (hn : res x = .er C) (hm : PySem.W.exmOne K C c = some true) (hs : ∀ a, Run K E (ts a C none) env (.rt d)) :
    Run K E (fun D σ H => tRet (tCallS (SpE K fs pre res) (WE (wMany K Wout D ((c, ts) :: l))) t) D σ H) env (.rt d) := fun G0 H0 G H σ D ok q =>
  ev_callS ok h e hp (fun d' hd' => by rw [hn] at hd'; cases hd') fun c' hc G1 H1 a => by
    rw [hn] at hc
    cases hc
    exact ⟨true, hm, fun _ b _ => hs b G0 H0 G1 H1 _ _ (ok.go a) q, fun z => nomatch z⟩
theorem run_tryRetM2 {x : α} {d : D} {l : List (Value × (Addr → Value → Option Addr → TS))} (h : EvA K t env ss) (e : ss = fs x) (hp : pre x) (hn : res x = .er C) (hm1 : PySem.W.exmOne K C c = some false) (hm : PySem.W.exmOne K C c2 = some true) (hs : ∀ a, Run K E (ts2 a C none) env (.rt d)) :
    Run K E (fun D σ H => tRet (tCallS (SpE K fs pre res) (WE (wMany K Wout D ((c, ts) :: (c2, ts2) :: l))) t) D σ H) env (.rt d) := fun G0 H0 G H σ D ok q =>
  ev_callS ok h e hp (fun d' hd' => by rw [hn] at hd'; cases hd') fun c' hc G1 H1 a => by
    rw [hn] at hc
    cases hc
    exact ⟨false, hm1, (fun z => nomatch z), fun _ => ⟨true, hm, fun _ b _ => hs b G0 H0 G1 H1 _ _ (ok.go a) q, fun z => nomatch z⟩⟩
/-- try: f(..) except c: suite (f raises) -/
theorem run_tryDropO {x : α} {r : RD} (h : EvA K t env ss) (e : ss = fs x) (hp : pre x) (hn : res x = .er C) (hm : PySem.W.exmOne K C c = some true) (hs : ∀ a, Run K E (ts a C none) env r) :
    Run K E (fun D σ H => tDrop (tCallS (SpE K fs pre res) (WE (wOnly K c ts Wout D)) t) D σ H) env r := fun G0 H0 G H σ D ok q =>
  ev_callS ok h e hp (fun d' hd' => by rw [hn] at hd'; cases hd') fun c' hc G1 H1 a => by
    rw [hn] at hc
    cases hc
    exact ⟨true, hm, fun _ b _ => hs b G0 H0 G1 H1 _ _ (ok.go a) q, fun z => nomatch z⟩
/-- try: x = f(..) except c: suite (f raises) -/
theorem run_tryAsgO {x : α} {r : RD} {j : Nat} (h : EvA K t env ss) (e : ss = fs x) (hp : pre x) (hn : res x = .er C) (hm : PySem.W.exmOne K C c = some true) (hs : ∀ a, Run K E (ts a C none) env r) :
    Run K E (fun D σ H => tAsg (tCallS (SpE K fs pre res) (WE (wOnly K c ts Wout D)) t) (gName j) D σ H) env r := fun G0 H0 G H σ D ok q =>
  ev_callS ok h e hp (fun d' hd' => by rw [hn] at hd'; cases hd') fun c' hc G1 H1 a => by
    rw [hn] at hc
    cases hc
    exact ⟨true, hm, fun _ b _ => hs b G0 H0 G1 H1 _ _ (ok.go a) q, fun z => nomatch z⟩
/-- try: x = f(..), f hands back -/
theorem run_tryAsg {WW : Ends → WX} {x : α} {d : D} {j : Nat} (h : EvA K t env ss) (e : ss = fs x) (hp : pre x) (hd : res x = .ok d) : Run K E (fun D σ H => tAsg (tCallS (SpE K fs pre res) (WE (WW D)) t) (gName j) D σ H) env (.nx (env.set j (.dat d))) := fun G0 H0 G H σ D ok q =>
  ev_callS ok h e hp (fun d' hd' v G1 H1 a hv => by
    rw [hd] at hd'
    cases hd'
    exact q G1 H1 _ ((ok.go a).set j rfl ⟨v, rfl, hv⟩)) fun c z => by rw [hd] at z; cases z
end
section
variable {P : Program} {w : World} {mg : Str → Option Value} {base : Heap} {x qual : Str} {st : Stmt} {f : Addr} {fd : FuncData} {N ps : List Str} {k : Nat} {α : Type} {fs : α → List SD} {pre : α → Prop} {res : α → Rs}
theorem fn_E (F : Fun K x qual st f fd) (S : FnScope N ps (defScope st)) (hn : ∀ a, (fs a).length = ps.length)
    (body : ∀ (cdv : Value) (A : Around) (outer : List Env) (s : Shared) (H : Hp) (E : XK), Room k (A.deeper (PyProof.Rows.envOfC qual (defScope st) s.heap.objs.size f cdv)) →
      ∃ t, PSs (cxX P w K mg base N qual st f cdv A outer s H E) (defBody st) t ∧ ∀ a, pre a → (∀ d, res a = .ok d → Run K E t (envOf N (fs a)) (.rt d) ∨ (d = .none ∧ ∃ e, Run K E t (envOf N (fs a)) (.nx e))) ∧ (∀ c, res a = .er c → Run K E t (envOf N (fs a)) (.ex c))) :
    FnOk P w K mg base (L2.CX P w) (k + 1) f fd ps (SpE K fs pre res) := by
  refine F.okX S (fun vs H Q E h => ?_) (fun cdv A outer s H vs Q E hr h => ?_)
  · obtain ⟨a, G, gh, ha, _⟩ := h
    rw [ha.len, hn a]
  · obtain ⟨a, G, gh, ha, hp, q1, q2⟩ := h
    obtain ⟨t, h1, h2⟩ := body cdv A outer s H E hr
    refine ⟨t, h1, ?_⟩
    obtain ⟨h3, h4⟩ := h2 a hp
    cases e : res a with
    | er c => exact h4 c e G H G H _ _ (ok_start gh ha) fun G' H' fw => q2 c e G' H' fw
    | ok d =>
      rcases h3 d e with h5 | ⟨ed, en, h5⟩
      · exact h5 G H G H _ _ (ok_start gh ha) fun v G' H' fw hv => q1 d e v G' H' fw hv
      · subst ed
        exact h5 G H G H _ _ (ok_start gh ha) fun G' H' σ' ok' => q1 _ e _ G' H' ok'.fw .non
end
/-! ### x op= e -/
theorem run_aug {i : Nat} {te : TE} {ti : TIp} {d0 d z : D} (hi : env[i]? = some (.dat d0)) (h : EvD K te env d) (ht : ∀ (v u : V) (G H : Hp), Same G H → Dd K G v d0 → Dd K G u d → ∀ Q : VK, (∀ w, Dd K G w z → Q w H) → ti v u H Q) : Run K E (tAug i te ti) env (.nx (env.set i (.dat z))) := fun G0 H0 G H σ D ok q => by
  obtain ⟨o, h1, v, e, hv⟩ := ok.sl i _ hi
  subst e
  exact ⟨v, h1, h G0 H0 G H σ ok _ fun u G1 H1 a hu => ht v u G1 H1 a.gh (hv.mono a.gg) hu _ fun w hw => q G1 H1 _ ((ok.go a).set i rfl ⟨w, rfl, hw⟩)⟩
theorem run_augI {i : Nat} {te : TE} {g : Int → Int → Int} {m n : Int} (hi : env[i]? = some (.dat (.int m))) (h : EvD K te env (.int n)) : Run K E (tAug i te (ipI g)) env (.nx (env.set i (.dat (.int (g m n))))) :=
  run_aug hi h fun v u G H _ hv hu Q q => ⟨m, n, hv.int_inv, hu.int_inv, q _ (.int _)⟩
end DL

/-! A hidden tree lent to a callee that only reads it. -/
namespace DL
open PySem L2
variable {K : PySem.W.Frag} {E : XK} {env env' e1 e2 : EnvD} {G H G' H' G1 H1 : Hp}
theorem Args.gmono (e : Same G G') : ∀ {vs : List V} {ss : List SD}, Args K G H vs ss → Args K G' H vs ss
  | _, _, .nil => .nil
  | _, _, .cons (s := s) m h hs => .cons m (by
      cases s with
      | un => trivial
      | dat d => obtain ⟨v, e1, h⟩ := h; exact ⟨v, e1, h.mono e⟩
      | tr u t => exact h.elim
      | raw v => exact h
      | scr ns => obtain ⟨a, e1, h⟩ := h; exact ⟨a, e1, e.seq h⟩) (hs.gmono e)
section
variable {α : Type} {fs : α → List SD} {pre : α → Prop} {f : α → D} {t : TA} {i : Nat} {C : Addr} {m : Str} {ss : List SD}
theorem ed_methB {u : Option V} {t0 : T} {fl : List (Str × D)} {x : α} {n : Int} {E' : XK} (hi : env[i]? = some (.tr u t0)) (hpb : Pb t0 (objD C fl)) (hm : m ∉ fl.map (·.1)) (ha : EvA K t env ss) (e : .dat (objD C fl) :: ss = fs x) (hp : pre x) (hf : f x = .int n) :
    EvD K (tMeth C m (SpD K fs pre f) [] E' (tVar i) t) env (.int n) := fun G0 H0 G H σ ok Q q => by
  obtain ⟨v, fp, k1, _, kt, _⟩ := ok.tree (Fw.refl ok.gh) hi
  have kd := kt.pub ok.gh (fun _ z => z) hpb
  obtain ⟨b, dx, gs, rfl, hb, hk, _⟩ := kd.obj_inv
  have hb1 : H b = some (.ins C dx gs) := pubG_gh ok.gh _ _ hb
  refine ⟨_, k1, b, dx, gs, rfl, hb1, lookup_none hk hm, ha G0 H0 G H σ ok _ fun vs G1 H1 a hvs => ?_⟩
  have kt1 := kt.fw a
  have kd1 := kt1.pub a.gh (fun _ z => z) hpb
  have own0 := kt.own
  refine ⟨x, pubG G1 H1 fp, pubG_gh a.gh, by rw [List.append_nil, ← e]; exact .cons rfl ⟨_, rfl, kd1⟩ (hvs.gmono (pubG_same a.gh)), hp, fun w G2 H2 fw hw => ?_⟩
  rw [hf] at hw
  have hw := hw.int_inv
  subst hw
  classical
  refine q _ (fun l => if l ∈ fp then none else G2 l) H2 ⟨fun l o e => ?_, fun l o e => ?_, fun l o e => fw.hh _ _ (a.hh _ _ e), fun l hl gl => ?_⟩ (.int n)
  · have hl : l ∉ fp := fun z => by rw [(own0 l z).1] at e; cases e
    show (if l ∈ fp then none else G2 l) = some o
    rw [if_neg hl]
    exact fw.gg _ _ (by rw [pubG_out hl]; exact a.gg _ _ e)
  · have hl : l ∉ fp := fun z => by
      have e : (if l ∈ fp then none else G2 l) = some o := e
      rw [if_pos z] at e; cases e
    have e : (if l ∈ fp then none else G2 l) = some o := e
    rw [if_neg hl] at e
    exact fw.gh _ _ e
  · show (if l ∈ fp then none else G2 l) = none
    by_cases z : l ∈ fp
    · rw [if_pos z]
    · rw [if_neg z]
      exact fw.fr l (fun y => hl (a.hh.free y)) (by rw [pubG_out z]; exact a.fr l hl gl)
end
end DL

/-! xs[i] += e, sorted(xs), x in xs, of lists of ints. -/
namespace L2
open PySem
variable {X : Cx}
theorem pget_list : PGet X (rIxL X.K) := by
  intro pins s σ H x y v u Q I rx ry h
  obtain ⟨p, xs, i, z, rfl, rfl, hq, he, q⟩ := h
  cases rx
  obtain ⟨t, rfl⟩ := ry
  obtain ⟨its, r, pl, hz⟩ := I.list hq
  obtain ⟨j, h1, h2, h3, h4, h5⟩ := atI_get he
  obtain ⟨w, ew, rw'⟩ := r.get h2
  have hl := r.length
  have hn := line63
  have fin : EP X pins σ Q w s := ⟨z, H, I, rw', q⟩
  by_cases h0 : 0 ≤ i
  · have hj : i.toNat = j := by
      rw [seqIndex_of h0 h5] at h1
      exact Option.some.inj h1
    exact wpAny_getItem_list pl.isList h0 (by omega) (by rw [hj]; simpa using ew) fin
  · have hj : (i + (its.toArray.size : Int)).toNat = j := by
      rw [seqIndex_neg (by omega) h4] at h1
      rw [List.size_toArray, ← hl]
      exact Option.some.inj h1
    exact wpAny_getItem_list_neg pl.isList (by omega) (by rw [List.size_toArray] <;> omega) (by omega) (by rw [hj]; simpa using ew) fin
end L2
namespace DL
open PySem L2
variable {K : PySem.W.Frag} {E : XK} {env env' e1 e2 : EnvD} {G H G' H' G1 H1 : Hp}
theorem atI_len {α : Type} {xs : List α} {n : Int} {j : Nat} {x : α} (hj : ixN xs.length n = some j) (hx : xs[j]? = some x) : atI xs n = some x := by
  unfold atI; rw [hj]; exact hx
/-- xs[n] op= e -/
theorem run_augS {i : Nat} {ns : List Int} {ty te : TE} {n m x : Int} {j : Nat} {g : Int → Int → Int} (hi : env[i]? = some (.ml (ns.map PyData.int))) (hy : EvD K ty env (.int n)) (hv : EvD K te env (.int m)) (hj : ixN ns.length n = some j) (hx : ns[j]? = some x) :
    Run K E (tAugS (tVar i) ty te (rIxL K) (ipI g) rSetL) env (.nx (env.set i (.ml ((ns.set j (g x m)).map PyData.int)))) := fun G0 H0 G H σ D ok q => by
  obtain ⟨o, h1, l, xs, e, gl, hl, hd⟩ := ok.slM i hi
  subst e
  have exs := hd.ints_inv
  refine ⟨_, h1, hy G0 H0 G H σ ok _ fun u G1 H1 a hu => ?_⟩
  have hl1 := a.hh _ _ hl
  refine ⟨l, xs, n, .int x, rfl, hu.int_inv, .inl (.inl hl1), by rw [exs]; exact atI_len (by rw [List.length_map]; exact hj) (by rw [List.getElem?_map, hx]; rfl), ?_⟩
  refine hv G0 H0 G1 H1 σ (ok.go a) _ fun v G2 H2 a2 hv2 => ⟨x, m, rfl, hv2.int_inv, ?_⟩
  have hl2 := a2.hh _ _ hl1
  refine ⟨l, xs, n, j, rfl, hu.int_inv, hl2, by rw [hd.len, List.length_map]; exact hj, ?_⟩
  have hs : Dds K G2 (xs.set j (.int (g x m))) ((ns.set j (g x m)).map PyData.int) := by
    rw [List.map_set]
    exact Dds.set (.int _) j (hd.mono (a.trans a2).gg)
  exact q G2 _ σ (((ok.go a).go a2).writeM hi h1 hs)
/-- sorted(xs) -/
theorem en_sortedL {ta : TE} {ks zs : List Int} (ha : EvL K ta env (ks.map PyData.int)) (hl : ks.length < 64) (hz : ∀ ys : List Int, ys.Perm ks → ys.Pairwise (· ≤ ·) → ys = zs) : EvN K (tCB (rSorted K) (tCons ta tNil)) env (zs.map PyData.int) := fun G0 H0 G H σ ok Q q =>
  ha G0 H0 G H σ ok _ fun p xs G1 H1 a h1 hd => ⟨p, ks, rfl, by rw [← hd.ints_inv]; exact .inl (.inl h1), hl, fun ys r hp hs hn => by
    have e := hz ys hp hs
    subst e
    exact q r _ G1 _ (a.trans (Fw.hid a.gh hn)) (a.hh.free hn) (a.gh.free hn) upd_same (Dds.ints _)⟩
theorem inV_int (v : Int) (ns : List Int) : inV (.int v) (ns.map V.int) = decide (v ∈ ns) := by
  unfold inV
  rw [List.any_map]
  rw [Bool.eq_iff_iff, List.any_eq_true, decide_eq_true_iff]
  constructor
  · rintro ⟨y, hy, h⟩
    have h : (y == v) = true := h
    rw [beq_iff_eq] at h
    exact h ▸ hy
  · intro h
    exact ⟨v, h, by show (v == v) = true; exact beq_self_eq_true v⟩
theorem flat_ints (ns : List Int) : (ns.map V.int).all flatV = true := by
  rw [List.all_eq_true]
  intro x hx
  obtain ⟨n, _, rfl⟩ := List.mem_map.mp hx
  rfl
theorem ed_inL {tx ta : TE} {b : Bool} {v : Int} {ns : List Int} (hx : EvD K tx env (.int v)) (ha : EvL K ta env (ns.map PyData.int)) : EvD K (tOp (rIn K b) tx ta) env (.bool (if b then !decide (v ∈ ns) else decide (v ∈ ns))) := fun G0 H0 G H σ ok Q q =>
  hx G0 H0 G H σ ok _ fun u G1 H1 a hu => ha G0 H0 G1 H1 σ (ok.go a) _ fun p xs G2 H2 a2 h2 hd => ⟨p, xs, rfl, .inl (.inl (.inl h2)), by rw [hu.int_inv]; rfl, by rw [hd.ints_inv]; exact flat_ints ns, by
    have e : inV u xs = decide (v ∈ ns) := by rw [hu.int_inv, hd.ints_inv]; exact inV_int v ns
    rw [e]
    exact q _ G2 H2 (a.trans a2) (.bl _)⟩
end DL

/-! repr of wide numbers in a tuple: the limit on digits is the one at the start. -/
namespace DL
open PySem L2
section
variable {prog : Program} {w : World} {A : Around} {E : Value → Shared → Prop} {s : Shared}
theorem pyReprObj_wide {a : Int} {t : Tok} {Q : Value → Shared → Prop} (hn : s.heap.NoDigits) (ha : a.natAbs < 10 ^ 4300) (hu : A.units < cLine) (h : Q (.str (toString a) s.toks) { s with toks := s.toks + 1 }) : wpAny (model prog w) A (pyReprObj (.int a t)) Q E s := by
  refine wpAny_pyReprObj_slot hu (typeIs_int s a t) F.slot_int_repr.toG (wpAny_call (codeAny_call_builtin F.slot_int_repr.plain F.entry_int_repr (F.slot_int_repr.check _ _ _ _ _ _ _ _ (typeIs_int _ a t) (F.args_int_repr_1 _) ?_)))
  unfold Builtin.«int.__repr__»
  show wpAny _ _ (do let r ← Builtin.overDigitLimit? a; _) _ _ s
  refine wpAny_bind (PyProof.Rows.overDigitLimit_any hn (fun hlt => ?_) (fun hge => absurd ha (Nat.not_lt.mpr hge)))
  exact wpAny_bind (wpAny_mkStr (wpAny_pure ⟨_, _, rfl, h⟩) (int_text_fits10 hlt))
variable {h₀ : Heap}
theorem reprK_wide {a : Int} {t : Tok} {d : Nat} (hn : h₀.NoDigits) (ha : a.natAbs < 10 ^ 4300) : ReprK prog w [] h₀ d (.int a t) (Str.ofString (toString a)) := fun base hb A g E s Q hg hcl hu hk hQ => by
  rw [pyReprUnder_leaf (v := .int a t) (by omega) (fun _ e => nomatch e)]
  unfold pyRepr
  exact wpAny_bind (pyReprObj_wide (hn.keeps hk) ha (by omega) (wpAny_pure (hQ s.heap _ fun _ _ e => e)))
theorem leaf_wide {x : Int} (h : x.natAbs < 10 ^ 4300) : PyData.leavesShort 4302 (.int x) = true := by
  have e := int_text_length_le10 (k := 4300) (by decide) h
  clear h
  simp only [PyData.leavesShort, decide_eq_true_eq]
  show (Str.ofString (toString x)).length ≤ 4302
  rw [ofString_length]; omega
theorem repr_pairW {a : Addr} {x y : Int} {as : List Addr} {Q : Value → Shared → Prop} (r : Reads h₀ (.ref a) (.tuple [.int x, .int y]) as) (hn : h₀.NoDigits) (hx : x.natAbs < 10 ^ 4300) (hy : y.natAbs < 10 ^ 4300) (hg : A.guards = some []) (hu : A.units + 4 < cLine)
    (hk0 : ∀ b o, h₀.get? b = some o → s.heap.get? b = some o) (hQ : ∀ h' u tk, (∀ b o, s.heap.get? b = some o → h'.get? b = some o) → Q (.str (PyData.shown (.tuple [.int x, .int y])) u) { s with heap := h', toks := tk }) : wpAny (model prog w) A (call (.builtin "repr") [.ref a]) Q E s := by
  have hz : (PyData.shown (.tuple [.int x, .int y])).length ≤ sizeLine := by
    have h1 := leaf_wide hx
    have h2 := leaf_wide hy
    have h := PyData.shown_le_bulk 4302 (by decide) (.tuple [.int x, .int y]) (by simp only [PyData.leavesShort, PyData.leavesShortAll, Bool.and_true, Bool.and_eq_true] at *; exact ⟨h1, h2⟩)
    rw [sizeLine_eq]
    have : PyData.bulk (.tuple [.int x, .int y]) ≤ 10 := by simp [PyData.bulk, PyData.bulkAll]
    have h3 : (4302 + 2) * PyData.bulk (.tuple [.int x, .int y]) ≤ 4304 * 10 := Nat.mul_le_mul_left _ this
    omega
  cases r with
  | tuple h1 h2 h3 h4 =>
    rename_i o vs n
    have hk : ReprAllK prog w [] h₀ 0 vs.toList (PyData.shownAll [.int x, .int y]) := by
      generalize vs.toList = l at h4
      cases h4 with
      | cons a b =>
        cases a
        cases b with
        | cons a b =>
          cases a
          cases b
          simp only [PyData.shownAll, PyData.shown]
          exact .cons (reprK_wide hn hx) (.cons (reprK_wide hn hy) .nil)
    simp only [PyData.shown] at hz hQ
    exact call_repr_slot (by omega) ⟨o, hk0 _ _ h1, h2⟩ F.slot_tuple_repr (call_tuple_reprK h1 h2 h3 (by simp) hk hg (fun b _ => Clear.nil b) (by show A.units + 1 + (0 + 1) < cLine; omega) hk0 (fun h' u tk hk => ⟨_, _, rfl, hQ h' u tk hk⟩) hz)
end
inductive ShA : D → Prop
  | seq {d : D} : Shw d → ShA d
  | bl (b : Bool) : ShA (.bool b)
  | int {i : Int} : i.natAbs.log2 < 1920 → ShA (.int i)
  | two {x y : Int} : x.natAbs < 10 ^ 4300 → y.natAbs < 10 ^ 4300 → ShA (.tuple [.int x, .int y])
theorem ShA.nod {d : D} (h : ShA d) : d.hasDict = false := by
  cases h with
  | seq h => exact h.nod
  | bl => rfl
  | int => rfl
  | two => simp [PyData.hasDict, PyData.hasDictAll]
def rReprA (K : PySem.W.Frag) : List V → Hp → VK → Prop := fun xs H Q => ∃ (v : V) (d : D), xs = [v] ∧ Dp K H v d ∧ ShA d ∧ Q (.str d.shown) H
section
variable {X : Cx}
theorem call_reprA (hG : X.A.guards = some []) (hD : X.base.NoDigits) (hu : X.A.units + 64 < cLine) : CallR X (.builtin "repr") (rReprA X.K) := by
  intro pins s σ H xs us Q I r h
  obtain ⟨v, d, rfl, hd, hs, q⟩ := h
  match us, r with
  | [u], .cons ru .nil =>
    cases hs with
    | bl b =>
      cases hd
      cases ru
      exact PySem.P.repr_of_bool ⟨.str _, H, I.tok _, ⟨_, rfl⟩, q⟩
    | int hi =>
      cases hd
      obtain ⟨t, rfl⟩ := ru
      exact PySem.P.repr_of_int hi ⟨.str _, H, I.tok _, ⟨_, rfl⟩, q⟩
    | two hx hy =>
      obtain ⟨as, rd⟩ := Dp.reads I _ _ u hd ru
      have : ∃ a, u = Value.ref a := by
        cases hd
        exact ⟨_, ru⟩
      obtain ⟨a, rfl⟩ := this
      exact repr_pairW rd (hD.keeps I.bk) hx hy hG (by omega) (fun _ _ z => z) fun h' w' tk keep => ⟨.str _, H, I.kept (t' := tk) keep, ⟨_, rfl⟩, q⟩
    | seq hs =>
      obtain ⟨as, rd⟩ := Dp.reads I _ _ u hd ru
      have : ∃ a, u = Value.ref a := by
        rcases hs.seq with ⟨ds, rfl⟩ | ⟨ds, rfl⟩ <;> cases hd <;> exact ⟨_, ru⟩
      obtain ⟨a, rfl⟩ := this
      have h3 := hs.dep
      exact repr_of_reads' rd hs.can (fun z => by rw [hs.nod] at z; cases z) hG (by omega) (fun _ _ z => z) (fun h' w' tk keep => ⟨.str d.shown, H, I.kept (t' := tk) keep, ⟨_, rfl⟩, q⟩) hs.len
end
theorem ed_reprA {K : PySem.W.Frag} {env : EnvD} {ta : TE} {d : D} (h : EvP K ta env d) (hs : ShA d) : EvD K (tCB (rReprA K) (tCons ta tNil)) env (.str d.shown) := fun G0 H0 G H σ ok Q q =>
  h G0 H0 G H σ ok _ fun v G1 H1 a hv => ⟨v, d, rfl, hv.dp hs.nod, hs, q _ G1 H1 a (.str _)⟩
section
variable {K : PySem.W.Frag}
open PySem.W in
theorem law_GD {l : OpenLaw} {n k : Nat} {q : Program} {loose : List Str} {XP : (Str → Option Value) → Heap → Prop} {YP : World → Heap → Prop} {d : DefRec} {KK : Params → Frag} {sp : World → Sp} {x : Str}
    (hn : l.most = some n) (hn2 : n ≤ sizeLine) (hdf : d.params.defaults = []) (hroom : Room k callerA)
    (hY : ∀ (w : World) (h : Heap), YP w h → (KK w.params).In h)
    (F : ∀ (w : World) (mg : Str → Option Value) (fa : Addr) (h : Heap), (KK w.params).In h → h.Ns mainGlobals mg → mg d.name = some (.ref fa) →
      ∃ fd : FuncData, (∀ (s : Shared) (u : Value), BindsTo s fd ⟨[u], []⟩ [(x, u)]) ∧ ∀ base : Heap, (KK w.params).In base → base.Ns mainGlobals mg → base.NoDigits → FnG l.prog w (KK w.params) mg base k fa fd [x] (sp w))
    (hsp : ∀ (w : World) (H : Hp) (a : Addr) (ns : List Int), ns.length ≤ n → SqL (KK w.params) H a (ns.map V.int) → sp w [.ref a] H (fun v _ => v = .bl true) fun _ _ _ => False) :
    WalkO q loose XP YP l.row.toRowW d [] (fun f vs => PySem.call f vs) := by
  refine Att.attach_call hn hdf fun w s0 s1 mg mb fa ob pm cd doc a vs ns G Y hob hfun hcode hname hobj hints hlen hgens => ?_
  have kin := hY w _ Y
  obtain ⟨fd, hbind, hfn⟩ := F w mg fa _ kin G.T.g hname
  have hv : Vals (ns.map V.int) vs := vals_ints hints
  obtain ⟨H, hS, hok, honly⟩ := first_heap (P := l.prog) (w := w) kin hobj hv (Nat.le_trans hlen hn2)
  have low : ∀ {b : Addr} {u : Obj}, s1.heap.get? b = some u → H b = none → (hidT s1.heap H).get? b = some u := fun hb hnone => hidT_get hb hnone
  have noDict : ∀ {b : Addr} {u : Obj} {es : Array DictEntry} {ep : Nat}, s1.heap.get? b = some u → u.data = .dict es ep → H b = none := by
    intro b u es ep hb hd
    by_cases z : H b = none
    · exact z
    · obtain ⟨e, _⟩ := honly b z
      rw [e, hobj] at hb
      cases hb
      cases (show Data.seq vs.toArray _ = Data.dict es ep from hd)
  have space : ∀ {b : Addr} {m : Str → Option Value}, s1.heap.Ns b m → (hidT s1.heap H).Ns b m := by
    rintro b m ⟨u, es, ep, hb, hd, rest⟩
    exact ⟨u, es, ep, low hb (noDict hb hd), hd, rest⟩
  have kinB : (KK w.params).In (hidT s1.heap H) := fun b u hb => low (kin b u hb) (by
    by_cases z : H b = none
    · exact z
    · obtain ⟨e, hk, _⟩ := honly b z
      rw [e, hk] at hb; cases hb)
  have lim : (hidT s1.heap H).NoLimit := by
    obtain ⟨mc, z1, z2⟩ := G.T.nolimit
    exact ⟨mc, space z1, z2⟩
  have dig : (hidT s1.heap H).NoDigits := by
    obtain ⟨mc, z1, z2⟩ := G.T.nodigits
    exact ⟨mc, space z1, z2⟩
  have M : Mod (KK w.params) mg (hidT s1.heap H) := ⟨kinB, space G.T.g, ⟨mb, space G.T.b, G.T.builtins⟩, lim⟩
  have env0 : Env0 l.prog w (KK w.params) mg (hidT s1.heap H) callerA [] s1 H :=
    ⟨rfl, M, fun b u hb => of_hidT hb, by rw [hidT_size]; exact Nat.le_refl _, trivial, fun b hb => (by cases hb), hok, .of_eq hgens⟩
  refine codeAny_mono ((hfn _ kinB (space G.T.g) dig).go callerA [] s1 H ⟨[.ref a], []⟩ [.ref a] [.ref a] _ _ rfl hroom env0 (hbind s1 (.ref a)) (.cons rfl .nil) (hsp w H a ns hlen hS)) fun r s' hr => ?_
  match r, hr with
  | .ok (.ret u), hr =>
    obtain ⟨v, H', hos, hbare, un, hok', rv, hv⟩ := hr
    have hv : v = .bl true := hv
    subst hv
    cases rv
    refine ⟨rfl, OldK.of_keep fun b ob hb => ?_, hos, hbare⟩
    by_cases z : H b = none
    · exact un.keep b ob hb z (fun m => (by cases m)) (fun m => (by cases m))
    · obtain ⟨_, _, o2, xs, hz⟩ := honly b z
      have h1 := (hok b _ hz).1
      have h2 := (hok' b _ (un.frzs b o2 _ hz)).1
      rw [hb] at h1
      cases h1
      exact h2
  | .ok .next, hr => exact hr.elim
  | .ok .brk, hr => exact hr.elim
  | .ok .cont, hr => exact hr.elim
  | .error _, hr => exact hr.elim
end
end DL

/-! f'{n:b}': binary digits. -/
namespace PyProof.Rows
open PySem Builtin Float
def fbS : FormatSpec := { fill := 32, align := 62, type := some 98 }
theorem fbS_is : parseFormatSpec ("b" : Str).cps.toList "int" 62 = .ok fbS := by rfl
def binT (n : Nat) : Str := ⟨((Nat.toDigits 2 n).map fun c => c.toNat).toArray⟩
def binU (n : Nat) : Str := intField' fbS false [] ((Nat.toDigits 2 n).map fun c => (if (98 : Nat) == 88 then c.toUpper else c).toNat) [] 4
section
variable {prog : Program} {w : World} {A : Around} {E : Value → Shared → Prop} {s : Shared}
theorem toDigits_ne (n : Nat) : Nat.toDigits 2 n ≠ [] := fun z => by
  have := Nat.length_toDigits_pos (b := 2) (n := n)
  rw [z] at this
  simp at this
theorem binU_is (n : Nat) : binU n = binT n := by
  unfold binU binT
  have e : ((Nat.toDigits 2 n).map fun c => (if (98 : Nat) == 88 then c.toUpper else c).toNat) = (Nat.toDigits 2 n).map fun c => c.toNat := rfl
  rw [e]
  have hne : ((Nat.toDigits 2 n).map fun c => c.toNat) ≠ [] := fun z => toDigits_ne n (List.map_eq_nil_iff.mp z)
  generalize ((Nat.toDigits 2 n).map fun c => c.toNat) = ds at *
  have hd : ds.isEmpty = false := by cases ds with
    | nil => exact absurd rfl hne
    | cons a l => rfl
  unfold intField'
  simp [fbS, hd]
theorem ite_neg' {M : PySem.Model} {α : Type} {c : Prop} [Decidable c] {x y : Sem α} {Q : α → Shared → Prop} (h : ¬c) (hy : wpAny M A y Q E s) : wpAny M A (if c then x else y) Q E s := by rw [if_neg h]; exact hy
set_option maxRecDepth 100000 in
theorem formatField_bin {b : Str} (eb : b = "b") {a : Int} {t : Tok} {Q : Value → Shared → Prop} (h0 : 0 ≤ a) (hz : (binT a.natAbs).length ≤ sizeLine) (h : Q (.str (binT a.natAbs) (s.toks + 1)) { s with toks := s.toks + 1 + 1 }) : wpAny (model prog w) A (formatField (.int a t) b) Q E s := by
  subst eb
  rw [← binU_is] at hz h
  have hn : decide (a < 0) = false := decide_eq_false (by omega)
  unfold binU at hz h
  have hp := fbS_is
  have hty : fbS.type.getD (if ("b" : Str).cps.back? == some 0 then 0 else 100) = 98 := rfl
  have hpr : fbS.precision = none := rfl
  have hz0 : fbS.noNeg0 = false := rfl
  have hal : fbS.alt = false := rfl
  have hw : fbS.width = none := rfl
  generalize hf : fbS = f at *
  show wpAny _ _ (holding [.int a t] (pyFormat (.int a t) "b")) Q E s
  refine wpAny_holding ?_
  unfold pyFormat
  refine wpAny_bind (wpAny_mkStr ?_ (by decide +kernel))
  refine wpAny_bind (m := callSpecial? (.int a t) (Str.ofString "__format__") [.str "b" s.toks]) (wpAny_callSpecial?_slot (name := Str.ofString "__format__") (typeIs_int _ a t) slot_int_format ?_)
  refine wpAny_call (codeAny_call_builtin slot_int_format.plain entry_int_format (slot_int_format.check _ _ _ _ _ _ _ _ (typeIs_int _ a t) (args_int_format _ _) ?_))
  unfold Builtin.«int.__format__»
  have hne : (("b" : Str).length == 0) = false := by decide +kernel
  have hasc : ((("b" : Str).cps.toList.drop 1).any (· ≥ 128) || (("b" : Str).cps.getD 0 0 ≥ 128 && !([60, 62, 61, 94] : List Nat).contains (("b" : Str).cps.getD 1 0))) = false := by decide +kernel
  simp only [selfAndOne, noKeywords, Int.intOfSelf, asInt?, asStr?, List.isEmpty_nil, if_true, pure_bind, bind_pure, bind_assoc, hne, hasc, Bool.false_eq_true, if_false,
    show (Value.str "b" s.toks == Value.none) = false from rfl]
  refine wpAny_bind (wpAny_typeNameOf (T := "str") (typeIs_str _ _ _) (by decide) fun _ => ?_)
  first | refine wpAny_bind (wpAny_typeNameOfCut_int ?_) | refine wpAny_bind (wpAny_typeNameOf_int ?_)
  simp only [hp, hty]
  rw [if_pos (by decide)]
  show wpAny _ _ (if _ then _ else _) _ _ _
  rw [if_neg (by simp [hpr])]
  show wpAny _ _ (if _ then _ else _) _ _ _
  rw [if_neg (by simp [hz0])]
  show wpAny _ _ (if _ then _ else _) _ _ _
  rw [if_neg (by decide)]
  show wpAny _ _ (if _ then _ else _) _ _ _
  rw [if_neg (by decide)]
  show wpAny _ _ (if _ then _ else _) _ _ _
  rw [if_neg (by simp [hw])]
  show wpAny _ _ (retStr _) _ _ _
  rw [hn, hal]
  simp only [Bool.false_eq_true, if_false, show ((2 : Nat) == 10) = false from rfl]
  subst hf
  generalize (Nat.toDigits 2 a.natAbs).map (fun c => (if (98 : Nat) == 88 then c.toUpper else c).toNat) = ds at hz h ⊢
  show wpAny _ _ (retStr (intField' fbS false [] ds [] 4)) _ _ _
  unfold retStr
  refine wpAny_bind (wpAny_mkStr (wpAny_pure ?_) hz)
  exact wpAny_bind (wpAny_isInstance (typeIs_str _ _ _) isSubtype_str_str (wpAny_pure h))
end
end PyProof.Rows
namespace DL
open PySem L2 PyProof.Rows
/-! ### f'{n:b}' and the walk over a text -/
def tFmtB (te : TE) : TE := fun σ H Q => te σ H fun x H1 => ∃ i : Int, x = .int i ∧ 0 ≤ i ∧ (binT i.natAbs).length ≤ sizeLine ∧ Q (.str (binT i.natAbs)) H1
theorem pe_fmtB {X : Cx} {e : Expr} {te : TE} {pos p1 p2 : Pos} {j : Nat} (he : PE X e te) : PE X (.FormattedValue e (-1) (some (.JoinedStr [.Constant (.str "b") j p1] p2)) pos) (tFmtB te) := by
  refine ⟨fun pins s σ H Q I h => ?_⟩
  refine wpAny_FormattedValue_spec (thn (he.run pins s σ H _ I h) fun v s1 hv => ?_)
  obtain ⟨x, H1, I1, r1, i, rfl, h0, hz, q⟩ := hv
  obtain ⟨t, rfl⟩ := r1
  refine wpAny_JoinedStr_one (thn ((pe_str (X := X) (x := "b") (j := j) (pos := p1)).run pins s1 σ H1 (fun y H2 => y = .str "b" ∧ H2 = H1) I1 ⟨rfl, rfl⟩) fun u s2 hu => ?_)
  obtain ⟨y, H2, I2, r2, rfl, rfl⟩ := hu
  obtain ⟨t2, rfl⟩ := r2
  exact ⟨_, t2, rfl, formatField_bin rfl h0 hz ⟨.str _, _, (I2.tok _).tok _, ⟨_, rfl⟩, q⟩⟩
variable {K : PySem.W.Frag} {E : XK} {env : EnvD} {G : Hp}
theorem ed_fmtB {te : TE} {n : Nat} (h : EvD K te env (.int (n : Int))) (hn : n < 2 ^ 1000) : EvD K (tFmtB te) env (.str (binT n)) := fun G0 H0 G H σ ok Q q =>
  h G0 H0 G H σ ok _ fun v G1 H1 a hv => ⟨(n : Int), hv.int_inv, by omega, by
    rw [Int.natAbs_natCast]
    have h1 : (Nat.toDigits 2 n).length ≤ 1000 := (Nat.length_toDigits_le_iff (by decide) (by decide)).mpr hn
    clear hn
    show ((Nat.toDigits 2 n).map fun c => c.toNat).toArray.size ≤ sizeLine
    rw [List.size_toArray, List.length_map, sizeLine_eq]; omega, by rw [Int.natAbs_natCast]; exact q _ G1 H1 a (.str _)⟩
def strD (x : Str) : List D := x.cps.toList.map fun c => .str ⟨#[c]⟩
theorem walks_s {x : Str} {G1 : Hp} : Walks K (Its x) G1 (strD x) := by
  have hl : (strD x).length = x.cps.size := by unfold strD; rw [List.length_map, Array.length_toList]
  refine ⟨fun G H _ _ => ?_, fun i d G H hi _ gh => ?_⟩
  · show x.cps.size ≤ _; rw [hl]; exact Nat.le_refl _
  · unfold strD at hi
    rw [List.getElem?_map] at hi
    have hlt : i < x.cps.size := by
      by_cases c : i < x.cps.size
      · exact c
      · rw [List.getElem?_eq_none (by rw [Array.length_toList]; omega)] at hi; cases hi
    refine ⟨hlt, fun v H' hy => ?_⟩
    obtain ⟨e1, c, hc, e2⟩ := hy
    subst e1; subst e2
    have : x.cps.toList[i]? = some c := by rw [Array.getElem?_toList]; exact hc
    rw [this] at hi
    cases hi
    exact ⟨G, Fw.refl gh, .str _⟩
theorem ei_str {te : TE} {x : Str} (h : EvD K te env (.str x)) : EvI K (iStr te) env (strD x) := fun G0 H0 G H σ ok R q =>
  h G0 H0 G H σ ok _ fun v G1 H1 a hv => ⟨x, hv.str_inv, q _ G1 H1 a walks_s⟩
end DL
namespace DL
open PySem L2 PySem.P PySem.Spec
def CDivQ (i j : Int) : Prop := j ≠ 0 ∧ Builtin.divisionGoesByPylong i j = false
theorem op_fdivQ {X : Cx} : OpR X (binaryOp .FloorDiv) (rI CDivQ fun i j => .int (i.fdiv j)) := opI fun _ _ _ _ _ _ _ hc q => PyProof.Rows.floordiv_int hc.1 q (.inl hc.2)
theorem noP_near {x y : Int} (h : x.natAbs.log2 ≤ y.natAbs.log2 + 4000) (hy : y ≠ 0) : Builtin.divisionGoesByPylong x y = false := by
  show (decide ((if y == 0 then 0 else y.natAbs.log2 / 30 + 1) > 300) && decide ((if x == 0 then 0 else x.natAbs.log2 / 30 + 1) > (if y == 0 then 0 else y.natAbs.log2 / 30 + 1) + 150)) = false
  have e : (y == 0) = false := beq_eq_false_iff_ne.mpr hy
  rw [e]
  simp only [Bool.false_eq_true, if_false]
  rw [Bool.and_eq_false_iff]
  refine .inr (decide_eq_false ?_)
  split <;> omega
theorem CDivZ.q {i j : Int} (h : CDivZ i j) : CDivQ i j := ⟨h.1, PyProof.noPylong_of_log2 h.2⟩
end DL

/-! The chance that a reserve is never ruined. -/
namespace MX
open PySem L2 DL
def sumTo : Nat → (Nat → Rat) → Rat
  | 0, _ => 0
  | n + 1, f => sumTo n f + f n
theorem sumTo_congr {f g : Nat → Rat} : ∀ {n : Nat}, (∀ k, k < n → f k = g k) → sumTo n f = sumTo n g
  | 0, _ => rfl
  | n + 1, h => by unfold sumTo; rw [sumTo_congr fun k hk => h k (by omega), h n (by omega)]
theorem sumTo_zero : ∀ n : Nat, sumTo n (fun _ => 0) = 0
  | 0 => rfl
  | n + 1 => by unfold sumTo; rw [sumTo_zero n]; grind
theorem sumTo_add (f g : Nat → Rat) : ∀ n : Nat, sumTo n (fun k => f k + g k) = sumTo n f + sumTo n g
  | 0 => by unfold sumTo; grind
  | n + 1 => by unfold sumTo; rw [sumTo_add f g n]; grind
theorem sumTo_mul (c : Rat) (f : Nat → Rat) : ∀ n : Nat, sumTo n (fun k => c * f k) = c * sumTo n f
  | 0 => by unfold sumTo; grind
  | n + 1 => by unfold sumTo; rw [sumTo_mul c f n]; grind
theorem sumTo_le {f g : Nat → Rat} : ∀ {n : Nat}, (∀ k, k < n → f k ≤ g k) → sumTo n f ≤ sumTo n g
  | 0, _ => by unfold sumTo; grind
  | n + 1, h => by
    have h1 := sumTo_le (n := n) fun k hk => h k (by omega)
    have h2 := h n (by omega)
    unfold sumTo; grind
theorem sumTo_first (f : Nat → Rat) : ∀ n : Nat, sumTo (n + 1) f = f 0 + sumTo n (fun k => f (k + 1))
  | 0 => by unfold sumTo; unfold sumTo; grind
  | n + 1 => by
    have ih := sumTo_first f n
    have e1 : sumTo (n + 1 + 1) f = sumTo (n + 1) f + f (n + 1) := rfl
    have e2 : sumTo (n + 1) (fun k => f (k + 1)) = sumTo n (fun k => f (k + 1)) + f (n + 1) := rfl
    rw [e1, e2, ih]; grind
theorem sumTo_rev (f : Nat → Rat) : ∀ n : Nat, sumTo n (fun k => f (n - 1 - k)) = sumTo n f
  | 0 => rfl
  | n + 1 => by
    rw [sumTo_first]
    have e : sumTo n (fun k => f (n + 1 - 1 - (k + 1))) = sumTo n f := by
      rw [← sumTo_rev f n]
      exact sumTo_congr fun k hk => by rw [show n + 1 - 1 - (k + 1) = n - 1 - k by omega]
    rw [e]
    show f (n + 1 - 1 - 0) + sumTo n f = sumTo n f + f n
    rw [show n + 1 - 1 - 0 = n by omega]; grind
/-- the indicator of one place -/
theorem sumTo_one (c : Rat) (f : Nat → Rat) (j : Nat) : ∀ n : Nat, sumTo n (fun l => if l = j then c * f l else 0) = if j < n then c * f j else 0
  | 0 => by unfold sumTo; rw [if_neg (by omega)]
  | n + 1 => by
    show sumTo n (fun l => if l = j then c * f l else 0) + (if n = j then c * f n else 0) = _
    rw [sumTo_one c f j n]
    by_cases e : n = j
    · subst e; rw [if_neg (by omega), if_pos rfl, if_pos (by omega)]; grind
    · rw [if_neg e]
      by_cases h : j < n
      · rw [if_pos h, if_pos (by omega)]; grind
      · rw [if_neg h, if_neg (by omega)]; grind
theorem ex_le {s : Spr} {f g : Int → Rat} (hc : ∀ p ∈ s, 0 ≤ p.2) (h : ∀ p ∈ s, f p.1 ≤ g p.1) : Ex s f ≤ Ex s g := by
  induction s with
  | nil => rw [ex_nil, ex_nil]; grind
  | cons p s ih =>
    rw [ex_cons, ex_cons]
    have h1 := ih (fun q hq => hc q (List.mem_cons_of_mem _ hq)) fun q hq => h q (List.mem_cons_of_mem _ hq)
    have h2 := h p (List.mem_cons_self)
    have h3 := hc p (List.mem_cons_self)
    have h4 : p.2 * f p.1 ≤ p.2 * g p.1 := Rat.mul_le_mul_of_nonneg_left h2 h3
    grind
theorem ex_sumTo (s : Spr) (f : Nat → Int → Rat) : ∀ n : Nat, Ex s (fun v => sumTo n (fun k => f k v)) = sumTo n (fun k => Ex s (f k))
  | 0 => by unfold sumTo; exact ex_zero s
  | n + 1 => by
    unfold sumTo
    rw [← ex_sumTo s f n, ← ex_add]
/-- a spread whose values are at most 1: by the losses up to r -/
theorem ex_split {s : Spr} (h1 : ∀ p ∈ s, p.1 ≤ 1) (r : Nat) (f : Int → Rat) (hf : ∀ v : Int, v < -(r : Int) → f v = 0) : Ex s f = wt s 1 * f 1 + sumTo (r + 1) (fun l => wt s (-(l : Int)) * f (-(l : Int))) := by
  induction s with
  | nil =>
    have e : sumTo (r + 1) (fun l => wt [] (-(l : Int)) * f (-(l : Int))) = 0 := by
      rw [← sumTo_zero (r + 1)]
      exact sumTo_congr fun k _ => by show (0 : Rat) * _ = 0; grind
    rw [e, ex_nil]
    show (0 : Rat) = 0 * _ + 0
    grind
  | cons p s ih =>
    have ih := ih fun q hq => h1 q (List.mem_cons_of_mem _ hq)
    have hp := h1 p (List.mem_cons_self)
    rw [ex_cons, ih, wt_cons]
    have e : sumTo (r + 1) (fun l => wt (p :: s) (-(l : Int)) * f (-(l : Int))) = sumTo (r + 1) (fun l => if l = (-p.1).toNat then (if p.1 ≤ 0 then p.2 else 0) * f (-(l : Int)) else 0) + sumTo (r + 1) (fun l => wt s (-(l : Int)) * f (-(l : Int))) := by
      rw [← sumTo_add]
      refine sumTo_congr fun l _ => ?_
      rw [wt_cons]
      by_cases e : p.1 = -(l : Int)
      · rw [if_pos e, if_pos (by omega), if_pos (by omega)]; grind
      · rw [if_neg e]
        by_cases e2 : l = (-p.1).toNat
        · rw [if_pos e2, if_neg (by omega)]; grind
        · rw [if_neg e2]; grind
    rw [e, sumTo_one (if p.1 ≤ 0 then p.2 else 0) (fun l : Nat => f (-(l : Int)))]
    by_cases c : p.1 = 1
    · rw [if_pos c, if_neg (show ¬p.1 ≤ 0 by omega), c]
      split <;> grind
    · rw [if_neg c, if_pos (show p.1 ≤ 0 by omega)]
      by_cases c2 : (-p.1).toNat < r + 1
      · rw [if_pos c2, show (-(((-p.1).toNat : Nat) : Int)) = p.1 by omega]; grind
      · rw [if_neg c2, hf p.1 (by omega)]; grind
/-- a change that wins at most 1, with a mean above 0 -/
structure Skip (s : Spr) (p m : Rat) : Prop where
  up : ∀ q ∈ s, q.1 ≤ 1
  nn : ∀ q ∈ s, 0 ≤ q.2
  one : Ex s (fun _ => 1) = 1
  mn : Ex s (fun v => (v : Rat)) = m
  p1 : wt s 1 = p
  pos : 0 < m
structure Surv (s : Spr) (p m : Rat) (S : Nat → Rat) : Prop where
  z : p * S 0 = m
  st : ∀ r : Nat, p * S (r + 1) = S r - sumTo (r + 1) (fun l => wt s (-(l : Int)) * S (r - l))
variable {s : Spr} {p m : Rat} {S : Nat → Rat}
def Ft (s : Spr) (k : Nat) : Rat := Ex s fun v => if v < -(k : Int) then 1 else 0
theorem wt_nn (h : ∀ q ∈ s, 0 ≤ q.2) (v : Int) : 0 ≤ wt s v := by
  unfold wt
  have := ex_le (s := s) (f := fun _ => 0) (g := fun x => if x = v then 1 else 0) h fun q _ => by
    show (0 : Rat) ≤ if q.1 = v then 1 else 0
    split <;> grind
  rw [ex_zero] at this; exact this
theorem Ft_nn (h : ∀ q ∈ s, 0 ≤ q.2) (k : Nat) : 0 ≤ Ft s k := by
  unfold Ft
  have := ex_le (s := s) (f := fun _ => 0) (g := fun v => if v < -(k : Int) then 1 else 0) h fun q _ => by
    show (0 : Rat) ≤ if q.1 < -(k : Int) then 1 else 0
    split <;> grind
  rw [ex_zero] at this; exact this
theorem Skip.ppos (h : Skip s p m) : 0 < p := by
  by_cases c : 0 < p
  · exact c
  · exfalso
    have h1 : p = 0 := by
      have := wt_nn h.nn 1
      rw [h.p1] at this
      grind
    have h2 : m ≤ 0 := by
      rw [← h.mn]
      have hle : Ex s (fun v => (v : Rat)) ≤ Ex s (fun v => if v = 1 then 1 else 0) := ex_le h.nn fun q hq => by
        have := h.up q hq
        show (q.1 : Rat) ≤ if q.1 = 1 then 1 else 0
        by_cases e : q.1 = 1
        · rw [if_pos e, e]; exact Rat.le_refl
        · rw [if_neg e]
          have : q.1 ≤ 0 := by omega
          exact_mod_cast this
      have h3 : Ex s (fun v => if v = 1 then 1 else 0) = p := h.p1
      grind
    have := h.pos
    grind
theorem Skip.ftot (h : Skip s p m) (k : Nat) : p + sumTo (k + 1) (fun l => wt s (-(l : Int))) + Ft s k = 1 := by
  have h1 := ex_split h.up k (fun v => if v < -(k : Int) then 0 else 1) fun v hv => if_pos hv
  have h2 : Ex s (fun v => (if v < -(k : Int) then 0 else 1) + (if v < -(k : Int) then 1 else 0)) = 1 := by
    refine Eq.trans ?_ h.one
    exact ex_congr fun q _ => by
      show (if q.1 < -(k : Int) then (0 : Rat) else 1) + (if q.1 < -(k : Int) then 1 else 0) = 1
      split <;> grind
  rw [ex_add, h1] at h2
  have e1 : (if (1 : Int) < -(k : Int) then (0 : Rat) else 1) = 1 := if_neg (by omega)
  have e2 : sumTo (k + 1) (fun l => wt s (-(l : Int)) * (if (-(l : Int)) < -(k : Int) then (0 : Rat) else 1)) = sumTo (k + 1) (fun l => wt s (-(l : Int))) := sumTo_congr fun l hl => by
    show wt s (-(l : Int)) * (if (-(l : Int)) < -(k : Int) then (0 : Rat) else 1) = _
    rw [if_neg (by omega)]; grind
  have e3 : wt s 1 = p := h.p1
  unfold Ft
  rw [e2] at h2
  simp only [e1] at h2
  rw [e3] at h2
  grind
theorem Skip.fsum (h : Skip s p m) (n : Nat) : sumTo n (Ft s) ≤ p - m := by
  have e : sumTo n (Ft s) = Ex s (fun v => sumTo n (fun k => if v < -(k : Int) then 1 else 0)) := (ex_sumTo s (fun k v => if v < -(k : Int) then 1 else 0) n).symm
  rw [e]
  have h1 : Ex s (fun v => sumTo n (fun k => if v < -(k : Int) then 1 else 0)) ≤ Ex s (fun v => (if v = 1 then 1 else 0) + (-1) * (v : Rat)) := ex_le h.nn fun q hq => by
    have hu := h.up q hq
    show sumTo n (fun k => if q.1 < -(k : Int) then 1 else 0) ≤ (if q.1 = 1 then 1 else 0) + (-1) * (q.1 : Rat)
    have key : ∀ n : Nat, q.1 ≤ 0 → sumTo n (fun k => if q.1 < -(k : Int) then 1 else 0) ≤ (-1) * (q.1 : Rat) ∧ sumTo n (fun k => if q.1 < -(k : Int) then 1 else 0) ≤ (n : Rat) := by
      intro n hq0
      induction n with
      | zero =>
        unfold sumTo
        have : (q.1 : Rat) ≤ 0 := by exact_mod_cast hq0
        constructor <;> grind
      | succ n ih =>
        show sumTo n (fun k => if q.1 < -(k : Int) then 1 else 0) + (if q.1 < -(n : Int) then 1 else 0) ≤ _ ∧ sumTo n (fun k => if q.1 < -(k : Int) then 1 else 0) + (if q.1 < -(n : Int) then 1 else 0) ≤ _
        by_cases c : q.1 < -(n : Int)
        · rw [if_pos c]
          have c2 : (n : Rat) + 1 ≤ (-1) * (q.1 : Rat) := by
            have : ((n : Int) : Rat) + 1 ≤ ((-q.1 : Int) : Rat) := by exact_mod_cast (by omega : (n : Int) + 1 ≤ -q.1)
            rw [Rat.intCast_neg] at this
            have e : ((n : Int) : Rat) = (n : Rat) := rfl
            grind
          have e3 : ((n + 1 : Nat) : Rat) = (n : Rat) + 1 := by exact_mod_cast rfl
          constructor <;> grind
        · rw [if_neg c]
          have e3 : ((n + 1 : Nat) : Rat) = (n : Rat) + 1 := by exact_mod_cast rfl
          constructor <;> grind
    by_cases c : q.1 = 1
    · have z : sumTo n (fun k => if q.1 < -(k : Int) then (1 : Rat) else 0) = 0 := by
        refine Eq.trans (sumTo_congr (g := fun _ => 0) fun k _ => ?_) (sumTo_zero n)
        show (if q.1 < -(k : Int) then (1 : Rat) else 0) = 0
        exact if_neg (by rw [c]; omega)
      rw [z, if_pos c, c]
      show (0 : Rat) ≤ 1 + (-1) * ((1 : Int) : Rat)
      have : ((1 : Int) : Rat) = 1 := rfl
      grind
    · rw [if_neg c]
      have := (key n (by omega)).1
      grind
  rw [ex_add, ex_mul, h.mn] at h1
  have e3 : Ex s (fun v => if v = 1 then (1 : Rat) else 0) = p := h.p1
  grind
/-- the chance in terms of what may be lost -/
theorem Surv.conv (h : Skip s p m) (hs : Surv s p m S) : ∀ n : Nat, p * S (n + 1) = m + sumTo (n + 1) (fun j => S j * Ft s (n - j))
  | 0 => by
    have h1 := hs.st 0
    have h2 := h.ftot 0
    have e1 : sumTo (0 + 1) (fun l => wt s (-(l : Int)) * S (0 - l)) = wt s 0 * S 0 := by unfold sumTo; unfold sumTo; show (0 : Rat) + wt s (-((0 : Nat) : Int)) * S (0 - 0) = _; rw [show (-((0 : Nat) : Int)) = 0 by rfl]; grind
    have e2 : sumTo (0 + 1) (fun l => wt s (-(l : Int))) = wt s 0 := by unfold sumTo; unfold sumTo; show (0 : Rat) + wt s (-((0 : Nat) : Int)) = _; rw [show (-((0 : Nat) : Int)) = 0 by rfl]; grind
    have e3 : sumTo (0 + 1) (fun j => S j * Ft s (0 - j)) = S 0 * Ft s 0 := by unfold sumTo; unfold sumTo; grind
    rw [h1, e1, e3]
    rw [e2] at h2
    have hz := hs.z
    have : Ft s 0 = 1 - p - wt s 0 := by grind
    rw [this]; grind
  | n + 1 => by
    have ih := Surv.conv h hs n
    have h1 := hs.st (n + 1)
    have f0 := h.ftot 0
    have e2 : sumTo (0 + 1) (fun l => wt s (-(l : Int))) = wt s 0 := by unfold sumTo; unfold sumTo; show (0 : Rat) + wt s (-((0 : Nat) : Int)) = _; rw [show (-((0 : Nat) : Int)) = 0 by rfl]; grind
    rw [e2] at f0
    have dF : ∀ k : Nat, Ft s (k + 1) = Ft s k - wt s (-((k + 1 : Nat) : Int)) := fun k => by
      have a := h.ftot k
      have b := h.ftot (k + 1)
      have e : sumTo (k + 1 + 1) (fun l => wt s (-(l : Int))) = sumTo (k + 1) (fun l => wt s (-(l : Int))) + wt s (-((k + 1 : Nat) : Int)) := rfl
      rw [e] at b
      grind
    have e3 : sumTo (n + 1 + 1) (fun j => S j * Ft s (n + 1 - j)) = sumTo (n + 1) (fun j => S j * Ft s (n - j)) - sumTo (n + 1) (fun j => S j * wt s (-((n + 1 - j : Nat) : Int))) + S (n + 1) * Ft s 0 := by
      show sumTo (n + 1) (fun j => S j * Ft s (n + 1 - j)) + S (n + 1) * Ft s (n + 1 - (n + 1)) = _
      rw [show n + 1 - (n + 1) = 0 by omega]
      have : sumTo (n + 1) (fun j => S j * Ft s (n + 1 - j)) + sumTo (n + 1) (fun j => S j * wt s (-((n + 1 - j : Nat) : Int))) = sumTo (n + 1) (fun j => S j * Ft s (n - j)) := by
        rw [← sumTo_add]
        refine sumTo_congr fun j hj => ?_
        have := dF (n - j)
        rw [show n - j + 1 = n + 1 - j by omega] at this
        rw [this]; grind
      grind
    have e4 : sumTo (n + 1 + 1) (fun l => wt s (-(l : Int)) * S (n + 1 - l)) = wt s 0 * S (n + 1) + sumTo (n + 1) (fun j => S j * wt s (-((n + 1 - j : Nat) : Int))) := by
      rw [sumTo_first]
      have : sumTo (n + 1) (fun k => wt s (-((k + 1 : Nat) : Int)) * S (n + 1 - (k + 1))) = sumTo (n + 1) (fun j => S j * wt s (-((n + 1 - j : Nat) : Int))) := by
        rw [← sumTo_rev (fun j => S j * wt s (-((n + 1 - j : Nat) : Int)))]
        refine sumTo_congr fun k hk => ?_
        rw [show n + 1 - (n + 1 - 1 - k) = k + 1 by omega, show n + 1 - (k + 1) = n + 1 - 1 - k by omega]; grind
      rw [this]
      show wt s (-((0 : Nat) : Int)) * S (n + 1 - 0) + _ = _
      rw [show (-((0 : Nat) : Int)) = 0 by rfl, show n + 1 - 0 = n + 1 by omega]
    rw [h1, e3, e4]
    have : Ft s 0 = 1 - p - wt s 0 := by grind
    rw [this]
    grind
theorem Surv.pos (h : Skip s p m) (hs : Surv s p m S) : ∀ n : Nat, 0 < S n ∧ (∀ k, k ≤ n → S k ≤ S n)
  | 0 => by
    have hp := h.ppos
    have hm := h.pos
    have hz := hs.z
    have h0 : 0 < S 0 := by
      by_cases c : 0 < S 0
      · exact c
      · exfalso
        have : p * S 0 ≤ p * 0 := Rat.mul_le_mul_of_nonneg_left (by grind) (by grind)
        grind
    exact ⟨h0, fun k hk => by rw [show k = 0 by omega]; exact Rat.le_refl⟩
  | n + 1 => by
    obtain ⟨ih1, ih2⟩ := Surv.pos h hs n
    have hp := h.ppos
    have h1 := hs.st n
    have h2 := h.ftot n
    have h3 := Ft_nn h.nn n
    have key : sumTo (n + 1) (fun l => wt s (-(l : Int)) * S (n - l)) ≤ S n * sumTo (n + 1) (fun l => wt s (-(l : Int))) := by
      rw [← sumTo_mul]
      refine sumTo_le fun l hl => ?_
      have a := wt_nn h.nn (-(l : Int))
      have b := ih2 (n - l) (by omega)
      have c : wt s (-(l : Int)) * S (n - l) ≤ wt s (-(l : Int)) * S n := Rat.mul_le_mul_of_nonneg_left b a
      grind
    have h4 : p * S n ≤ p * S (n + 1) := by
      have e : sumTo (n + 1) (fun l => wt s (-(l : Int))) = 1 - p - Ft s n := by grind
      rw [e] at key
      have : 0 ≤ S n * Ft s n := Rat.mul_nonneg (by grind) h3
      rw [h1]; grind
    have h5 : S n ≤ S (n + 1) := by
      by_cases c : S n ≤ S (n + 1)
      · exact c
      · exfalso
        have : p * S (n + 1) < p * S n := Rat.mul_lt_mul_of_pos_left (by grind) hp
        grind
    refine ⟨by grind, fun k hk => ?_⟩
    by_cases e : k = n + 1
    · rw [e]; exact Rat.le_refl
    · have := ih2 k (by omega); grind
theorem Surv.le_one (h : Skip s p m) (hs : Surv s p m S) : ∀ n : Nat, ∀ k, k ≤ n → S k ≤ 1
  | 0, k, hk => by
    rw [show k = 0 by omega]
    have hp := h.ppos
    have hz := hs.z
    have hf := h.fsum 0
    have : sumTo 0 (Ft s) = 0 := rfl
    rw [this] at hf
    by_cases c : S 0 ≤ 1
    · exact c
    · exfalso
      have : p * 1 < p * S 0 := Rat.mul_lt_mul_of_pos_left (by grind) hp
      grind
  | n + 1, k, hk => by
    have ih := Surv.le_one h hs n
    by_cases e : k = n + 1
    · rw [e]
      have hp := h.ppos
      have hc := hs.conv h n
      have hf := h.fsum (n + 1)
      have h1 : sumTo (n + 1) (fun j => S j * Ft s (n - j)) ≤ sumTo (n + 1) (fun j => Ft s (n - j)) := sumTo_le fun j hj => by
        have a := Ft_nn h.nn (n - j)
        have b := ih j (by omega)
        have : Ft s (n - j) * S j ≤ Ft s (n - j) * 1 := Rat.mul_le_mul_of_nonneg_left b a
        show S j * Ft s (n - j) ≤ Ft s (n - j)
        grind
      have h2 : sumTo (n + 1) (fun j => Ft s (n - j)) = sumTo (n + 1) (Ft s) := by
        rw [← sumTo_rev (Ft s) (n + 1)]
        exact sumTo_congr fun k _ => by rw [show n + 1 - 1 - k = n - k by omega]
      by_cases c : S (n + 1) ≤ 1
      · exact c
      · exfalso
        have : p * 1 < p * S (n + 1) := Rat.mul_lt_mul_of_pos_left (by grind) hp
        grind
    · exact ih k (by omega)
/-- the chance of ruin, at any reserve -/
def psi (S : Nat → Rat) (x : Int) : Rat := if x < 0 then 1 else 1 - S x.toNat
theorem Surv.mean (h : Skip s p m) (hs : Surv s p m S) (r : Nat) : Ex s (fun v => psi S ((r : Int) + v)) = psi S (r : Int) := by
  have h1 := ex_split h.up r (fun v => if (r : Int) + v < 0 then 0 else S ((r : Int) + v).toNat) fun v hv => if_pos (by omega)
  have h2 : Ex s (fun v => psi S ((r : Int) + v) + (if (r : Int) + v < 0 then 0 else S ((r : Int) + v).toNat)) = 1 := by
    refine Eq.trans ?_ h.one
    exact ex_congr fun q _ => by
      show psi S ((r : Int) + q.1) + (if (r : Int) + q.1 < 0 then 0 else S ((r : Int) + q.1).toNat) = 1
      unfold psi
      split <;> grind
  rw [ex_add, h1] at h2
  have h3 := hs.st r
  have e1 : (if (r : Int) + 1 < 0 then (0 : Rat) else S ((r : Int) + 1).toNat) = S (r + 1) := by
    rw [if_neg (by omega), show ((r : Int) + 1).toNat = r + 1 by omega]
  have e2 : sumTo (r + 1) (fun l => wt s (-(l : Int)) * (if (r : Int) + -(l : Int) < 0 then (0 : Rat) else S ((r : Int) + -(l : Int)).toNat)) = sumTo (r + 1) (fun l => wt s (-(l : Int)) * S (r - l)) := sumTo_congr fun l hl => by
    show wt s (-(l : Int)) * (if (r : Int) + -(l : Int) < 0 then (0 : Rat) else S ((r : Int) + -(l : Int)).toNat) = _
    rw [if_neg (by omega), show ((r : Int) + -(l : Int)).toNat = r - l by omega]
  rw [e2] at h2
  simp only [e1] at h2
  have e3 : wt s 1 = p := h.p1
  rw [e3] at h2
  have e4 : psi S (r : Int) = 1 - S r := by unfold psi; rw [if_neg (by omega), Int.toNat_natCast]
  rw [e4]
  grind
end MX

/-! The same in integers. -/
namespace MX
open PySem L2 DL
def hornF (g : Int) (k : Int → Int) (ts : List Int) (last : Nat) : Nat → Int
  | 0 => 0
  | j + 1 => hornF g k ts last j * g + k (-((last - j : Nat) : Int)) * ts.getD j 0
def topsZ (L g : Int) (k : Int → Int) (t0 : Int) : Nat → List Int
  | 0 => [t0]
  | n + 1 => topsZ L g k t0 n ++ [L * (topsZ L g k t0 n).getD n 0 - hornF g k (topsZ L g k t0 n) n (n + 1)]
def tZ (L g : Int) (k : Int → Int) (t0 : Int) (n : Nat) : Int := (topsZ L g k t0 n).getD n 0
def lowsZ (g : Int) (n : Nat) : List Int := (List.range (n + 1)).map fun i => g ^ (i + 1)
variable {L g : Int} {k : Int → Int} {t0 : Int}
theorem topsZ_len : ∀ n : Nat, (topsZ L g k t0 n).length = n + 1
  | 0 => rfl
  | n + 1 => by unfold topsZ; rw [List.length_append, topsZ_len n]; rfl
theorem lowsZ_len (g : Int) (n : Nat) : (lowsZ g n).length = n + 1 := by unfold lowsZ; rw [List.length_map, List.length_range]
theorem lowsZ_succ (g : Int) (n : Nat) : lowsZ g (n + 1) = lowsZ g n ++ [g ^ (n + 2)] := by unfold lowsZ; rw [List.range_succ, List.map_append]; rfl
theorem lowsZ_at (g : Int) {n i : Nat} (h : i ≤ n) : (lowsZ g n)[i]? = some (g ^ (i + 1)) := by unfold lowsZ; rw [List.getElem?_map, List.getElem?_range (by omega)]; rfl
theorem topsZ_at : ∀ {n i : Nat}, i ≤ n → (topsZ L g k t0 n).getD i 0 = tZ L g k t0 i
  | 0, i, h => by rw [show i = 0 by omega]; rfl
  | n + 1, i, h => by
    by_cases e : i = n + 1
    · rw [e]; rfl
    · have e1 : (topsZ L g k t0 (n + 1)).getD i 0 = (topsZ L g k t0 n).getD i 0 := by
        show (topsZ L g k t0 n ++ _).getD i 0 = _
        rw [List.getD_eq_getElem?_getD, List.getElem?_append_left (by rw [topsZ_len]; omega), List.getD_eq_getElem?_getD]
      rw [e1]
      exact topsZ_at (by omega)
theorem topsZ_get {n i : Nat} (h : i ≤ n) : (topsZ L g k t0 n)[i]? = some (tZ L g k t0 i) := by
  rw [← topsZ_at h, List.getD_eq_getElem?_getD, List.getElem?_eq_getElem (by rw [topsZ_len]; omega)]; rfl
theorem topsZ_succ (n : Nat) : topsZ L g k t0 (n + 1) = topsZ L g k t0 n ++ [tZ L g k t0 (n + 1)] := by
  have e : tZ L g k t0 (n + 1) = L * (topsZ L g k t0 n).getD n 0 - hornF g k (topsZ L g k t0 n) n (n + 1) := by
    unfold tZ
    show (topsZ L g k t0 n ++ [L * (topsZ L g k t0 n).getD n 0 - hornF g k (topsZ L g k t0 n) n (n + 1)]).getD (n + 1) 0 = _
    rw [List.getD_eq_getElem?_getD, List.getElem?_append_right (by rw [topsZ_len]; omega), topsZ_len, Nat.sub_self]; rfl
  rw [e]; rfl
theorem tZ_succ (n : Nat) : tZ L g k t0 (n + 1) = L * tZ L g k t0 n - hornF g k (topsZ L g k t0 n) n (n + 1) := by
  unfold tZ
  show (topsZ L g k t0 n ++ [L * (topsZ L g k t0 n).getD n 0 - hornF g k (topsZ L g k t0 n) n (n + 1)]).getD (n + 1) 0 = _
  rw [List.getD_eq_getElem?_getD, List.getElem?_append_right (by rw [topsZ_len]; omega), topsZ_len, Nat.sub_self]; rfl
/-- what has been added up, as a sum -/
theorem horn_sum {n : Nat} (j : Nat) (hj : j ≤ n + 1) : (hornF g k (topsZ L g k t0 n) n j : Rat) * (g : Rat) ^ (n + 1 - j) = sumTo j (fun i => (k (-((n - i : Nat) : Int)) : Rat) * (tZ L g k t0 i : Rat) * (g : Rat) ^ (n - i)) := by
  induction j with
  | zero => show ((0 : Int) : Rat) * _ = 0; have : ((0 : Int) : Rat) = 0 := rfl; grind
  | succ j ih =>
    have ih := ih (by omega)
    show ((hornF g k (topsZ L g k t0 n) n j * g + k (-((n - j : Nat) : Int)) * (topsZ L g k t0 n).getD j 0 : Int) : Rat) * (g : Rat) ^ (n + 1 - (j + 1)) = sumTo j _ + _
    rw [topsZ_at (by omega), ← ih, Rat.intCast_add, Rat.intCast_mul, Rat.intCast_mul, show n + 1 - (j + 1) = n - j by omega, show n + 1 - j = n - j + 1 by omega, Rat.pow_succ]
    grind
theorem pow_ne {x : Rat} (h : x ≠ 0) : ∀ n : Nat, x ^ n ≠ 0
  | 0 => by rw [Rat.pow_zero]; grind
  | n + 1 => by rw [Rat.pow_succ]; have := pow_ne h n; grind
theorem pow_pos {x : Rat} (h : 0 < x) : ∀ n : Nat, 0 < x ^ n
  | 0 => by rw [Rat.pow_zero]; grind
  | n + 1 => by rw [Rat.pow_succ]; exact Rat.mul_pos (pow_pos h n) h
theorem pow_add (x : Rat) (a : Nat) : ∀ b : Nat, x ^ (a + b) = x ^ a * x ^ b
  | 0 => by rw [Rat.pow_zero, Nat.add_zero]; grind
  | b + 1 => by rw [← Nat.add_assoc, Rat.pow_succ, pow_add x a b, Rat.pow_succ]; grind
def svR (L g : Int) (k : Int → Int) (t0 : Int) (n : Nat) : Rat := (tZ L g k t0 n : Rat) / (g : Rat) ^ (n + 1)
structure IntOf (s : Spr) (p m : Rat) (L g : Int) (k : Int → Int) (t0 : Int) : Prop where
  L0 : 0 < L
  kv : ∀ v : Int, (k v : Rat) = wt s v * (L : Rat)
  gp : (g : Rat) = p * (L : Rat)
  tm : (t0 : Rat) = m * (L : Rat)
  p0 : 0 < p
variable {s : Spr} {p m : Rat}
theorem IntOf.g0 (h : IntOf s p m L g k t0) : (0 : Rat) < (g : Rat) := by
  rw [h.gp]
  exact Rat.mul_pos h.p0 (by exact_mod_cast h.L0)
theorem IntOf.surv (h : IntOf s p m L g k t0) : Surv s p m (svR L g k t0) := by
  have g0 := h.g0
  have hg : (g : Rat) ≠ 0 := by grind
  have hL : (0 : Rat) < (L : Rat) := by exact_mod_cast h.L0
  constructor
  · unfold svR
    have e : tZ L g k t0 0 = t0 := rfl
    rw [e, h.tm]
    have e1 : (g : Rat) ^ (0 + 1) = (g : Rat) := by rw [Rat.pow_succ, Rat.pow_zero]; grind
    rw [e1]
    have hp := h.p0
    have hgp := h.gp
    have hL' : (L : Rat) ≠ 0 := by grind
    have hp0 : p ≠ 0 := by grind
    generalize (L : Rat) = LL at *
    generalize (g : Rat) = GG at *
    subst hgp
    grind
  · intro r
    have hp := pow_ne hg (r + 1)
    have hsum := horn_sum (L := L) (g := g) (k := k) (t0 := t0) (n := r) (r + 1) (Nat.le_refl _)
    rw [Nat.sub_self, Rat.pow_zero] at hsum
    have e1 : sumTo (r + 1) (fun l => wt s (-(l : Int)) * svR L g k t0 (r - l)) = (1 / ((L : Rat) * (g : Rat) ^ (r + 1))) * sumTo (r + 1) (fun i => (k (-((r - i : Nat) : Int)) : Rat) * (tZ L g k t0 i : Rat) * (g : Rat) ^ (r - i)) := by
      rw [← sumTo_mul, ← sumTo_rev (fun i => (1 / ((L : Rat) * (g : Rat) ^ (r + 1))) * ((k (-((r - i : Nat) : Int)) : Rat) * (tZ L g k t0 i : Rat) * (g : Rat) ^ (r - i)))]
      refine sumTo_congr fun l hl => ?_
      show wt s (-(l : Int)) * ((tZ L g k t0 (r - l) : Rat) / (g : Rat) ^ (r - l + 1)) = _
      rw [show r - (r + 1 - 1 - l) = l by omega, show r + 1 - 1 - l = r - l by omega, h.kv]
      have e2 : (g : Rat) ^ (r + 1) = (g : Rat) ^ (r - l + 1) * (g : Rat) ^ l := by rw [← pow_add]; congr 1; omega
      have n1 := pow_ne hg (r - l + 1)
      have n2 := pow_ne hg l
      rw [e2]
      generalize (g : Rat) ^ (r - l + 1) = A at *
      generalize (g : Rat) ^ l = B at *
      generalize wt s (-(l : Int)) = W
      generalize (tZ L g k t0 (r - l) : Rat) = T
      have hL' : (L : Rat) ≠ 0 := by grind
      generalize (L : Rat) = LL at *
      grind
    have e3 : svR L g k t0 (r + 1) = ((L : Rat) * (tZ L g k t0 r : Rat) - (hornF g k (topsZ L g k t0 r) r (r + 1) : Rat)) / ((g : Rat) ^ (r + 1) * (g : Rat)) := by
      unfold svR
      rw [tZ_succ, Rat.intCast_sub, Rat.intCast_mul, ← Rat.pow_succ]
    rw [e1, ← hsum, e3]
    unfold svR
    have hgp := h.gp
    generalize (g : Rat) ^ (r + 1) = A at *
    generalize (hornF g k (topsZ L g k t0 r) r (r + 1) : Rat) = Hn
    generalize (tZ L g k t0 r : Rat) = T
    have hL' : (L : Rat) ≠ 0 := by grind
    have hp0 : p ≠ 0 := by have := h.p0; grind
    generalize (L : Rat) = LL at *
    generalize (g : Rat) = GG at *
    subst hgp
    grind
/-- the sizes -/
theorem IntOf.size (h : IntOf s p m L g k t0) (hs : Skip s p m) (n : Nat) : 0 < tZ L g k t0 n ∧ tZ L g k t0 n ≤ g ^ (n + 1) := by
  have sv := h.surv
  have h1 := (sv.pos hs n).1
  have h2 := sv.le_one hs n n (Nat.le_refl _)
  have gp := pow_pos h.g0 (n + 1)
  have gn : (g : Rat) ^ (n + 1) ≠ 0 := by grind
  have e : (tZ L g k t0 n : Rat) = svR L g k t0 n * (g : Rat) ^ (n + 1) := by unfold svR; grind
  have a1 : (0 : Rat) < (tZ L g k t0 n : Rat) := by rw [e]; exact Rat.mul_pos h1 gp
  have a2 : (tZ L g k t0 n : Rat) ≤ ((g ^ (n + 1) : Int) : Rat) := by
    rw [Rat.intCast_pow, e]
    have := Rat.mul_le_mul_of_nonneg_right h2 (show 0 ≤ (g : Rat) ^ (n + 1) by grind)
    grind
  exact ⟨by exact_mod_cast a1, by exact_mod_cast a2⟩
theorem IntOf.gpos (h : IntOf s p m L g k t0) : 0 < g := by have := h.g0; exact_mod_cast this
theorem IntOf.knn (h : IntOf s p m L g k t0) (hs : Skip s p m) (v : Int) : 0 ≤ k v := by
  have h1 := wt_nn hs.nn v
  have hL : (0 : Rat) < (L : Rat) := by exact_mod_cast h.L0
  have h2 : (0 : Rat) ≤ (k v : Rat) := by rw [h.kv]; exact Rat.mul_nonneg h1 (by grind)
  exact_mod_cast h2
theorem IntOf.horn (h : IntOf s p m L g k t0) (hs : Skip s p m) (n : Nat) : ∀ j, j ≤ n + 1 → 0 ≤ hornF g k (topsZ L g k t0 n) n j ∧ hornF g k (topsZ L g k t0 n) n j ≤ L * g ^ (n + 1) := by
  have hg := h.gpos
  have nn : ∀ j, j ≤ n + 1 → 0 ≤ hornF g k (topsZ L g k t0 n) n j := by
    intro j
    induction j with
    | zero => intro _; exact Int.le_refl _
    | succ j ih =>
      intro hj
      have ih := ih (by omega)
      show 0 ≤ hornF g k (topsZ L g k t0 n) n j * g + k (-((n - j : Nat) : Int)) * (topsZ L g k t0 n).getD j 0
      rw [topsZ_at (by omega)]
      have := h.knn hs (-((n - j : Nat) : Int))
      have := (h.size hs j).1
      exact Int.add_nonneg (Int.mul_nonneg ih (by omega)) (Int.mul_nonneg (by assumption) (by omega))
  have up : ∀ d j, j + d = n + 1 → hornF g k (topsZ L g k t0 n) n j ≤ hornF g k (topsZ L g k t0 n) n (n + 1) := by
    intro d
    induction d with
    | zero => intro j hj; rw [show j = n + 1 by omega]; exact Int.le_refl _
    | succ d ih =>
      intro j hj
      have h1 := ih (j + 1) (by omega)
      have h2 := nn j (by omega)
      have h3 : hornF g k (topsZ L g k t0 n) n j ≤ hornF g k (topsZ L g k t0 n) n (j + 1) := by
        show _ ≤ hornF g k (topsZ L g k t0 n) n j * g + k (-((n - j : Nat) : Int)) * (topsZ L g k t0 n).getD j 0
        rw [topsZ_at (by omega)]
        have a1 := h.knn hs (-((n - j : Nat) : Int))
        have a2 := (h.size hs j).1
        have a3 : 0 ≤ k (-((n - j : Nat) : Int)) * tZ L g k t0 j := Int.mul_nonneg a1 (by omega)
        have a4 : hornF g k (topsZ L g k t0 n) n j * 1 ≤ hornF g k (topsZ L g k t0 n) n j * g := Int.mul_le_mul_of_nonneg_left (by omega) h2
        omega
      omega
  intro j hj
  refine ⟨nn j hj, Int.le_trans (up (n + 1 - j) j (by omega)) ?_⟩
  have e := tZ_succ (L := L) (g := g) (k := k) (t0 := t0) n
  have h1 := (h.size hs (n + 1)).1
  have h2 := (h.size hs n).2
  have h3 : L * tZ L g k t0 n ≤ L * g ^ (n + 1) := Int.mul_le_mul_of_nonneg_left h2 (Int.le_of_lt h.L0)
  omega
end MX

/-! Euclid's steps, by Fibonacci's numbers. -/
namespace MX
open PySem L2 DL
def fb : Nat → Nat × Nat
  | 0 => (0, 1)
  | n + 1 => ((fb n).2, (fb n).1 + (fb n).2)
def fbA : Nat → Nat → Nat → Nat
  | 0, a, _ => a
  | n + 1, a, b => fbA n b (a + b)
theorem fbA_is : ∀ (n i : Nat), fbA n (fb i).1 (fb i).2 = (fb (n + i)).1
  | 0, i => by rw [Nat.zero_add]; rfl
  | n + 1, i => by
    show fbA n (fb i).2 ((fb i).1 + (fb i).2) = _
    have := fbA_is n (i + 1)
    rw [show n + 1 + i = n + (i + 1) by omega, ← this]; rfl
theorem fb_big : 2 ^ 2760 ≤ (fb 3980).1 := by
  rw [show (fb 3980).1 = fbA 3980 0 1 from (fbA_is 3980 0).symm]
  decide +kernel
theorem fb_1 (n : Nat) : (fb n).2 = (fb (n + 1)).1 := rfl
theorem eu_fib : ∀ (n a b : Nat), (∀ i, i ≤ n → (eu a b i).2 ≠ 0) → Nat.gcd a b * (fb (n + 1)).1 ≤ b ∧ (b ≤ a → Nat.gcd a b * (fb (n + 2)).1 ≤ a)
  | 0, a, b, h => by
    have hb : b ≠ 0 := h 0 (Nat.le_refl _)
    have e1 : (fb (0 + 1)).1 = 1 := rfl
    have e2 : (fb (0 + 2)).1 = 1 := rfl
    have hg : Nat.gcd a b ≤ b := Nat.gcd_le_right _ (by omega)
    rw [e1, e2, Nat.mul_one]
    exact ⟨hg, fun h => by omega⟩
  | n + 1, a, b, h => by
    have hb : b ≠ 0 := h 0 (Nat.zero_le _)
    obtain ⟨h1, h2⟩ := eu_fib n b (a % b) fun i hi => by rw [← eu_shift]; exact h (i + 1) (by omega)
    have hm : a % b < b := Nat.mod_lt _ (by omega)
    have h2 := h2 (by omega)
    have eg : Nat.gcd b (a % b) = Nat.gcd a b := by rw [Nat.gcd_comm, ← Nat.gcd_rec, Nat.gcd_comm]
    rw [eg] at h1 h2
    refine ⟨h2, fun hab => ?_⟩
    have e : (fb (n + 1 + 2)).1 = (fb (n + 1)).1 + (fb (n + 2)).1 := rfl
    rw [e, Nat.mul_add]
    have h3 : b + a % b ≤ a := by
      have := Nat.div_add_mod a b
      have h4 : 1 ≤ a / b := Nat.div_pos hab (by omega)
      have h5 : b * 1 ≤ b * (a / b) := Nat.mul_le_mul_left b h4
      omega
    omega
theorem eu_few {t l : Int} (h : 0 < l) (hd : (Rat.divInt t l).den < 2 ^ 2760) {k : Nat} (h3 : ∀ i, i < k → (eu t.natAbs l.natAbs i).2 ≠ 0) : k < 4000 := by
  by_cases c : k < 4000
  · exact c
  · exfalso
    obtain ⟨h1, _⟩ := eu_fib 3979 t.natAbs l.natAbs fun i hi => h3 i (by omega)
    obtain ⟨_, e2⟩ := divInt_parts (t := t) (l := l) (by omega)
    have hg := gcd_pos (t := t) (l := l) (by omega)
    have hs : sgcd t l = ((Nat.gcd t.natAbs l.natAbs : Nat) : Int) := by unfold sgcd; rw [if_neg (by omega)]
    rw [Int.fdiv_eq_ediv_of_dvd (sgcd_low t l), hs] at e2
    have hdv := Nat.gcd_dvd_right t.natAbs l.natAbs
    have e3 : (Rat.divInt t l).den = l.natAbs / Nat.gcd t.natAbs l.natAbs := by
      have : l = (l.natAbs : Int) := by omega
      rw [this] at e2
      have e4 : ((l.natAbs : Int) / (Nat.gcd t.natAbs l.natAbs : Int)) = ((l.natAbs / Nat.gcd t.natAbs l.natAbs : Nat) : Int) := rfl
      simp only [Int.natAbs_natCast] at e2
      rw [e4] at e2
      rw [← this] at e2
      exact_mod_cast e2
    have h4 : (fb (3979 + 1)).1 ≤ l.natAbs / Nat.gcd t.natAbs l.natAbs := (Nat.le_div_iff_mul_le hg).mpr (by rw [Nat.mul_comm]; exact h1)
    have h5 := fb_big
    rw [← e3] at h4
    have : (fb (3979 + 1)).1 = (fb 3980).1 := rfl
    omega
end MX

/-! Spreads of whole parts of a small sum. -/
namespace MX
open PySem L2 DL
def Dn (D : Int) (q : Rat) : Prop := ∃ N : Int, q * (D : Rat) = (N : Rat)
theorem dn_den {D : Int} {q : Rat} (hD : 0 < D) (h : Dn D q) : (q.den : Int) ∣ D := by
  obtain ⟨N, h⟩ := h
  have hD0 : (D : Rat) ≠ 0 := fun z => (by have h0 : D = 0 := Rat.intCast_inj.mp z; omega)
  have e : q = Rat.divInt N D := by rw [Rat.divInt_eq_div, ← h]; generalize (D : Rat) = DD at *; grind
  obtain ⟨_, e2⟩ := divInt_parts (t := N) (l := D) (by omega)
  rw [Int.fdiv_eq_ediv_of_dvd (sgcd_low N D)] at e2
  have := Int.ediv_mul_cancel (sgcd_low N D)
  rw [e, e2]
  exact ⟨_, this.symm⟩
theorem Dn.of {D : Int} {q : Rat} (h : (q.den : Int) ∣ D) : Dn D q := by
  obtain ⟨c, hc⟩ := h
  refine ⟨q.num * c, ?_⟩
  have h1 := num_is q
  have hd : ((q.den : Int) : Rat) ≠ 0 := fun z => den_ne q (Rat.intCast_inj.mp z)
  rw [hc, Rat.intCast_mul, Rat.intCast_mul]
  generalize (q.num : Rat) = A at *
  generalize ((q.den : Int) : Rat) = B at *
  generalize (c : Rat) = CC at *
  rw [h1]; grind
theorem Dn.zero (D : Int) : Dn D 0 := ⟨0, by have : ((0 : Int) : Rat) = 0 := rfl; grind⟩
theorem Dn.add {D : Int} {p q : Rat} (h : Dn D p) (h' : Dn D q) : Dn D (p + q) := by
  obtain ⟨a, ha⟩ := h
  obtain ⟨b, hb⟩ := h'
  exact ⟨a + b, by rw [Rat.intCast_add, ← ha, ← hb]; grind⟩
theorem Dn.sub {D : Int} {p q : Rat} (h : Dn D p) (h' : Dn D q) : Dn D (p - q) := by
  obtain ⟨a, ha⟩ := h
  obtain ⟨b, hb⟩ := h'
  exact ⟨a - b, by rw [Rat.intCast_sub, ← ha, ← hb]; grind⟩
theorem Dn.mul {D E : Int} {p q : Rat} (h : Dn D p) (h' : Dn E q) : Dn (D * E) (p * q) := by
  obtain ⟨a, ha⟩ := h
  obtain ⟨b, hb⟩ := h'
  exact ⟨a * b, by rw [Rat.intCast_mul, Rat.intCast_mul, ← ha, ← hb]; grind⟩
theorem Dn.up {D E : Int} {p : Rat} (h : Dn D p) : Dn (D * E) p := by
  obtain ⟨a, ha⟩ := h
  exact ⟨a * E, by rw [Rat.intCast_mul, Rat.intCast_mul, ← ha]; grind⟩
theorem Dn.int (D v : Int) : Dn D (v : Rat) := ⟨v * D, by rw [Rat.intCast_mul]⟩
theorem bt_leq {n : Nat} {x y : Int} (h : Bt n y) (h0 : 0 ≤ x) (hx : x ≤ y) : Bt n x := by unfold Bt at *; omega
theorem qb_dn {D B : Int} {q : Rat} {n m : Nat} (hD : 0 < D) (hb : Bt n D) (hB : Bt m B) (h : Dn D q) (h0 : -(B : Rat) ≤ q) (h1 : q ≤ (B : Rat)) : Qb (m + n) q := by
  have hd := Int.le_of_dvd hD (dn_den hD h)
  have hq : 0 < (q.den : Int) := by have := q.den_pos; omega
  have bd : Bt n (q.den : Int) := bt_leq hb (by omega) hd
  refine ⟨?_, bd.mono (by omega)⟩
  have e := num_is q
  have hdr : (0 : Rat) < ((q.den : Int) : Rat) := by exact_mod_cast hq
  have e2 : (q.num : Rat) = q * ((q.den : Int) : Rat) := by generalize (q.num : Rat) = A at *; generalize ((q.den : Int) : Rat) = CC at *; rw [e]; grind
  have u1 : (q.num : Rat) ≤ ((B * (q.den : Int) : Int) : Rat) := by rw [e2, Rat.intCast_mul]; exact Rat.mul_le_mul_of_nonneg_right h1 (by grind)
  have u2 : ((-(B * (q.den : Int)) : Int) : Rat) ≤ (q.num : Rat) := by
    rw [e2, Rat.intCast_neg, Rat.intCast_mul]
    have := Rat.mul_le_mul_of_nonneg_right h0 (show (0 : Rat) ≤ ((q.den : Int) : Rat) by grind)
    grind
  have v1 : q.num ≤ B * (q.den : Int) := by exact_mod_cast u1
  have v2 : -(B * (q.den : Int)) ≤ q.num := by exact_mod_cast u2
  have hBd := hB.mul bd
  unfold Bt at *
  omega
theorem qb_01 {D : Int} {q : Rat} {n : Nat} (hD : 0 < D) (hb : Bt n D) (h : Dn D q) (h0 : 0 ≤ q) (h1 : q ≤ 1) : Qb (n + 1) q := by
  have := qb_dn (m := 1) (B := 1) hD hb (by decide) h (by show -((1 : Int) : Rat) ≤ q; have : ((1 : Int) : Rat) = 1 := rfl; grind) (by show q ≤ ((1 : Int) : Rat); have : ((1 : Int) : Rat) = 1 := rfl; grind)
  exact this.mono (by omega)
structure Sml (s : Spr) : Prop where
  can : Can s
  low : ∃ N : Int, 0 < N ∧ N < 8192 ∧ ∀ p ∈ s, (p.2.den : Int) ∣ N
  pos : ∀ p ∈ s, 0 < p.2 ∧ p.2 ≤ 1
  val : ∀ p ∈ s, -4000 ≤ p.1 ∧ p.1 ≤ 4000
  few : s.length ≤ 40
  ne : s ≠ []
  one : Ex s (fun _ => 1) = 1
structure Prt (vs ps : List Int) : Prop where
  len : vs.length = ps.length
  few : vs.length ≤ 40
  ne : vs ≠ []
  pos : ∀ x ∈ ps, 0 < x
  sum : ps.sum < 8192
  asc : vs.Pairwise (· < ·)
  val : ∀ v ∈ vs, -4000 ≤ v ∧ v ≤ 4000
theorem wtd_keys (vs ps : List Int) : (wtd vs ps).map (·.1) = vs := by
  unfold wtd
  rw [List.map_map]
  refine List.ext_getElem (by rw [List.length_map, List.length_range]) fun i h1 h2 => ?_
  rw [List.getElem_map, List.getElem_range]
  show vs.getD i 0 = vs[i]
  rw [List.getD_eq_getElem?_getD, List.getElem?_eq_getElem h2]; rfl
theorem le_psum : ∀ {l : List Int}, (∀ x ∈ l, 0 < x) → ∀ x ∈ l, x ≤ l.sum ∧ 0 ≤ l.sum
  | [], _, x, hx => nomatch hx
  | a :: l, h, x, hx => by
    have h1 := h a List.mem_cons_self
    have hl : 0 ≤ l.sum := by
      cases l with
      | nil => exact Int.le_refl _
      | cons b r => exact (le_psum (fun x hx => h x (List.mem_cons_of_mem _ hx)) b List.mem_cons_self).2
    rw [List.sum_cons]
    rcases List.mem_cons.mp hx with e | hx
    · subst e; omega
    · have := le_psum (fun x hx => h x (List.mem_cons_of_mem _ hx)) x hx; omega
theorem Prt.tot {vs ps : List Int} (h : Prt vs ps) : 0 < ps.sum := by
  cases e : ps with
  | nil => have := h.len; rw [e] at this; exact absurd (List.length_eq_zero_iff.mp this) h.ne
  | cons b r =>
    have := le_psum h.pos b (by rw [e]; exact List.mem_cons_self)
    have := h.pos b (by rw [e]; exact List.mem_cons_self)
    rw [← e]; omega
theorem Prt.mem {vs ps : List Int} (h : Prt vs ps) {p : Int × Rat} (hp : p ∈ wtd vs ps) : ∃ k, k < vs.length ∧ p = (vs.getD k 0, Rat.divInt (ps.getD k 0) ps.sum) ∧ vs.getD k 0 ∈ vs ∧ ps.getD k 0 ∈ ps := by
  obtain ⟨k, hk, rfl⟩ := List.mem_map.mp hp
  have hk := List.mem_range.mp hk
  have hk2 : k < ps.length := by rw [← h.len]; exact hk
  refine ⟨k, hk, rfl, ?_, ?_⟩
  · rw [List.getD_eq_getElem?_getD, List.getElem?_eq_getElem hk]; exact List.getElem_mem hk
  · rw [List.getD_eq_getElem?_getD, List.getElem?_eq_getElem hk2]; exact List.getElem_mem hk2
theorem Prt.sml {vs ps : List Int} (h : Prt vs ps) : Sml (wtd vs ps) := by
  have ht := h.tot
  have hT : (0 : Rat) < (ps.sum : Rat) := by exact_mod_cast ht
  have hp : ∀ p ∈ wtd vs ps, 0 < p.2 ∧ p.2 ≤ 1 := fun p hp => by
    obtain ⟨k, hk, rfl, h1, h2⟩ := h.mem hp
    have h3 := h.pos _ h2
    have h4 := (le_psum h.pos _ h2).1
    show 0 < Rat.divInt (ps.getD k 0) ps.sum ∧ Rat.divInt (ps.getD k 0) ps.sum ≤ 1
    rw [Rat.divInt_eq_div]
    have h3 : (0 : Rat) < (ps.getD k 0 : Rat) := by exact_mod_cast h3
    have h4 : (ps.getD k 0 : Rat) ≤ (ps.sum : Rat) := by exact_mod_cast h4
    generalize (ps.getD k 0 : Rat) = A at *
    generalize (ps.sum : Rat) = T at *
    have e : A / T * T = A := by grind
    constructor
    · by_cases c : 0 < A / T
      · exact c
      · exfalso
        have := Rat.mul_le_mul_of_nonneg_right (show A / T ≤ 0 by grind) (show 0 ≤ T by grind)
        grind
    · by_cases c : A / T ≤ 1
      · exact c
      · exfalso
        have := Rat.mul_lt_mul_of_pos_right (show 1 < A / T by grind) hT
        grind
  refine ⟨⟨by rw [wtd_keys]; exact h.asc, fun p hq => by have := (hp p hq).1; grind⟩, ⟨ps.sum, ht, h.sum, fun p hq => ?_⟩, hp, fun p hq => ?_, by rw [wtd_len]; exact h.few, fun z => h.ne (by rw [← wtd_keys vs ps, z]; rfl), ?_⟩
  · obtain ⟨k, hk, rfl, h1, h2⟩ := h.mem hq
    exact dn_den ht ⟨ps.getD k 0, by
      show Rat.divInt (ps.getD k 0) ps.sum * _ = _
      rw [Rat.divInt_eq_div]
      generalize (ps.getD k 0 : Rat) = A at *
      generalize (ps.sum : Rat) = T at *
      grind⟩
  · obtain ⟨k, hk, rfl, h1, h2⟩ := h.mem hq
    exact h.val _ h1
  · have e : Ex (wtd vs ps) (fun _ => 1) = mass (wtd vs ps) := rfl
    rw [e, mass_eq, wtd_snd h.len, sum_cs (by omega)]
/-- sums over a part of a spread -/
theorem ex_take (s : Spr) (f : Int → Rat) (i : Nat) (hi : i < s.length) : Ex (s.take (i + 1)) f = Ex (s.take i) f + (s[i]).2 * f (s[i]).1 := by
  rw [List.take_succ_eq_append_getElem hi, ex_app, ex_cons, ex_nil]; grind
theorem ex_take_le {s : Spr} {f : Int → Rat} (h : ∀ p ∈ s, 0 ≤ p.2 * f p.1) (i : Nat) : 0 ≤ Ex (s.take i) f ∧ Ex (s.take i) f ≤ Ex s f := by
  have nn : ∀ t : Spr, (∀ p ∈ t, 0 ≤ p.2 * f p.1) → 0 ≤ Ex t f := by
    intro t
    induction t with
    | nil => intro _; rw [ex_nil]; exact Rat.le_refl
    | cons p t ih =>
      intro ht
      rw [ex_cons]
      have := ih fun q hq => ht q (List.mem_cons_of_mem _ hq)
      have := ht p List.mem_cons_self
      grind
  have e : Ex s f = Ex (s.take i) f + Ex (s.drop i) f := by rw [← ex_app, List.take_append_drop]
  have := nn (s.drop i) fun p hp => h p (List.mem_of_mem_drop hp)
  exact ⟨nn _ fun p hp => h p (List.mem_of_mem_take hp), by grind⟩
theorem dn_ex {s : Spr} {D : Int} {f : Int → Rat} (h : ∀ p ∈ s, Dn D (p.2 * f p.1)) : Dn D (Ex s f) := by
  induction s with
  | nil => rw [ex_nil]; exact .zero D
  | cons p s ih => rw [ex_cons]; exact (h p List.mem_cons_self).add (ih fun q hq => h q (List.mem_cons_of_mem _ hq))
theorem ex_bd {s : Spr} {f : Int → Rat} {B : Rat} (h : ∀ p ∈ s, -B ≤ p.2 * f p.1 ∧ p.2 * f p.1 ≤ B) : -((s.length : Nat) : Rat) * B ≤ Ex s f ∧ Ex s f ≤ ((s.length : Nat) : Rat) * B := by
  induction s with
  | nil => rw [ex_nil]; show -((0 : Nat) : Rat) * B ≤ 0 ∧ 0 ≤ ((0 : Nat) : Rat) * B; have : ((0 : Nat) : Rat) = 0 := rfl; grind
  | cons p s ih =>
    rw [ex_cons, List.length_cons]
    have h1 := h p List.mem_cons_self
    have h2 := ih fun q hq => h q (List.mem_cons_of_mem _ hq)
    have : ((s.length + 1 : Nat) : Rat) = ((s.length : Nat) : Rat) + 1 := by exact_mod_cast rfl
    rw [this]
    grind
end MX

/-! Lists of values and of parts. -/
namespace MX
open PySem L2 DL
def rngF (lo : Int) (n : Nat) (p : Int → Bool) : List Int := (List.range n).filterMap fun k : Nat => if p (lo + (k : Int) * 1) = true then some (lo + (k : Int) * 1) else none
theorem rngF_enc (lo : Int) (n : Nat) (p : Int → Bool) : (rngF lo n p).map PyData.int = (List.range n).filterMap fun k : Nat => if p (lo + (k : Int) * 1) = true then some (PyData.int (lo + (k : Int) * 1)) else none := by
  unfold rngF
  rw [List.map_filterMap]
  congr 1
  funext k
  split <;> rfl
theorem rngF_mem {lo : Int} {n : Nat} {p : Int → Bool} {v : Int} (h : v ∈ rngF lo n p) : lo ≤ v ∧ v < lo + n := by
  obtain ⟨k, hk, e⟩ := List.mem_filterMap.mp h
  have hk := List.mem_range.mp hk
  split at e
  · cases e; omega
  · cases e
theorem rngF_asc (lo : Int) (n : Nat) (p : Int → Bool) : (rngF lo n p).Pairwise (· < ·) := by
  unfold rngF
  refine List.Pairwise.filterMap _ (fun a b hab x hx y hy => ?_) List.pairwise_lt_range
  split at hx <;> split at hy
  · cases hx; cases hy; omega
  · cases hy
  · cases hx
  · cases hx
theorem rngF_len (lo : Int) (n : Nat) (p : Int → Bool) : (rngF lo n p).length ≤ n := Nat.le_trans (List.length_filterMap_le _ _) (by rw [List.length_range]; exact Nat.le_refl _)
theorem asc_nodup {l : List Int} (h : l.Pairwise (· < ·)) : l.Nodup := h.imp fun h => by omega
theorem srt_asc {l : List Int} (h : l.Nodup) : (srt l).Pairwise (· < ·) := lt_of_nodup (srt_le l) ((srt_perm l).nodup_iff.mpr h)
theorem srt_mem {l : List Int} {v : Int} : v ∈ srt l ↔ v ∈ l := (srt_perm l).mem_iff
theorem srt_len (l : List Int) : (srt l).length = l.length := (srt_perm l).length_eq
theorem nodup_snoc {l : List Int} {v : Int} (h : l.Nodup) (hv : v ∉ l) : (l ++ [v]).Nodup := by
  rw [List.nodup_append]
  exact ⟨h, List.pairwise_singleton _ _, fun a ha b hb z => hv (by rw [List.mem_singleton] at hb; rw [← hb, ← z]; exact ha)⟩
theorem set_sum : ∀ (l : List Int) (i : Nat) (y : Int), i < l.length → (l.set i y).sum = l.sum - l.getD i 0 + y
  | [], i, y, h => absurd h (by simp)
  | a :: l, 0, y, h => by
    rw [List.set_cons_zero, List.sum_cons, List.sum_cons]
    show y + l.sum = a + l.sum - a + y
    omega
  | a :: l, i + 1, y, h => by
    rw [List.set_cons_succ, List.sum_cons, List.sum_cons, set_sum l i y (by simpa using h)]
    have : (a :: l).getD (i + 1) 0 = l.getD i 0 := by simp [List.getD_cons_succ]
    rw [this]; omega
theorem sum_le_c {c : Int} : ∀ {l : List Int}, (∀ x ∈ l, x ≤ c) → l.sum ≤ c * (l.length : Int)
  | [], _ => by simp
  | x :: l, h => by
    have ih := sum_le_c fun y hy => h y (List.mem_cons_of_mem x hy)
    have h1 := h x List.mem_cons_self
    rw [List.sum_cons, List.length_cons]
    have : c * ((l.length + 1 : Nat) : Int) = c * (l.length : Int) + c := by rw [show ((l.length + 1 : Nat) : Int) = (l.length : Int) + 1 by omega, Int.mul_add, Int.mul_one]
    omega
/-- parts of a size -/
def prF (d : Int) (m a q : Int) (n : Nat) : List Int := (List.range n).map fun k : Nat => 1 + (d.fdiv (m * (k : Int) + a)).fmod q
theorem prF_len (d m a q : Int) (n : Nat) : (prF d m a q n).length = n := by unfold prF; rw [List.length_map, List.length_range]
theorem prF_bd {d m a q : Int} (hq : 0 < q) {n : Nat} {x : Int} (h : x ∈ prF d m a q n) : 1 ≤ x ∧ x ≤ q := by
  obtain ⟨k, _, rfl⟩ := List.mem_map.mp h
  have := fm2 (x := d.fdiv (m * (k : Int) + a)) hq
  omega
theorem prF_at {d m a q : Int} {n k : Nat} (h : k < n) : (prF d m a q n)[k]? = some (1 + (d.fdiv (m * (k : Int) + a)).fmod q) := by unfold prF; rw [List.getElem?_map, List.getElem?_range h]; rfl
theorem getD_mem {l : List Int} {i : Nat} (h : i < l.length) : l.getD i 0 ∈ l := by rw [List.getD_eq_getElem?_getD, List.getElem?_eq_getElem h]; exact List.getElem_mem h
theorem getD_at {l : List Int} {i : Nat} (h : i < l.length) : l[i]? = some (l.getD i 0) := by rw [List.getD_eq_getElem?_getD, List.getElem?_eq_getElem h]; rfl
/-- a set of values that is laid in order -/
structure VsO (n : Nat) (vs : List Int) : Prop where
  nd : vs.Nodup
  val : ∀ v ∈ vs, -4000 ≤ v ∧ v ≤ 4000
  len : vs.length ≤ n
  ne : vs ≠ []
structure PsO (b : Int) (ps : List Int) : Prop where
  pos : ∀ x ∈ ps, 0 < x
  sum : ps.sum ≤ b
theorem PsO.set {b y c : Int} {ps : List Int} (h : PsO b ps) {i : Nat} (hi : i < ps.length) (hy : 0 ≤ y) (hc : y ≤ c) : PsO (b + c) (ps.set i (ps.getD i 0 + y)) := by
  have hp := h.pos _ (getD_mem hi)
  refine ⟨fun x hx => ?_, ?_⟩
  · rcases List.mem_or_eq_of_mem_set hx with h2 | h2
    · exact h.pos x h2
    · omega
  · rw [set_sum ps i _ hi]
    have := h.sum
    omega
theorem prF_ps {d m a q : Int} (hq : 0 < q) (n : Nat) : PsO (q * (n : Int)) (prF d m a q n) := by
  refine ⟨fun x hx => by have := prF_bd hq hx; omega, ?_⟩
  have := sum_le_c (c := q) fun x hx => (prF_bd (d := d) (m := m) (a := a) (n := n) hq hx).2
  rw [prF_len] at this
  exact this
end MX

/-! Binary digits, powers. -/
namespace MX
open PySem L2 DL
def stepB (m : Nat) (c : Char) : Nat := 2 * m + if c = '1' then 1 else 0
def valB (l : List Char) : Nat := l.foldl stepB 0
theorem valB_snoc (l : List Char) (c : Char) : valB (l ++ [c]) = stepB (valB l) c := by unfold valB; rw [List.foldl_append]; rfl
theorem bin_ok : ∀ n : Nat, (∀ c ∈ Nat.toDigits 2 n, c = '0' ∨ c = '1') ∧ valB (Nat.toDigits 2 n) = n := by
  intro n
  induction n using Nat.strongRecOn with
  | _ n ih =>
    rw [Nat.toDigits_eq_if (by decide)]
    by_cases h : n < 2
    · rw [if_pos h]
      have : n = 0 ∨ n = 1 := by omega
      rcases this with rfl | rfl
      · exact ⟨by decide, by decide⟩
      · exact ⟨by decide, by decide⟩
    · rw [if_neg h]
      obtain ⟨h1, h2⟩ := ih (n / 2) (by omega)
      have hm : n % 2 = 0 ∨ n % 2 = 1 := by omega
      refine ⟨fun c hc => ?_, ?_⟩
      · rcases List.mem_append.mp hc with z | z
        · exact h1 c z
        · rw [List.mem_singleton] at z
          rcases hm with e | e <;> rw [e] at z
          · exact .inl z
          · exact .inr z
      · rw [valB_snoc, h2]
        unfold stepB
        rcases hm with e | e <;> rw [e]
        · have : ¬(Nat.digitChar 0 = '1') := by decide
          rw [if_neg this]; omega
        · have : Nat.digitChar 1 = '1' := by decide
          rw [if_pos this]; omega
theorem valB_take (l : List Char) (i : Nat) : valB (l.take i) ≤ valB l := by
  have mono : ∀ (r : List Char) (m : Nat), m ≤ r.foldl stepB m := by
    intro r
    induction r with
    | nil => intro m; exact Nat.le_refl _
    | cons c r ih =>
      intro m
      refine Nat.le_trans ?_ (ih (stepB m c))
      unfold stepB; omega
  have e : valB l = (l.drop i).foldl stepB (valB (l.take i)) := by
    unfold valB
    rw [← List.foldl_append, List.take_append_drop]
  rw [e]
  exact mono _ _
theorem bt_pow {k : Nat} {b : Int} (h : Bt k b) : ∀ n : Nat, Bt (k * n + 1) (b ^ n)
  | 0 => by rw [Int.pow_zero]; exact Bt.one (by omega)
  | n + 1 => by
    rw [Int.pow_succ]
    exact ((bt_pow h n).mul h).mono (by rw [Nat.mul_succ]; omega)
end MX

/-! A fraction times a power, in lowest terms. -/
namespace MX
open PySem L2 DL
theorem divInt_dvd {t l : Int} (h : l ≠ 0) : (Rat.divInt t l).num ∣ t ∧ ((Rat.divInt t l).den : Int) ∣ l := by
  obtain ⟨e1, e2⟩ := divInt_parts (t := t) h
  rw [Int.fdiv_eq_ediv_of_dvd (sgcd_top t l)] at e1
  rw [Int.fdiv_eq_ediv_of_dvd (sgcd_low t l)] at e2
  rw [e1, e2]
  exact ⟨⟨_, (Int.ediv_mul_cancel (sgcd_top t l)).symm⟩, ⟨_, (Int.ediv_mul_cancel (sgcd_low t l)).symm⟩⟩
theorem coprime_of {a b c d : Int} (h : Nat.Coprime a.natAbs b.natAbs) (h1 : c ∣ a) (h2 : d ∣ b) : Nat.Coprime c.natAbs d.natAbs :=
  Nat.Coprime.coprime_dvd_left (Int.natAbs_dvd_natAbs.mpr h1) (Nat.Coprime.coprime_dvd_right (Int.natAbs_dvd_natAbs.mpr h2) h)
theorem parts_of {x y : Int} (hy : 0 < y) (h : Nat.Coprime x.natAbs y.natAbs) : (Rat.divInt x y).num = x ∧ ((Rat.divInt x y).den : Int) = y := by
  obtain ⟨e1, e2⟩ := divInt_parts (t := x) (l := y) (by omega)
  have e : sgcd x y = 1 := by
    unfold sgcd
    rw [if_neg (by omega)]
    have : Nat.gcd x.natAbs y.natAbs = 1 := h
    rw [this]; rfl
  rw [e] at e1 e2
  rw [e1, e2]
  exact ⟨by simp [Int.fdiv_eq_ediv], by simp [Int.fdiv_eq_ediv]⟩
theorem ratpow (q : Rat) : ∀ e : Nat, q ^ e = ((q.num ^ e : Int) : Rat) / (((q.den : Int) ^ e : Int) : Rat)
  | 0 => by rw [Rat.pow_zero, Int.pow_zero, Int.pow_zero]; have : ((1 : Int) : Rat) = 1 := rfl; rw [this]; grind
  | e + 1 => by
    rw [Rat.pow_succ, ratpow q e, Int.pow_succ, Int.pow_succ, Rat.intCast_mul, Rat.intCast_mul]
    have h := num_is q
    have hd : ((q.den : Int) : Rat) ≠ 0 := fun z => den_ne q (Rat.intCast_inj.mp z)
    have hp : (((q.den : Int) ^ e : Int) : Rat) ≠ 0 := fun z => by
      have h0 : (q.den : Int) ^ e = 0 := Rat.intCast_inj.mp z
      have : 0 < (q.den : Int) ^ e := Int.pow_pos (by have := q.den_pos; omega)
      omega
    generalize (q.num : Rat) = A at *
    generalize ((q.den : Int) : Rat) = B at *
    generalize ((q.num ^ e : Int) : Rat) = C
    generalize (((q.den : Int) ^ e : Int) : Rat) = D at *
    rw [h]
    grind
theorem times_pow (f q : Rat) (e : Nat) : (f * q ^ e).num = (Rat.divInt f.num ((q.den : Int) ^ e)).num * (Rat.divInt (q.num ^ e) (f.den : Int)).num ∧
    ((f * q ^ e).den : Int) = ((Rat.divInt (q.num ^ e) (f.den : Int)).den : Int) * ((Rat.divInt f.num ((q.den : Int) ^ e)).den : Int) := by
  have hqd : 0 < (q.den : Int) ^ e := Int.pow_pos (by have := q.den_pos; omega)
  have hfd : 0 < (f.den : Int) := by have := f.den_pos; omega
  obtain ⟨a1, a2⟩ := divInt_dvd (t := f.num) (l := (q.den : Int) ^ e) (by omega)
  obtain ⟨b1, b2⟩ := divInt_dvd (t := q.num ^ e) (l := (f.den : Int)) (by omega)
  have eq : f * q ^ e = Rat.divInt f.num ((q.den : Int) ^ e) * Rat.divInt (q.num ^ e) (f.den : Int) := by
    rw [ratpow q e, Rat.divInt_eq_div, Rat.divInt_eq_div]
    have h := num_is f
    have hd : ((f.den : Int) : Rat) ≠ 0 := fun z => den_ne f (Rat.intCast_inj.mp z)
    have hp : (((q.den : Int) ^ e : Int) : Rat) ≠ 0 := fun z => by have h0 : (q.den : Int) ^ e = 0 := Rat.intCast_inj.mp z; omega
    generalize (f.num : Rat) = A at *
    generalize ((f.den : Int) : Rat) = B at *
    generalize ((q.num ^ e : Int) : Rat) = C
    generalize (((q.den : Int) ^ e : Int) : Rat) = D at *
    rw [h]; grind
  have rA := (Rat.divInt f.num ((q.den : Int) ^ e)).reduced
  have rB := (Rat.divInt (q.num ^ e) (f.den : Int)).reduced
  have pA := (Rat.divInt f.num ((q.den : Int) ^ e)).den_pos
  have pB := (Rat.divInt (q.num ^ e) (f.den : Int)).den_pos
  have c1 : Nat.Coprime (Rat.divInt f.num ((q.den : Int) ^ e)).num.natAbs (Rat.divInt (q.num ^ e) (f.den : Int)).den := by
    have := coprime_of (a := f.num) (b := (f.den : Int)) (by rw [Int.natAbs_natCast]; exact f.reduced) a1 b2
    rwa [Int.natAbs_natCast] at this
  have c2 : Nat.Coprime (Rat.divInt (q.num ^ e) (f.den : Int)).num.natAbs (Rat.divInt f.num ((q.den : Int) ^ e)).den := by
    have := coprime_of (a := q.num ^ e) (b := (q.den : Int) ^ e) (by rw [Int.natAbs_pow, Int.natAbs_pow, Int.natAbs_natCast]; exact Nat.Coprime.pow e e q.reduced) b1 a2
    rwa [Int.natAbs_natCast] at this
  rw [eq]
  generalize Rat.divInt f.num ((q.den : Int) ^ e) = A at *
  generalize Rat.divInt (q.num ^ e) (f.den : Int) = B at *
  rw [← mul_is A B]
  have h1 : Nat.Coprime (A.num * B.num).natAbs ((A.den : Int) * B.den).natAbs := by
    rw [Int.natAbs_mul, Int.natAbs_mul, Int.natAbs_natCast, Int.natAbs_natCast]
    exact Nat.Coprime.mul_left (Nat.Coprime.mul_right rA c1) (Nat.Coprime.mul_right c2 rB)
  obtain ⟨p1, p2⟩ := parts_of (Int.mul_pos (by omega) (by omega)) h1
  exact ⟨p1, by rw [p2, Int.mul_comm]⟩
end MX

namespace KP
open PySem L2 DL MX
def topS (i : Nat) : Stmt := PySem.Challenge.pw_lastcoffer_k40_values_and_means.main.body.getD i (.Pass ⟨0, 0, 0, 0⟩)
abbrev s_fraction : Stmt := topS 8
abbrev s_plus : Stmt := topS 9
abbrev s_times : Stmt := topS 10
abbrev s_gathered : Stmt := topS 11
abbrev s_sum_of : Stmt := topS 12
abbrev s_shifted : Stmt := topS 13
abbrev s_summed : Stmt := topS 14
abbrev s_integer_power : Stmt := topS 15
abbrev s_power : Stmt := topS 16
abbrev s_times_power : Stmt := topS 17
abbrev s_common_low_of : Stmt := topS 18
abbrev s_common_low : Stmt := topS 19
abbrev s_tops_over : Stmt := topS 20
abbrev s_after_layer : Stmt := topS 22
abbrev s_remaining : Stmt := topS 23
abbrev s_after_treaty : Stmt := topS 24
abbrev s_check_index : Stmt := topS 26
abbrev s_total_damage : Stmt := topS 27
abbrev s_change_by : Stmt := topS 28
abbrev s_change_of : Stmt := topS 29
abbrev s_Change___init__ : Stmt := inClass (topS 31) 0
abbrev s_Change_fall : Stmt := inClass (topS 31) 1
abbrev s_falls_of : Stmt := topS 32
abbrev s_check_reserve : Stmt := topS 35
abbrev s_value_at : Stmt := topS 36
abbrev s_mean_after : Stmt := topS 37
abbrev s_mean_of : Stmt := topS 38
abbrev s_times_pair : Stmt := topS 39
abbrev s_mean_top : Stmt := topS 40
abbrev s_tail_parts : Stmt := topS 41
abbrev s__law_cell : Stmt := topS 43
abbrev s__law_digits : Stmt := topS 44
abbrev s__law_fraction : Stmt := topS 45
abbrev s__law_plus : Stmt := topS 46
abbrev s__law_times : Stmt := topS 47
abbrev s__law_spread : Stmt := topS 48
abbrev s__law_house : Stmt := topS 49
abbrev s__law_remaining : Stmt := topS 50
abbrev s__law_changes : Stmt := topS 51
abbrev s__law_year : Stmt := topS 52
abbrev s__law_value : Stmt := topS 53
abbrev s__law_mean : Stmt := topS 54
abbrev s__law_table : Stmt := topS 55
abbrev s__law_refused : Stmt := topS 56
abbrev s__law_far : Stmt := topS 57
abbrev s_law : Stmt := topS 58
section
variable {P : Program} {w : World} {K : PySem.W.Frag} {mg : Str → Option Value} {base : Heap}
/-! ### fraction -/
theorem sc_fraction : FnScope ["top", "low", "shared"] ["top", "low"] (defScope s_fraction) := ⟨rfl, rfl, rfl, by decide +kernel, rfl, by decide +kernel, by decide +kernel⟩
def sp_fraction (K : PySem.W.Frag) (C : Addr) : Sp := SpX K (fun a : Int × Int => [.dat (.int a.1), .dat (.int a.2)]) (fun a => Bt 9000 a.2) (.ref C) (fun a => if a.2 = 0 then none else some (encQ (Rat.divInt a.1 a.2)))
theorem ok_fraction {f : Addr} {fd : FuncData} {C : Addr} (F : Fun K "fraction" "fraction" s_fraction f fd) (m_gcd : mg "gcd" = some (.builtin "math.gcd")) (eC : ErrC K mg "OutOfRange" C) :
    FnOk P w K mg base (L2.CX P w) 1 f fd ["top", "low"] (sp_fraction K C) := by
  have sc := sc_fraction
  refine fn_X F sc (fun _ => rfl) fun cdv A outer s H E hr => ?_
  refine ⟨_, (pss_cons (ps_if (pt_cmpR op_eq (pv 1) pe_int (nomark _)) (pss_one (ps_err rfl (takes_of rfl rfl rfl rfl) eC rfl)) pss_nil)
      (pss_cons (ps_set (i := 2) sc.nd rfl (by first | exact Or.inl rfl | exact Or.inr rfl) (pe_callBfun cr_gcd (by rfl) m_gcd (pa_cons (pv 0) (pa_cons (pv 1) pa_nil))))
      (pss_cons (ps_if (pt_cmpR op_lt (pv 1) pe_int (nomark _)) (pss_one (ps_set (i := 2) sc.nd rfl (by first | exact Or.inl rfl | exact Or.inr rfl) (pe_un un_neg (pv 2)))) pss_nil)
      (pss_one (ps_ret (pe_tup (pa_cons (pe_op op_fdivZ (pv 0) (pv 2)) (pa_cons (pe_op op_fdivZ (pv 1) (pv 2)) pa_nil)))))))), fun a ha => ?_⟩
  obtain ⟨t, l⟩ := a
  have hl9 : Bt 9000 l := ha
  by_cases h0 : l = 0
  · refine ⟨fun d hd => ?_, fun _ => ?_⟩
    · rw [if_pos h0] at hd; cases hd
    · refine run_seqE (run_ifT ((et_test (ed_eqI (ed_var 1 rfl) (ed_int 0))).is (decide_eq_true h0)) run_err)
  · refine ⟨fun d hd => .inl ?_, fun hn => ?_⟩
    · rw [if_neg h0] at hd
      cases hd
      refine run_seq (run_ifF ((et_test (ed_eqI (ed_var 1 rfl) (ed_int 0))).is (decide_eq_false h0)) run_next) ?_
      refine run_seq (run_set (ed_gcd (ed_var 0 rfl) (ed_var 1 rfl))) ?_
      have key : Run K E (tIfS (tTest (tOp (rI0 fun i j => .bl (decide (i < j))) (tVar 1) (tC (.int 0)))) (tAsg (tUn (rU fun i => .int (-i)) (tVar 2)) (gName 2)) tNext) [.dat (.int t), .dat (.int l), .dat (.int ((Nat.gcd t.natAbs l.natAbs : Nat) : Int))] (.nx [.dat (.int t), .dat (.int l), .dat (.int (sgcd t l))]) := by
        by_cases hn : l < 0
        · have e : sgcd t l = -((Nat.gcd t.natAbs l.natAbs : Nat) : Int) := by unfold sgcd; rw [if_pos hn]
          rw [e]
          exact run_ifT ((et_test (ed_B0 (ed_var 1 rfl) (ed_int 0))).is (decide_eq_true hn)) (run_set (ed_neg (ed_var 2 rfl)))
        · have e : sgcd t l = ((Nat.gcd t.natAbs l.natAbs : Nat) : Int) := by unfold sgcd; rw [if_neg hn]
          rw [e]
          exact run_ifF ((et_test (ed_B0 (ed_var 1 rfl) (ed_int 0))).is (decide_eq_false hn)) run_next
      refine run_seq key ?_
      obtain ⟨e1, e2⟩ := divInt_parts (t := t) h0
      show Run K E _ _ (.rt (.tuple [.int (Rat.divInt t l).num, .int ((Rat.divInt t l).den : Int)]))
      rw [e1, e2]
      exact run_ret (ed_tup (ds := [.int _, .int _]) (ea_d (ed_I (ed_var 0 rfl) (ed_var 2 rfl) (sgcd_div h0 hl9)) (ea_d (ed_I (ed_var 1 rfl) (ed_var 2 rfl) (sgcd_div h0 hl9)) ea_nil)))
    · rw [if_neg h0] at hn; cases hn

/-! ### plus, minus, times, over, is_less -/
abbrev QQ := Rat × Rat
abbrev fsQQ : QQ → List SD := fun a => [.dat (encQ a.1), .dat (encQ a.2)]
abbrev preQQ : QQ → Prop := fun a => Qb 4000 a.1 ∧ Qb 4000 a.2
theorem pQ {n m k : Nat} {x y : Int} (h : Bt n x) (h' : Bt m y) (hk : n + m ≤ 134217728 := by decide) : CMulX x y := h.mulx h' hk
theorem sc_plus : FnScope ["first", "second"] ["first", "second"] (defScope s_plus) := ⟨rfl, rfl, rfl, by decide +kernel, rfl, by decide +kernel, by decide +kernel⟩
def sp_plus (K : PySem.W.Frag) : Sp := SpD K fsQQ preQQ (fun a => encQ (a.1 + a.2))
theorem ok_plus {f : Addr} {fd : FuncData} {C : Addr} (F : Fun K "plus" "plus" s_plus f fd) (C_fraction : Callee P w K mg base (L2.CX P w) 1 "fraction" ["top", "low"] (sp_fraction K C)) :
    FnOk P w K mg base CX0 2 f fd ["first", "second"] (sp_plus K) := by
  have sc := sc_plus
  refine fn_D F sc (fun _ => rfl) fun cdv A outer s H E hr => ?_
  refine ⟨_, (pss_one (ps_ret (pe_c C_fraction (hr.mono (by decide)) passL (pa_cons (pe_op op_add (pe_op op_mulX (pe_ix ix_tup (pv 0) pe_int (fun _ _ => rfl)) (pe_ix ix_tup (pv 1) pe_int (fun _ _ => rfl))) (pe_op op_mulX (pe_ix ix_tup (pv 1) pe_int (fun _ _ => rfl)) (pe_ix ix_tup (pv 0) pe_int (fun _ _ => rfl)))) (pa_cons (pe_op op_mulX (pe_ix ix_tup (pv 0) pe_int (fun _ _ => rfl)) (pe_ix ix_tup (pv 1) pe_int (fun _ _ => rfl))) pa_nil))))), fun a ha => ?_⟩
  obtain ⟨p, q⟩ := a
  obtain ⟨hp, hq⟩ := ha
  have hp : Qb 4000 p := hp
  have hq : Qb 4000 q := hq
  refine run_ret (ed_callX (x := (p.num * q.den + q.num * p.den, (p.den : Int) * q.den)) (ea_d (ed_I0 (ed_I (ed_ixT (ed_var 0 rfl) (ed_int 0) rfl) (ed_ixT (ed_var 1 rfl) (ed_int 1) rfl) (hp.num.mulx hq.den (by decide))) (ed_I (ed_ixT (ed_var 1 rfl) (ed_int 0) rfl) (ed_ixT (ed_var 0 rfl) (ed_int 1) rfl) (hq.num.mulx hp.den (by decide)))) (ea_d (ed_I (ed_ixT (ed_var 0 rfl) (ed_int 1) rfl) (ed_ixT (ed_var 1 rfl) (ed_int 1) rfl) (hp.den.mulx hq.den (by decide))) ea_nil)) rfl ((hp.den.mul hq.den).mono (by decide)) ?_)
  rw [← add_is]
  exact if_neg (Int.mul_ne_zero (den_ne p) (den_ne q))
theorem sc_times : FnScope ["first", "second"] ["first", "second"] (defScope s_times) := ⟨rfl, rfl, rfl, by decide +kernel, rfl, by decide +kernel, by decide +kernel⟩
def sp_times (K : PySem.W.Frag) : Sp := SpD K fsQQ preQQ (fun a => encQ (a.1 * a.2))
theorem ok_times {f : Addr} {fd : FuncData} {C : Addr} (F : Fun K "times" "times" s_times f fd) (C_fraction : Callee P w K mg base (L2.CX P w) 1 "fraction" ["top", "low"] (sp_fraction K C)) :
    FnOk P w K mg base CX0 2 f fd ["first", "second"] (sp_times K) := by
  have sc := sc_times
  refine fn_D F sc (fun _ => rfl) fun cdv A outer s H E hr => ?_
  refine ⟨_, (pss_one (ps_ret (pe_c C_fraction (hr.mono (by decide)) passL (pa_cons (pe_op op_mulX (pe_ix ix_tup (pv 0) pe_int (fun _ _ => rfl)) (pe_ix ix_tup (pv 1) pe_int (fun _ _ => rfl))) (pa_cons (pe_op op_mulX (pe_ix ix_tup (pv 0) pe_int (fun _ _ => rfl)) (pe_ix ix_tup (pv 1) pe_int (fun _ _ => rfl))) pa_nil))))), fun a ha => ?_⟩
  obtain ⟨p, q⟩ := a
  obtain ⟨hp, hq⟩ := ha
  have hp : Qb 4000 p := hp
  have hq : Qb 4000 q := hq
  refine run_ret (ed_callX (x := (p.num * q.num, (p.den : Int) * q.den)) (ea_d (ed_I (ed_ixT (ed_var 0 rfl) (ed_int 0) rfl) (ed_ixT (ed_var 1 rfl) (ed_int 0) rfl) (hp.num.mulx hq.num (by decide))) (ea_d (ed_I (ed_ixT (ed_var 0 rfl) (ed_int 1) rfl) (ed_ixT (ed_var 1 rfl) (ed_int 1) rfl) (hp.den.mulx hq.den (by decide))) ea_nil)) rfl ((hp.den.mul hq.den).mono (by decide)) ?_)
  rw [← mul_is]
  exact if_neg (Int.mul_ne_zero (den_ne p) (den_ne q))

/-! ### total, gathered, mean, chance_of, shifted -/
theorem sum_step {l : List Rat} {i : Nat} (hi : i < l.length) : (l.take (i + 1)).sum = (l.take i).sum + l[i] := by
  rw [List.take_add_one, List.getElem?_eq_getElem hi, Option.toList_some, List.sum_append, List.sum_singleton]
theorem acc_step {s : Spr} {i : Nat} (hi : i < s.length) : acc (s.take (i + 1)) = stepA (acc (s.take i)) s[i] := by
  rw [List.take_add_one, List.getElem?_eq_getElem hi]; exact acc_snoc _ _
theorem gat_list (s : Spr) : (gatF s).map encI = (srt ((acc s).map (·.1))).filterMap fun v => if wt s v = 0 then none else some (encI (v, wt s v)) := by
  unfold gatF
  rw [List.map_filterMap]
  congr 1
  funext v
  split <;> rfl
theorem sc_gathered : FnScope ["items", "sums", "value", "chance"] ["items"] (defScope s_gathered) := ⟨rfl, rfl, rfl, by decide +kernel, rfl, by decide +kernel, by decide +kernel⟩
def sp_gathered (K : PySem.W.Frag) : Sp := SpN K (fun s : Spr => [.dat (encS s)]) Gd (fun s => (gatF s).map encI)
theorem ok_gathered {f aZERO : Addr} {fd : FuncData} (F : Fun K "gathered" "gathered" s_gathered f fd) (m_ZERO : mg "ZERO" = some (.ref aZERO)) (c_ZERO : ∀ G : Hp, Dd K G (.ref aZERO) (encQ 0)) (m_sorted : mg "sorted" = none) (C_plus : Callee P w K mg base CX0 2 "plus" ["first", "second"] (sp_plus K)) :
    FnOk P w K mg base CX0 3 f fd ["items"] (sp_gathered K) := by
  have sc := sc_gathered
  refine fn_N F sc (fun _ => rfl) fun cdv A outer s H E hr => ?_
  refine ⟨_, (pss_cons (ps_set (i := 1) sc.nd rfl (by first | exact Or.inl rfl | exact Or.inr rfl) pe_dnewK)
      (pss_cons (ps_for PassesOwn.never rfl (pi_list (pv 0)) (pg_tup rfl (pgs_cons (pg_name (i := 2) sc.nd rfl (by first | exact Or.inl rfl | exact Or.inr rfl)) (pgs_cons (pg_name (i := 3) sc.nd rfl (by first | exact Or.inl rfl | exact Or.inr rfl)) pgs_nil))) (pss_one (ps_dput (hu_of hr) (pv 1) (pv 2) (pe_c C_plus (hr.mono (by decide)) pass0 (pa_cons (pe_dget2 (hu_of hr) (pv 1) (pv 2) (pe_glob (v := .ref aZERO) rfl m_ZERO rfl) ⟨rfl, rfl, rfl, rfl⟩) (pa_cons (pv 3) pa_nil))) rfl)))
      (pss_one (ps_ret (pe_lc (own := [("value", 2)]) rfl sc.nd (pi_list (pe_callB (id := "sorted") (call_sortedDI rfl) (by rfl) m_sorted (by decide +kernel) (pa_cons (pv 1) pa_nil))) (blkOk_by (own := [("value", 2)]) (N := ["items", "sums", "value", "chance"]) (sc := defScope s_gathered) (by decide +kernel)) (fun _ _ _ _ _ => (pg_name (i := 2) sc.nd rfl (Or.inl rfl))) (fun _ _ _ _ _ => (pts_one (pt_cmpR (r := rNeD K) (op_neD hr.units) (pe_dget (hu_of hr) (pv 1) (pv 2) (fun _ _ => rfl)) (pe_glob (v := .ref aZERO) rfl m_ZERO rfl) (nomark _)))) (fun _ _ _ _ _ => (pe_tup (pa_cons (pv 2) (pa_cons (pe_dget (hu_of hr) (pv 1) (pv 2) (fun _ _ => rfl)) pa_nil))))))))), fun l hl => ?_⟩
  obtain ⟨hf, hlen, hfew⟩ := hl
  have ht : ∀ i, (lkD (encA (acc (l.take i))) = fun k => lkD (encA (acc (l.take i))) k) := fun i => rfl
  have look : ∀ (i : Nat) (v : Int), (lkD (encA (acc (l.take i))) (.inl v)).getD (encQ 0) = encQ (wt (l.take i) v) := fun i v => by
    rw [encA_lk, ← acc_getD]
    cases lkA (acc (l.take i)) v <;> rfl
  refine run_seq run_setD ?_
  refine run_seq (run_for (ts := [2, 3]) (fun i => [.dat (encS l), .md (encA (acc (l.take i))), .un, .un]) (ei_list (ed_var 0 rfl)) (.eq (.eq (.un (.un .nil)))) (fun i d hi hd => ?_)) ?_
  · rw [List.length_map] at hi
    obtain rfl : d = encI l[i] := by rw [List.getElem?_map, List.getElem?_eq_getElem hi] at hd; exact (Option.some.inj hd).symm
    refine ⟨_, eg_tup (egs_cons (eg_name (by decide)) (egs_cons (eg_name (by decide)) egs_nil)) rfl, ?_⟩
    have e : putD (encA (acc (l.take i))) (.inl (l[i]).1) (encQ (wt (l.take i) (l[i]).1 + (l[i]).2)) = encA (acc (l.take (i + 1))) := by
      rw [encA_put, acc_step hi]
      unfold stepA
      rw [acc_getD]
    refine .n (run_dput (i := 1) rfl (ed_call (x := (wt (l.take i) (l[i]).1, (l[i]).2)) (ea_d ((ed_dget2 (i := 1) rfl (ed_var 2 rfl) (ed_con c_ZERO)).is (look i _)) (ea_d (ed_var 3 rfl) ea_nil)) rfl ⟨fine_wt hf i _, fine_mem hf (List.mem_map.mpr ⟨_, List.getElem_mem hi, rfl⟩)⟩) (ed_var 2 rfl) ?_) ?_
    · rw [encA_len]
      have := acc_len (l.take i)
      rw [List.length_take] at this
      omega
    · show Less [_, .md (putD (encA (acc (l.take i))) (.inl (l[i]).1) (encQ (wt (l.take i) (l[i]).1 + (l[i]).2))), _, _] _
      rw [e]
      exact .eq (.eq (.un (.un .nil)))
  · rw [List.length_map, List.take_length, gat_list]
    have lk : ∀ v ∈ srt ((acc l).map (·.1)), lkD (encA (acc l)) (.inl v) = some (encQ (wt l v)) := fun v hv => by
      rw [encA_lk, acc_lk ((acc_mem l v).mp ((srt_perm _).mem_iff.mp hv))]; rfl
    refine run_retN (en_lc (ei_list (en_sortedD (i := 1) rfl (encA_keys _) (by rw [List.length_map]; exact hfew) (fun ys hp hs => srt_only (acc_nodup l) hp hs)).d) (ts := [2]) (by decide) (lc_filter PyData.int (fun v => if wt l v = 0 then none else some (encI (v, wt l v))) fun v hv => ⟨_, eg_name (by decide), ?_⟩) ?_)
    · by_cases h0 : wt l v = 0
      · exact .inr ⟨if_pos h0, (et_test (ed_neD (ed_dget (i := 1) rfl (ed_var 2 rfl) (lk v hv)).p (ed_con c_ZERO).p rfl rfl)).is (by rw [eqvQ, decide_eq_true h0]; rfl)⟩
      · exact .inl ⟨_, if_neg h0, (et_test (ed_neD (ed_dget (i := 1) rfl (ed_var 2 rfl) (lk v hv)).p (ed_con c_ZERO).p rfl rfl)).is (by rw [eqvQ, decide_eq_false h0]; rfl), ed_tup (ds := [.int v, encQ (wt l v)]) (ea_d (ed_var 2 rfl) (ea_d (ed_dget (i := 1) rfl (ed_var 2 rfl) (lk v hv)) ea_nil))⟩
    · rw [List.length_map, (srt_perm _).length_eq, List.length_map]; omega
theorem sc_shifted : FnScope ["spread", "places", "value", "chance"] ["spread", "places"] (defScope s_shifted) := ⟨rfl, rfl, rfl, by decide +kernel, rfl, by decide +kernel, by decide +kernel⟩
def sp_shifted (K : PySem.W.Frag) : Sp := SpN K (fun a : Spr × Int => [.dat (encS a.1), .dat (.int a.2)]) (fun a => a.1.length ≤ 10000) (fun a => (shF a.1 a.2).map encI)
theorem ok_shifted {f : Addr} {fd : FuncData} (F : Fun K "shifted" "shifted" s_shifted f fd) : FnOk P w K mg base CX0 1 f fd ["spread", "places"] (sp_shifted K) := by
  have sc := sc_shifted
  refine fn_N F sc (fun _ => rfl) fun cdv A outer s H E hr => ?_
  refine ⟨_, (pss_one (ps_ret (pe_lc (g := (gTup K 2 (gCons (gName 2) (gCons (gName 3) gNil)))) (own := [("value", 2), ("chance", 3)]) rfl sc.nd (pi_list (pv 0)) (blkOk_by (own := [("value", 2), ("chance", 3)]) (N := ["spread", "places", "value", "chance"]) (sc := defScope s_shifted) (by decide +kernel)) (fun _ _ _ _ _ => (pg_tup rfl (pgs_cons (pg_name (i := 2) sc.nd rfl (Or.inl rfl)) (pgs_cons (pg_name (i := 3) sc.nd rfl (Or.inl rfl)) pgs_nil)))) (fun _ _ _ _ _ => pts_nil) (fun _ _ _ _ _ => (pe_tup (pa_cons (pe_op op_add (pv 2) (pv 1)) (pa_cons (pv 3) pa_nil))))))), fun a ha => ?_⟩
  obtain ⟨l, k⟩ := a
  have hl : l.length ≤ 10000 := ha
  show Run K E _ _ (.rn ((shF l k).map encI))
  unfold shF
  rw [List.map_map]
  exact run_retN (en_lc (ei_list (ed_var 0 rfl)) (ts := [2, 3]) (by decide) (lc_map encI _ fun p hp => ⟨_, eg_tup (egs_cons (eg_name (by decide)) (egs_cons (eg_name (by decide)) egs_nil)) rfl, et_yes, ed_tup (ds := [.int (p.1 + k), encQ p.2]) (ea_d (ed_I0 (ed_var 2 rfl) (ed_var 1 rfl)) (ea_d (ed_var 3 rfl) ea_nil))⟩) (by rw [List.length_map]; omega))

/-! ### layers and treaties -/
theorem sc_after_layer : FnScope ["layer", "amount", "word", "top", "low"] ["layer", "amount"] (defScope s_after_layer) := ⟨rfl, rfl, rfl, by decide +kernel, rfl, by decide +kernel, by decide +kernel⟩
def sp_after_layer (K : PySem.W.Frag) : Sp := SpD K (fun a : Lay × Int => [.dat (encL a.1), .dat (.int a.2)]) (fun a => LayOk a.1 ∧ 0 ≤ a.2 ∧ Bt 60 a.2) (fun a => .int (layF a.1 a.2))
theorem ok_after_layer {f : Addr} {fd : FuncData} (F : Fun K "after_layer" "after_layer" s_after_layer f fd) (m_min : mg "min" = none) : FnOk P w K mg base CX0 1 f fd ["layer", "amount"] (sp_after_layer K) := by
  have sc := sc_after_layer
  refine fn_D F sc (fun _ => rfl) fun cdv A outer s H E hr => ?_
  refine ⟨_, (pss_cons (ps_set (i := 2) sc.nd rfl (by first | exact Or.inl rfl | exact Or.inr rfl) (pe_ix (r := rIxT K) ix_tup (pv 0) pe_int (fun _ _ => rfl)))
      (pss_cons (ps_if (pt_cmpR op_eq (pv 2) pe_str (nomark _)) (pss_cons (ps_asg (pe_ix (r := rIxT K) ix_tup (pv 0) pe_int (fun _ _ => rfl)) (pg_tup rfl (pgs_cons (pg_name (i := 3) sc.nd rfl (by first | exact Or.inl rfl | exact Or.inr rfl)) (pgs_cons (pg_name (i := 4) sc.nd rfl (by first | exact Or.inl rfl | exact Or.inr rfl)) pgs_nil))))
      (pss_one (ps_ret (pe_un un_neg (pe_op op_fdivZ (pe_op op_mulX (pe_un un_neg (pv 1)) (pv 3)) (pv 4)))))) pss_nil)
      (pss_cons (ps_if (pt_cmpR op_eq (pv 2) pe_str (nomark _)) (pss_one (ps_ret (pe_callB (id := "min") (call_min2 rfl) (by rfl) m_min (by decide +kernel) (pa_cons (pv 1) (pa_cons (pe_ix (r := rIxT K) ix_tup (pv 0) pe_int (fun _ _ => rfl)) pa_nil))))) pss_nil)
      (pss_one (ps_ret (pe_op op_sub (pv 1) (pe_op op_sub (pe_callB (id := "min") (call_min2 rfl) (by rfl) m_min (by decide +kernel) (pa_cons (pv 1) (pa_cons (pe_ix (r := rIxT K) ix_tup (pv 0) pe_int (fun _ _ => rfl)) pa_nil))) (pe_callB (id := "min") (call_min2 rfl) (by rfl) m_min (by decide +kernel) (pa_cons (pv 1) (pa_cons (pe_ix (r := rIxT K) ix_tup (pv 0) pe_int (fun _ _ => rfl)) pa_nil)))))))))), fun a ha => ?_⟩
  obtain ⟨l, x⟩ := a
  obtain ⟨hl, hx, hb⟩ := ha
  have hb : Bt 60 x := hb
  cases l with
  | share r =>
    obtain ⟨h1, h2, hq⟩ := hl
    refine run_seq (run_set (ed_ixT (ed_var 0 rfl) (ed_int 0) rfl)) ?_
    exact run_seqR (run_ifT ((et_test (ed_eqS (ed_var 2 rfl) (ed_str _))).is (decide_eq_true rfl)) (run_seq (run_asg (ts := [3, 4]) (ed_ixT (ed_var 0 rfl) (ed_int 1) rfl) (eg_tup (egs_cons (eg_name (by decide)) (egs_cons (eg_name (by decide)) egs_nil)) rfl)) (run_ret (ed_neg (ed_I (ed_I (ed_neg (ed_var 1 rfl)) (ed_var 3 rfl) (hb.neg.mulx hq.num (by decide))) (ed_var 4 rfl) ⟨by have := r.den_nz; omega, PySem.Flt.log2_lt_of (by decide) (hq.den.mono (by decide : 60 ≤ 9000))⟩)))))
  | limit c =>
    refine run_seq (run_set (ed_ixT (ed_var 0 rfl) (ed_int 0) rfl)) ?_
    refine run_seq (run_ifF ((et_test (ed_eqS (ed_var 2 rfl) (ed_str _))).is (decide_eq_false (by decide +kernel))) run_next) ?_
    exact run_seqR (run_ifT ((et_test (ed_eqS (ed_var 2 rfl) (ed_str _))).is (decide_eq_true rfl)) (run_ret (ed_min2 (ed_var 1 rfl) (ed_ixT (ed_var 0 rfl) (ed_int 1) rfl))))
  | band b c =>
    refine run_seq (run_set (ed_ixT (ed_var 0 rfl) (ed_int 0) rfl)) ?_
    refine run_seq (run_ifF ((et_test (ed_eqS (ed_var 2 rfl) (ed_str _))).is (decide_eq_false (by decide +kernel))) run_next) ?_
    refine run_seq (run_ifF ((et_test (ed_eqS (ed_var 2 rfl) (ed_str _))).is (decide_eq_false (by decide +kernel))) run_next) ?_
    exact run_ret (ed_I0 (ed_var 1 rfl) (ed_I0 (ed_min2 (ed_var 1 rfl) (ed_ixT (ed_var 0 rfl) (ed_int 2) rfl)) (ed_min2 (ed_var 1 rfl) (ed_ixT (ed_var 0 rfl) (ed_int 1) rfl))))
theorem sc_remaining : FnScope ["treaty", "amount", "rest", "layer"] ["treaty", "amount"] (defScope s_remaining) := ⟨rfl, rfl, rfl, by decide +kernel, rfl, by decide +kernel, by decide +kernel⟩
def sp_remaining (K : PySem.W.Frag) : Sp := SpD K (fun a : Tr × Int => [.dat (encT a.1), .dat (.int a.2)]) (fun a => TrOk a.1 ∧ 0 ≤ a.2 ∧ Bt 60 a.2) (fun a => .int (remF a.1.ls a.2))
theorem ok_remaining {f : Addr} {fd : FuncData} (F : Fun K "remaining" "remaining" s_remaining f fd) (C_after_layer : Callee P w K mg base CX0 1 "after_layer" ["layer", "amount"] (sp_after_layer K)) : FnOk P w K mg base CX0 2 f fd ["treaty", "amount"] (sp_remaining K) := by
  have sc := sc_remaining
  refine fn_D F sc (fun _ => rfl) fun cdv A outer s H E hr => ?_
  refine ⟨_, (pss_cons (ps_set (i := 2) sc.nd rfl (by first | exact Or.inl rfl | exact Or.inr rfl) (pv 1))
      (pss_cons (ps_for PassesOwn.never rfl (pi_list (pe_ix (r := rIxT K) ix_tup (pv 0) pe_int (fun _ _ => rfl))) (pg_name (i := 3) sc.nd rfl (by first | exact Or.inl rfl | exact Or.inr rfl)) (pss_one (ps_set (i := 2) sc.nd rfl (by first | exact Or.inl rfl | exact Or.inr rfl) (pe_c C_after_layer (hr.mono (by decide)) pass0 (pa_cons (pv 3) (pa_cons (pv 2) pa_nil))))))
      (pss_one (ps_ret (pv 2))))), fun a ha => ?_⟩
  obtain ⟨t, x⟩ := a
  obtain ⟨ht, hx, hb⟩ := ha
  have ht : TrOk t := ht
  have hb : Bt 60 x := hb
  refine run_seq (run_set (ed_var 1 rfl)) ?_
  refine run_seq (run_for (ts := [3]) (fun i => [.dat (encT t), .dat (.int x), .dat (.int (remF (t.ls.take i) x)), .un]) (ei_list (ed_ixT (ed_var 0 rfl) (ed_int 1) rfl)) (.eq (.eq (.eq (.un .nil)))) (fun i d hi hd => ⟨_, eg_name (by decide), ?_⟩)) ?_
  · rw [List.length_map] at hi
    obtain rfl : d = encL t.ls[i] := by rw [List.getElem?_map, List.getElem?_eq_getElem hi] at hd; exact (Option.some.inj hd).symm
    have h2 := remF_bd (ht.take i) hx
    rw [remF_snoc hi]
    exact .n (run_set (ed_call (x := (t.ls[i], remF (t.ls.take i) x)) (ea_d (ed_var 3 rfl) (ea_d (ed_var 2 rfl) ea_nil)) rfl ⟨ht.ok _ (List.getElem_mem hi), h2.1, bt_le hb h2.1 h2.2⟩)) (.eq (.eq (.eq (.un .nil))))
  · rw [List.length_map, List.take_length]
    exact run_ret (ed_var 2 rfl)
theorem sc_after_treaty : FnScope ["treaty", "spread", "value", "chance"] ["treaty", "spread"] (defScope s_after_treaty) := ⟨rfl, rfl, rfl, by decide +kernel, rfl, by decide +kernel, by decide +kernel⟩
def sp_after_treaty (K : PySem.W.Frag) : Sp := SpN K (fun a : Tr × Spr => [.dat (encT a.1), .dat (encS a.2)]) (fun a => TrOk a.1 ∧ DmgE a.2) (fun a => (gatF (mapT a.1 a.2)).map encI)
theorem ok_after_treaty {f : Addr} {fd : FuncData} (F : Fun K "after_treaty" "after_treaty" s_after_treaty f fd) (C_gathered : Callee P w K mg base CX0 3 "gathered" ["items"] (sp_gathered K)) (C_remaining : Callee P w K mg base CX0 2 "remaining" ["treaty", "amount"] (sp_remaining K)) : FnOk P w K mg base CX0 4 f fd ["treaty", "spread"] (sp_after_treaty K) := by
  have sc := sc_after_treaty
  refine fn_N F sc (fun _ => rfl) fun cdv A outer s H E hr => ?_
  refine ⟨_, (pss_one (ps_ret (pe_c C_gathered (hr.mono (by decide)) pass0 (pa_cons (pe_lc (g := (gTup K 2 (gCons (gName 2) (gCons (gName 3) gNil)))) (own := [("value", 2), ("chance", 3)]) rfl sc.nd (pi_list (pv 1)) (blkOk_by (own := [("value", 2), ("chance", 3)]) (N := ["treaty", "spread", "value", "chance"]) (sc := defScope s_after_treaty) (by decide +kernel)) (fun _ _ _ _ _ => (pg_tup rfl (pgs_cons (pg_name (i := 2) sc.nd rfl (Or.inl rfl)) (pgs_cons (pg_name (i := 3) sc.nd rfl (Or.inl rfl)) pgs_nil)))) (fun _ _ _ _ _ => pts_nil) (fun _ _ _ _ _ => (pe_tup (pa_cons (pe_c C_remaining (hr.mono (by decide)) pass0 (pa_cons (pv 0) (pa_cons (pv 2) pa_nil))) (pa_cons (pv 3) pa_nil))))) pa_nil)))), fun a ha => ?_⟩
  obtain ⟨t, l⟩ := a
  obtain ⟨ht, hE⟩ := ha
  have ht : TrOk t := ht
  have hE : DmgE l := hE
  have hl : Ty 417 l := hE.ty
  have h0 : ∀ p ∈ l, 0 ≤ p.1 := fun p hp => (hE.val p hp).1
  have hv : ∀ p ∈ l, Bt 60 p.1 := fun p hp => Bt.mono (n := 30) (bt_range (by have := hE.val p hp; omega) (by have := hE.val p hp; omega)) (by decide)
  have hll : l.length ≤ 10000000 := by have := hl.len; omega
  refine run_retN (en_call (x := mapT t l) (ea_d (en_lc (ei_list (ed_var 1 rfl)) (ts := [2, 3]) (by decide) (lc_map encI (fun p : Int × Rat => encI (remF t.ls p.1, p.2)) fun p hp => ⟨_, eg_tup (egs_cons (eg_name (by decide)) (egs_cons (eg_name (by decide)) egs_nil)) rfl, et_yes, ed_tup (ds := [.int (remF t.ls p.1), encQ p.2]) (ea_d (ed_call (x := (t, p.1)) (ea_d (ed_var 0 rfl) (ea_d (ed_var 2 rfl) ea_nil)) rfl ⟨ht, h0 p hp, hv p hp⟩) (ea_d (ed_var 3 rfl) ea_nil))⟩) (by rw [List.length_map]; exact hll)).d ea_nil) (by show _ = [SD.dat (.list ((mapT t l).map encI))]; unfold mapT; rw [List.map_map]; rfl) ((ty_mapT hl h0 ht).gd (by decide)))

/-! ### sum_of, mixed, check_choice -/
structure S2 (s t : Spr) : Prop where
  gd : Gd (sumF s t)
  qs : ∀ p ∈ s, Qb 4000 p.2
  qt : ∀ p ∈ t, Qb 4000 p.2
  ls : s.length ≤ 500
  lt : t.length ≤ 500
theorem take_flat {α : Type} (f : α → Spr) (l : List α) (k : Nat) (h : ∀ x ∈ l, (f x).length ≤ k) (i : Nat) : ((l.take i).flatMap f).length ≤ l.length * k := by
  have h1 := flat_len f k (l.take i) fun x hx => h x (List.mem_of_mem_take hx)
  have h2 : (l.take i).length * k ≤ l.length * k := Nat.mul_le_mul_right _ (by rw [List.length_take]; omega)
  omega
theorem app_step (R : Spr) (g : Int × Rat → Int × Rat) {t : Spr} {j : Nat} (hj : j < t.length) : (R ++ (t.take (j + 1)).map g).map encI = (R ++ (t.take j).map g).map encI ++ [encI (g t[j])] := by
  have e : t.take (j + 1) = t.take j ++ [t[j]] := by rw [List.take_add_one, List.getElem?_eq_getElem hj]; rfl
  rw [e]
  simp only [List.map_append, List.map_cons, List.map_nil, List.append_assoc]
theorem sc_sum_of : FnScope ["first", "second", "items", "left", "chance", "right", "other"] ["first", "second"] (defScope s_sum_of) := ⟨rfl, rfl, rfl, by decide +kernel, rfl, by decide +kernel, by decide +kernel⟩
def sp_sum_of (K : PySem.W.Frag) : Sp := SpN K (fun a : Spr × Spr => [.dat (encS a.1), .dat (encS a.2)]) (fun a => S2 a.1 a.2) (fun a => (gatF (sumF a.1 a.2)).map encI)
theorem ok_sum_of {f : Addr} {fd : FuncData} (F : Fun K "sum_of" "sum_of" s_sum_of f fd) (C_times : Callee P w K mg base CX0 2 "times" ["first", "second"] (sp_times K)) (C_gathered : Callee P w K mg base CX0 3 "gathered" ["items"] (sp_gathered K)) : FnOk P w K mg base CX0 4 f fd ["first", "second"] (sp_sum_of K) := by
  have sc := sc_sum_of
  refine fn_N F sc (fun _ => rfl) fun cdv A outer s H E hr => ?_
  refine ⟨_, (pss_cons (ps_set (i := 2) sc.nd rfl (by first | exact Or.inl rfl | exact Or.inr rfl) (pe_lst pa_nil))
      (pss_cons (ps_for PassesOwn.never rfl (pi_list (pv 0)) (pg_tup rfl (pgs_cons (pg_name (i := 3) sc.nd rfl (by first | exact Or.inl rfl | exact Or.inr rfl)) (pgs_cons (pg_name (i := 4) sc.nd rfl (by first | exact Or.inl rfl | exact Or.inr rfl)) pgs_nil))) (pss_one (ps_for PassesOwn.never rfl (pi_list (pv 1)) (pg_tup rfl (pgs_cons (pg_name (i := 5) sc.nd rfl (by first | exact Or.inl rfl | exact Or.inr rfl)) (pgs_cons (pg_name (i := 6) sc.nd rfl (by first | exact Or.inl rfl | exact Or.inr rfl)) pgs_nil))) (pss_one (ps_expr (pe_bm PySem.F.plainAttrs_list PySem.F.slot_list_append PySem.F.type_list_append mt_append (pv 2) (pa_cons (pe_tup (pa_cons (pe_op op_add (pv 3) (pv 5)) (pa_cons (pe_c C_times (hr.mono (by decide)) pass0 (pa_cons (pv 4) (pa_cons (pv 6) pa_nil))) pa_nil))) pa_nil)))))))
      (pss_one (ps_ret (pe_c C_gathered (hr.mono (by decide)) pass0 (pa_cons (pv 2) pa_nil)))))), fun a ha => ?_⟩
  obtain ⟨l, t⟩ := a
  have h : S2 l t := ha
  refine run_seq (run_setN (en_lst (ds := []) ea_nil)) ?_
  refine run_seq (run_for (ts := [3, 4]) (fun i => [.dat (encS l), .dat (encS t), .ml (((l.take i).flatMap (rowF t)).map encI), .un, .un, .un, .un]) (ei_list (ed_var 0 rfl)) (.eq (.eq (.eq (.un (.un (.un (.un .nil))))))) (fun i d hi hd => ?_)) ?_
  · rw [List.length_map] at hi
    obtain rfl : d = encI l[i] := by rw [List.getElem?_map, List.getElem?_eq_getElem hi] at hd; exact (Option.some.inj hd).symm
    refine ⟨_, eg_tup (egs_cons (eg_name (by decide)) (egs_cons (eg_name (by decide)) egs_nil)) rfl, ?_⟩
    rw [flat_step _ hi]
    have hlen := take_flat (rowF t) l t.length (fun p _ => by unfold rowF; rw [List.length_map]; exact Nat.le_refl _) i
    have hll : l.length * t.length ≤ 500 * 500 := Nat.mul_le_mul h.ls h.lt
    have hq := h.qs _ (List.getElem_mem hi)
    generalize (l.take i).flatMap (rowF t) = R at hlen ⊢
    generalize l[i] = p at hq ⊢
    refine .n (run_for (ts := [5, 6]) (fun j => [.dat (encS l), .dat (encS t), .ml ((R ++ (t.take j).map fun q => (p.1 + q.1, p.2 * q.2)).map encI), .dat (.int p.1), .dat (encQ p.2), .un, .un]) (ei_list (ed_var 1 rfl)) (show Less [_, _, .ml (R.map encI), _, _, _, _] _ by rw [List.take_zero, List.map_nil, List.append_nil]; exact .eq (.eq (.eq (.eq (.eq (.un (.un .nil))))))) (fun j d hj hd => ?_)) ?_
    · rw [List.length_map] at hj
      obtain rfl : d = encI t[j] := by rw [List.getElem?_map, List.getElem?_eq_getElem hj] at hd; exact (Option.some.inj hd).symm
      refine ⟨_, eg_tup (egs_cons (eg_name (by decide)) (egs_cons (eg_name (by decide)) egs_nil)) rfl, ?_⟩
      rw [app_step _ _ hj]
      have hq2 := h.qt _ (List.getElem_mem hj)
      exact .n (run_append (i := 2) rfl (ed_tup (ds := [.int (p.1 + (t[j]).1), encQ (p.2 * (t[j]).2)]) (ea_d (ed_I0 (ed_var 3 rfl) (ed_var 5 rfl)) (ea_d (ed_call (x := (p.2, (t[j]).2)) (ea_d (ed_var 4 rfl) (ea_d (ed_var 6 rfl) ea_nil)) rfl ⟨hq, hq2⟩) ea_nil))) (by rw [List.length_map, List.length_append, List.length_map, List.length_take]; have := h.lt; omega)) (.eq (.eq (.eq (.eq (.eq (.un (.un .nil)))))))
    · rw [List.length_map, List.take_length]
      exact .eq (.eq (.eq (.un (.un (.un (.un .nil))))))
  · rw [List.length_map, List.take_length]
    exact run_pub 2 rfl (run_retN (en_call (x := sumF l t) (ea_d (ed_var 2 rfl) ea_nil) rfl h.gd))
/-- good chances -/
def okM (a : List Spr × List Rat) : Prop := a.1.length = a.2.length ∧ (∀ c ∈ a.2, 0 ≤ c) ∧ a.2.sum = 1
noncomputable def chkO (a : List Spr × List Rat) : Option PyData := by classical exact if okM a then some .none else none
noncomputable def mixO (a : List Spr × List Rat) : Option (List PyData) := by classical exact if okM a then some ((gatF (mixF a.1 a.2)).map encI) else none
theorem chk_some {a : List Spr × List Rat} (h : okM a) : chkO a = some .none := if_pos h
theorem chk_none {a : List Spr × List Rat} (h : ¬okM a) : chkO a = none := if_neg h
theorem mix_some {a : List Spr × List Rat} (h : okM a) : mixO a = some ((gatF (mixF a.1 a.2)).map encI) := if_pos h
theorem mix_none {a : List Spr × List Rat} (h : ¬okM a) : mixO a = none := if_neg h
abbrev fsM : List Spr × List Rat → List SD := fun a => [.dat (.list (a.1.map encS)), .dat (.list (a.2.map encQ))]
structure ChOk (a : List Spr × List Rat) : Prop where
  fine : Fine a.2
  ls : a.1.length ≤ 1000
  lc : a.2.length ≤ 1000
theorem first_neg : ∀ {cs : List Rat}, (¬∀ c ∈ cs, 0 ≤ c) → ∃ (n : Nat) (c : Rat), cs[n]? = some c ∧ c < 0 ∧ ∀ (j : Nat) (d : Rat), j < n → cs[j]? = some d → ¬d < 0
  | [], h => absurd (by simp) h
  | c :: cs, h => by
    by_cases hc : c < 0
    · exact ⟨0, c, rfl, hc, fun j d hj => (by omega)⟩
    · have h2 : ¬∀ d ∈ cs, 0 ≤ d := fun z => h fun d hd => by
        rcases List.mem_cons.mp hd with e | e
        · rw [e]; exact Rat.not_lt.mp hc
        · exact z d e
      obtain ⟨n, e, h3, h4, h5⟩ := first_neg h2
      refine ⟨n + 1, e, by simpa using h3, h4, fun j d hj hd => ?_⟩
      cases j with
      | zero => simp at hd; rw [← hd]; exact hc
      | succ j => exact h5 j d (by omega) (by simpa using hd)
structure MxOk (a : List Spr × List Rat) : Prop where
  ch : ChOk a
  good : okM a → Gd (mixF a.1 a.2) ∧ ∀ s ∈ a.1, s.length ≤ 1000 ∧ ∀ p ∈ s, Qb 4000 p.2

end
end KP

namespace KP
open PySem L2 DL MX
section
variable {P : Program} {w : World} {K : PySem.W.Frag} {mg : Str → Option Value} {base : Heap}
/-! ### fractions of any size, powers -/
structure FrP (a : Int × Int) : Prop where
  l : 0 < a.2
  d1 : CDivQ a.1 (sgcd a.1 a.2)
  d2 : CDivQ a.2 (sgcd a.1 a.2)
def sp_fractionP (K : PySem.W.Frag) (C : Addr) : Sp := SpX K (fun a : Int × Int => [.dat (.int a.1), .dat (.int a.2)]) FrP (.ref C) (fun a => some (encQ (Rat.divInt a.1 a.2)))
theorem ok_fractionP {f : Addr} {fd : FuncData} {C : Addr} (F : Fun K "fraction" "fraction" s_fraction f fd) (m_gcd : mg "gcd" = some (.builtin "math.gcd")) (eC : ErrC K mg "OutOfRange" C) :
    FnOk P w K mg base (L2.CX P w) 1 f fd ["top", "low"] (sp_fractionP K C) := by
  have sc := sc_fraction
  refine fn_X F sc (fun _ => rfl) fun cdv A outer s H E hr => ?_
  refine ⟨_, (pss_cons (ps_if (pt_cmpR op_eq (pv 1) pe_int (nomark _)) (pss_one (ps_err rfl (takes_of rfl rfl rfl rfl) eC rfl)) pss_nil)
      (pss_cons (ps_set (i := 2) sc.nd rfl (by first | exact Or.inl rfl | exact Or.inr rfl) (pe_callBfun cr_gcd (by rfl) m_gcd (pa_cons (pv 0) (pa_cons (pv 1) pa_nil))))
      (pss_cons (ps_if (pt_cmpR op_lt (pv 1) pe_int (nomark _)) (pss_one (ps_set (i := 2) sc.nd rfl (by first | exact Or.inl rfl | exact Or.inr rfl) (pe_un un_neg (pv 2)))) pss_nil)
      (pss_one (ps_ret (pe_tup (pa_cons (pe_op op_fdivQ (pv 0) (pv 2)) (pa_cons (pe_op op_fdivQ (pv 1) (pv 2)) pa_nil)))))))), fun a ha => ?_⟩
  obtain ⟨t, l⟩ := a
  have hl : 0 < l := ha.l
  have d1 : CDivQ t (sgcd t l) := ha.d1
  have d2 : CDivQ l (sgcd t l) := ha.d2
  refine ⟨fun d hd => .inl ?_, fun hn => by cases hn⟩
  cases hd
  refine run_seq (run_ifF ((et_test (ed_eqI (ed_var 1 rfl) (ed_int 0))).is (decide_eq_false (by omega))) run_next) ?_
  refine run_seq (run_set (ed_gcd (ed_var 0 rfl) (ed_var 1 rfl))) ?_
  refine run_seq (run_ifF ((et_test (ed_B0 (ed_var 1 rfl) (ed_int 0))).is (decide_eq_false (by omega))) run_next) ?_
  have e : sgcd t l = ((Nat.gcd t.natAbs l.natAbs : Nat) : Int) := by unfold sgcd; rw [if_neg (by omega)]
  obtain ⟨e1, e2⟩ := divInt_parts (t := t) (l := l) (by omega)
  show Run K E _ [.dat (.int t), .dat (.int l), .dat (.int ((Nat.gcd t.natAbs l.natAbs : Nat) : Int))] (.rt (.tuple [.int (Rat.divInt t l).num, .int ((Rat.divInt t l).den : Int)]))
  rw [e1, e2]
  rw [e] at d1 d2 ⊢
  exact run_ret (ed_tup (ds := [.int _, .int _]) (ea_d (ed_I (ed_var 0 rfl) (ed_var 2 rfl) d1) (ea_d (ed_I (ed_var 1 rfl) (ed_var 2 rfl) d2) ea_nil)))
theorem frP_low {t l : Int} (h : 0 < l) (hb : Bt 8000 l) : FrP (t, l) := by
  have := fun x => (sgcd_div (t := t) (l := l) (x := x) (by omega) (hb.mono (by decide))).q
  exact ⟨h, this _, this _⟩
theorem frP_top {t l : Int} (h : 0 < l) (hb : Bt 2000 t) : FrP (t, l) := by
  have hs : sgcd t l = ((Nat.gcd t.natAbs l.natAbs : Nat) : Int) := by unfold sgcd; rw [if_neg (by omega)]
  have hne := sgcd_ne (t := t) (l := l) (by omega)
  by_cases z : t = 0
  · subst z
    have e : sgcd 0 l = l := by rw [hs]; simp; omega
    refine ⟨h, ?_, ?_⟩ <;> show CDivQ _ (sgcd 0 l) <;> rw [e]
    · exact ⟨by omega, noP_near (by show (0 : Nat).log2 ≤ _; rw [show (0 : Nat).log2 = 0 from rfl]; omega) (by omega)⟩
    · exact ⟨by omega, noP_near (by show l.natAbs.log2 ≤ _; omega) (by omega)⟩
  · have hg : Nat.gcd t.natAbs l.natAbs ≤ t.natAbs := Nat.gcd_le_left _ (by omega)
    have hlog : (sgcd t l).natAbs.log2 < 9000 := by
      rw [hs, Int.natAbs_natCast]
      have h1 : Nat.gcd t.natAbs l.natAbs < 2 ^ 2000 := Nat.lt_of_le_of_lt hg hb
      have h2 : (2 : Nat) ^ 2000 ≤ 2 ^ 9000 := Nat.pow_le_pow_right (by decide) (by decide)
      exact PySem.Flt.log2_lt_of (by decide) (Nat.lt_of_lt_of_le h1 h2)
    have : ∀ x, CDivZ x (sgcd t l) := fun x => ⟨hne, hlog⟩
    exact ⟨h, (this _).q, (this _).q⟩
theorem ei_isP {wi : TI} {env : EnvD} {ds ds' : List D} (h : EvI K wi env ds) (e : ds = ds') : EvI K wi env ds' := e ▸ h
structure IpA where
  b : Int
  e : Nat
theorem sc_integer_power : FnScope ["base", "exponent", "found", "digit"] ["base", "exponent"] (defScope s_integer_power) := ⟨rfl, rfl, rfl, by decide +kernel, rfl, by decide +kernel, by decide +kernel⟩
def sp_integer_power (K : PySem.W.Frag) : Sp := SpD K (fun a : IpA => [.dat (.int a.b), .dat (.int (a.e : Int))]) (fun a => Bt 40 a.b ∧ a.e ≤ 20000) (fun a => .int (a.b ^ a.e))
theorem one_str {c : Char} (h : c = '0' ∨ c = '1') : decide ((⟨#[c.toNat]⟩ : Str) = "1") = decide (c = '1') := by
  rcases h with rfl | rfl <;> decide +kernel
theorem ok_integer_power {f : Addr} {fd : FuncData} (F : Fun K "integer_power" "integer_power" s_integer_power f fd) : FnOk P w K mg base CX0 1 f fd ["base", "exponent"] (sp_integer_power K) := by
  have sc := sc_integer_power
  refine fn_D F sc (fun _ => rfl) fun cdv A outer s H E hr => ?_
  refine ⟨_, (pss_cons (ps_set (i := 2) sc.nd rfl (by first | exact Or.inl rfl | exact Or.inr rfl) pe_int)
      (pss_cons (ps_for PassesOwn.never rfl (pi_str (pe_joined1 (pe_fmtB (pv 1)))) (pg_name (i := 3) sc.nd rfl (by first | exact Or.inl rfl | exact Or.inr rfl)) (pss_cons (ps_set (i := 2) sc.nd rfl (by first | exact Or.inl rfl | exact Or.inr rfl) (pe_op op_mulX (pv 2) (pv 2)))
      (pss_one (ps_if (pt_cmpR op_eq (pv 3) pe_str (nomark _)) (pss_one (ps_set (i := 2) sc.nd rfl (by first | exact Or.inl rfl | exact Or.inr rfl) (pe_op op_mulX (pv 2) (pv 0)))) pss_nil))))
      (pss_one (ps_ret (pv 2))))), fun a ha => ?_⟩
  obtain ⟨b, e⟩ := a
  have hb : Bt 40 b := ha.1
  have he : e ≤ 20000 := ha.2
  obtain ⟨h1, h2⟩ := bin_ok e
  have hsD : strD (PyProof.Rows.binT e) = (Nat.toDigits 2 e).map fun c => PyData.str ⟨#[c.toNat]⟩ := by
    unfold strD PyProof.Rows.binT
    show ((Nat.toDigits 2 e).map fun c => c.toNat).map _ = _
    rw [List.map_map]; rfl
  have hsz : e < 2 ^ 1000 := by
    have h3 : (2 : Nat) ^ 15 ≤ 2 ^ 1000 := Nat.pow_le_pow_right (by decide) (by decide)
    have h4 : (2 : Nat) ^ 15 = 32768 := by decide
    omega
  have hw := fun i => valB_take (Nat.toDigits 2 e) i
  rw [h2] at hw
  refine run_seq (run_set (ed_int 1)) ?_
  refine run_seq (run_for (ts := [3]) (ds := (Nat.toDigits 2 e).map fun c => PyData.str ⟨#[c.toNat]⟩) (fun i => [.dat (.int b), .dat (.int (e : Int)), .dat (.int (b ^ valB ((Nat.toDigits 2 e).take i))), .un]) (ei_isP (ei_str (ed_fmtB (ed_var 1 rfl) hsz)) hsD) (by show Less [_, _, .dat (.int 1), _] [_, _, .dat (.int (b ^ 0)), _]; rw [Int.pow_zero]; exact (.eq (.eq (.eq (.un .nil))))) (fun i d hi hd => ⟨_, eg_name (by decide), ?_⟩)) ?_
  · rw [List.length_map] at hi
    obtain rfl : d = .str ⟨#[((Nat.toDigits 2 e)[i]).toNat]⟩ := by rw [List.getElem?_map, List.getElem?_eq_getElem hi] at hd; exact (Option.some.inj hd).symm
    have hc := h1 _ (List.getElem_mem hi)
    have hs : valB ((Nat.toDigits 2 e).take (i + 1)) = stepB (valB ((Nat.toDigits 2 e).take i)) (Nat.toDigits 2 e)[i] := by rw [List.take_succ_eq_append_getElem hi, valB_snoc]
    have hv := hw i
    generalize (Nat.toDigits 2 e)[i] = c at *
    generalize valB ((Nat.toDigits 2 e).take i) = v at *
    rw [hs]
    have b1 := bt_pow hb v
    have e2 : b ^ v * b ^ v = b ^ (2 * v) := by rw [← Int.pow_add]; congr 1; omega
    have b2 := bt_pow hb (2 * v)
    by_cases z : c = '1'
    · have es : stepB v c = 2 * v + 1 := by unfold stepB; rw [if_pos z]
      rw [es]
      refine .n (run_seq (run_set ((ed_I (ed_var 2 rfl) (ed_var 2 rfl) (b1.mulx b1 (by omega))).is (congrArg PyData.int e2))) (run_ifT ((et_test (ed_eqS (ed_var 3 rfl) (ed_str _))).is (by rw [one_str hc, decide_eq_true z])) (run_set ((ed_I (ed_var 2 rfl) (ed_var 0 rfl) (b2.mulx hb (by omega))).is (congrArg PyData.int (Int.pow_succ _ _).symm))))) (.eq (.eq (.eq (.un .nil))))
    · have es : stepB v c = 2 * v := by unfold stepB; rw [if_neg z]; omega
      rw [es]
      refine .n (run_seq (run_set ((ed_I (ed_var 2 rfl) (ed_var 2 rfl) (b1.mulx b1 (by omega))).is (congrArg PyData.int e2))) (run_ifF ((et_test (ed_eqS (ed_var 3 rfl) (ed_str _))).is (by rw [one_str hc, decide_eq_false z])) run_next)) (.eq (.eq (.eq (.un .nil))))
  · rw [List.length_map, List.take_length, h2]
    exact run_ret (ed_var 2 rfl)
structure PwA where
  q : Rat
  e : Nat
theorem sc_power : FnScope ["base", "exponent"] ["base", "exponent"] (defScope s_power) := ⟨rfl, rfl, rfl, by decide +kernel, rfl, by decide +kernel, by decide +kernel⟩
def sp_power (K : PySem.W.Frag) : Sp := SpD K (fun a : PwA => [.dat (encQ a.q), .dat (.int (a.e : Int))]) (fun a => Qb 40 a.q ∧ a.e ≤ 20000) (fun a => .tuple [.int (a.q.num ^ a.e), .int ((a.q.den : Int) ^ a.e)])
theorem ok_power {f : Addr} {fd : FuncData} (F : Fun K "power" "power" s_power f fd) (C_integer_power : Callee P w K mg base CX0 1 "integer_power" ["base", "exponent"] (sp_integer_power K)) : FnOk P w K mg base CX0 2 f fd ["base", "exponent"] (sp_power K) := by
  have sc := sc_power
  refine fn_D F sc (fun _ => rfl) fun cdv A outer s H E hr => ?_
  refine ⟨_, (pss_one (ps_ret (pe_tup (pa_cons (pe_c C_integer_power (hr.mono (by decide)) pass0 (pa_cons (pe_ix (r := rIxT K) ix_tup (pv 0) pe_int (fun _ _ => rfl)) (pa_cons (pv 1) pa_nil))) (pa_cons (pe_c C_integer_power (hr.mono (by decide)) pass0 (pa_cons (pe_ix (r := rIxT K) ix_tup (pv 0) pe_int (fun _ _ => rfl)) (pa_cons (pv 1) pa_nil))) pa_nil))))), fun a ha => ?_⟩
  obtain ⟨q, e⟩ := a
  have hq : Qb 40 q := ha.1
  have he : e ≤ 20000 := ha.2
  exact run_ret (ed_tup (ds := [.int (q.num ^ e), .int ((q.den : Int) ^ e)]) (ea_d (ed_call (x := (⟨q.num, e⟩ : IpA)) (ea_d (ed_ixT (ed_var 0 rfl) (ed_int 0) rfl) (ea_d (ed_var 1 rfl) ea_nil)) rfl ⟨hq.num, he⟩) (ea_d (ed_call (x := (⟨(q.den : Int), e⟩ : IpA)) (ea_d (ed_ixT (ed_var 0 rfl) (ed_int 1) rfl) (ea_d (ed_var 1 rfl) ea_nil)) rfl ⟨hq.den, he⟩) ea_nil)))
structure TpA where
  f : Rat
  q : Rat
  e : Nat
theorem sc_times_power : FnScope ["first", "base", "exponent", "top", "low", "left", "right_low", "right", "left_low"] ["first", "base", "exponent"] (defScope s_times_power) := ⟨rfl, rfl, rfl, by decide +kernel, rfl, by decide +kernel, by decide +kernel⟩
def sp_times_power (K : PySem.W.Frag) : Sp := SpD K (fun a : TpA => [.dat (encQ a.f), .dat (encQ a.q), .dat (.int (a.e : Int))]) (fun a => Qb 1000 a.f ∧ Qb 40 a.q ∧ a.e ≤ 20000) (fun a => encQ (a.f * a.q ^ a.e))
theorem ok_times_power {f C : Addr} {fd : FuncData} (F : Fun K "times_power" "times_power" s_times_power f fd) (C_power : Callee P w K mg base CX0 2 "power" ["base", "exponent"] (sp_power K)) (C_fraction : Callee P w K mg base (L2.CX P w) 1 "fraction" ["top", "low"] (sp_fractionP K C)) : FnOk P w K mg base CX0 3 f fd ["first", "base", "exponent"] (sp_times_power K) := by
  have sc := sc_times_power
  refine fn_D F sc (fun _ => rfl) fun cdv A outer s H E hr => ?_
  refine ⟨_, (pss_cons (ps_asg (pe_c C_power (hr.mono (by decide)) pass0 (pa_cons (pv 1) (pa_cons (pv 2) pa_nil))) (pg_tup rfl (pgs_cons (pg_name (i := 3) sc.nd rfl (by first | exact Or.inl rfl | exact Or.inr rfl)) (pgs_cons (pg_name (i := 4) sc.nd rfl (by first | exact Or.inl rfl | exact Or.inr rfl)) pgs_nil))))
      (pss_cons (ps_asg (pe_c C_fraction (hr.mono (by decide)) passL (pa_cons (pe_ix (r := rIxT K) ix_tup (pv 0) pe_int (fun _ _ => rfl)) (pa_cons (pv 4) pa_nil))) (pg_tup rfl (pgs_cons (pg_name (i := 5) sc.nd rfl (by first | exact Or.inl rfl | exact Or.inr rfl)) (pgs_cons (pg_name (i := 6) sc.nd rfl (by first | exact Or.inl rfl | exact Or.inr rfl)) pgs_nil))))
      (pss_cons (ps_asg (pe_c C_fraction (hr.mono (by decide)) passL (pa_cons (pv 3) (pa_cons (pe_ix (r := rIxT K) ix_tup (pv 0) pe_int (fun _ _ => rfl)) pa_nil))) (pg_tup rfl (pgs_cons (pg_name (i := 7) sc.nd rfl (by first | exact Or.inl rfl | exact Or.inr rfl)) (pgs_cons (pg_name (i := 8) sc.nd rfl (by first | exact Or.inl rfl | exact Or.inr rfl)) pgs_nil))))
      (pss_one (ps_ret (pe_tup (pa_cons (pe_op op_mulX (pv 5) (pv 7)) (pa_cons (pe_op op_mulX (pv 8) (pv 6)) pa_nil)))))))), fun a ha => ?_⟩
  obtain ⟨f, q, e⟩ := a
  have hf : Qb 1000 f := ha.1
  have hq : Qb 40 q := ha.2.1
  have he : e ≤ 20000 := ha.2.2
  have hqd : 0 < (q.den : Int) ^ e := Int.pow_pos (by have := q.den_pos; omega)
  have hfd : 0 < (f.den : Int) := by have := f.den_pos; omega
  obtain ⟨e1, e2⟩ := times_pow f q e
  have bn := bt_pow hq.num e
  have bd := bt_pow hq.den e
  have qA : Bt 1000 (Rat.divInt f.num ((q.den : Int) ^ e)).num := Nat.lt_of_le_of_lt (divInt_num_le f.num (by omega)) hf.num
  have qA2 : Bt (40 * e + 1) (((Rat.divInt f.num ((q.den : Int) ^ e)).den : Int)) := by
    have := divInt_den_le f.num (l := (q.den : Int) ^ e) (by omega)
    show ((Rat.divInt f.num ((q.den : Int) ^ e)).den : Int).natAbs < _
    rw [Int.natAbs_natCast]
    exact Nat.lt_of_le_of_lt this bd
  have qB : Bt (40 * e + 1) (Rat.divInt (q.num ^ e) (f.den : Int)).num := Nat.lt_of_le_of_lt (divInt_num_le _ (by omega)) bn
  have qB2 : Bt 1000 (((Rat.divInt (q.num ^ e) (f.den : Int)).den : Int)) := by
    have := divInt_den_le (q.num ^ e) (l := (f.den : Int)) (by omega)
    show ((Rat.divInt (q.num ^ e) (f.den : Int)).den : Int).natAbs < _
    rw [Int.natAbs_natCast]
    exact Nat.lt_of_le_of_lt this hf.den
  show Run K E _ _ (.rt (.tuple [.int (f * q ^ e).num, .int ((f * q ^ e).den : Int)]))
  rw [e1, e2]
  refine run_seq (run_asg (ts := [3, 4]) (ed_call (x := (⟨q, e⟩ : PwA)) (ea_d (ed_var 1 rfl) (ea_d (ed_var 2 rfl) ea_nil)) rfl ⟨hq, he⟩) (eg_tup (egs_cons (eg_name (by decide)) (egs_cons (eg_name (by decide)) egs_nil)) rfl)) ?_
  refine run_seq (run_asg (ts := [5, 6]) (ed_callX (x := (f.num, (q.den : Int) ^ e)) (ea_d (ed_ixT (ed_var 0 rfl) (ed_int 0) rfl) (ea_d (ed_var 4 rfl) ea_nil)) rfl (frP_top hqd (hf.num.mono (by decide))) rfl) (eg_tup (egs_cons (eg_name (by decide)) (egs_cons (eg_name (by decide)) egs_nil)) rfl)) ?_
  refine run_seq (run_asg (ts := [7, 8]) (ed_callX (x := (q.num ^ e, (f.den : Int))) (ea_d (ed_var 3 rfl) (ea_d (ed_ixT (ed_var 0 rfl) (ed_int 1) rfl) ea_nil)) rfl (frP_low hfd (hf.den.mono (by decide))) rfl) (eg_tup (egs_cons (eg_name (by decide)) (egs_cons (eg_name (by decide)) egs_nil)) rfl)) ?_
  exact run_ret (ed_tup (ds := [.int _, .int _]) (ea_d (ed_I (ed_var 5 rfl) (ed_var 7 rfl) (qA.mulx qB (by omega))) (ea_d (ed_I (ed_var 8 rfl) (ed_var 6 rfl) (qB2.mulx qA2 (by omega))) ea_nil)))

end
end KP

/-! Sums over a common low part. -/
namespace MX
open PySem L2 DL
def lcmZ (a b : Int) : Int := ((Nat.lcm a.natAbs b.natAbs : Nat) : Int)
theorem lcmZ_dvd {a b : Int} : a ∣ lcmZ a b ∧ b ∣ lcmZ a b := by
  unfold lcmZ
  exact ⟨Int.dvd_trans (Int.dvd_natAbs.mpr (Int.dvd_refl a)) (Int.natCast_dvd_natCast.mpr (Nat.dvd_lcm_left _ _)), Int.dvd_trans (Int.dvd_natAbs.mpr (Int.dvd_refl b)) (Int.natCast_dvd_natCast.mpr (Nat.dvd_lcm_right _ _))⟩
theorem lcmZ_pos {a b : Int} (ha : 0 < a) (hb : 0 < b) : 0 < lcmZ a b := by
  unfold lcmZ
  have : 0 < Nat.lcm a.natAbs b.natAbs := Nat.lcm_pos (by omega) (by omega)
  omega
theorem lcmZ_least {a b N : Int} (ha : a ∣ N) (hb : b ∣ N) : lcmZ a b ∣ N := by
  unfold lcmZ
  rw [← Int.dvd_natAbs]
  exact Int.natCast_dvd_natCast.mpr (Nat.lcm_dvd (Int.natAbs_dvd_natAbs.mpr ha) (Int.natAbs_dvd_natAbs.mpr hb))
theorem lcmZ_same {a b : Int} (ha : 0 < a) (h : b ∣ a) : lcmZ a b = a := by
  unfold lcmZ
  rw [Nat.lcm_eq_left (Int.natAbs_dvd_natAbs.mpr h)]
  omega
def stepS (s p : Int × Int) : Int × Int := (s.1 * (lcmZ s.2 p.2).fdiv s.2 + p.1 * (lcmZ s.2 p.2).fdiv p.2, lcmZ s.2 p.2)
def sumdF (l : List (Int × Int)) : Int × Int := l.foldl stepS (0, 1)
def valP (p : Int × Int) : Rat := (p.1 : Rat) / (p.2 : Rat)
theorem sumd_snoc (l : List (Int × Int)) (p : Int × Int) : sumdF (l ++ [p]) = stepS (sumdF l) p := by unfold sumdF; rw [List.foldl_append]; rfl
theorem stepS_val {s p : Int × Int} (hs : 0 < s.2) (hp : 0 < p.2) : valP (stepS s p) = valP s + valP p := by
  have hw := lcmZ_pos hs hp
  obtain ⟨⟨a, ha⟩, ⟨b, hb⟩⟩ := lcmZ_dvd (a := s.2) (b := p.2)
  unfold stepS valP
  show ((s.1 * (lcmZ s.2 p.2).fdiv s.2 + p.1 * (lcmZ s.2 p.2).fdiv p.2 : Int) : Rat) / (lcmZ s.2 p.2 : Rat) = _
  have e1 : (lcmZ s.2 p.2).fdiv s.2 = a := by rw [ha, Int.mul_fdiv_cancel_left _ (by omega)]
  have e2 : (lcmZ s.2 p.2).fdiv p.2 = b := by rw [hb, Int.mul_fdiv_cancel_left _ (by omega)]
  rw [e1, e2, Rat.intCast_add, Rat.intCast_mul, Rat.intCast_mul]
  have r1 : (lcmZ s.2 p.2 : Rat) = (s.2 : Rat) * (a : Rat) := by rw [← Rat.intCast_mul]; exact congrArg _ ha
  have r2 : (lcmZ s.2 p.2 : Rat) = (p.2 : Rat) * (b : Rat) := by rw [← Rat.intCast_mul]; exact congrArg _ hb
  have n0 : (lcmZ s.2 p.2 : Rat) ≠ 0 := fun z => by have : lcmZ s.2 p.2 = 0 := Rat.intCast_inj.mp z; omega
  have n1 : (s.2 : Rat) ≠ 0 := fun z => by have : s.2 = 0 := Rat.intCast_inj.mp z; omega
  have n2 : (p.2 : Rat) ≠ 0 := fun z => by have : p.2 = 0 := Rat.intCast_inj.mp z; omega
  generalize (lcmZ s.2 p.2 : Rat) = W at *
  generalize (s.2 : Rat) = S at *
  generalize (p.2 : Rat) = T at *
  generalize (a : Rat) = A at *
  generalize (b : Rat) = B at *
  have hA : A = W / S := by grind
  have hB : B = W / T := by grind
  rw [hA, hB]
  grind
structure SuP (N : Int) (l : List (Int × Int)) : Prop where
  n0 : 0 < N
  low : ∀ p ∈ l, 0 < p.2 ∧ p.2 ∣ N
theorem sumd_ok {N : Int} : ∀ {l : List (Int × Int)}, SuP N l → 0 < (sumdF l).2 ∧ (sumdF l).2 ∣ N ∧ valP (sumdF l) = (l.map valP).sum := by
  intro l
  have key : ∀ (r : List (Int × Int)) (s : Int × Int), (∀ p ∈ r, 0 < p.2 ∧ p.2 ∣ N) → 0 < s.2 → s.2 ∣ N → 0 < (r.foldl stepS s).2 ∧ (r.foldl stepS s).2 ∣ N ∧ valP (r.foldl stepS s) = valP s + (r.map valP).sum := by
    intro r
    induction r with
    | nil => intro s _ h1 h2; refine ⟨h1, h2, ?_⟩; rw [List.map_nil, List.sum_nil]; show valP s = _; grind
    | cons p r ih =>
      intro s hp h1 h2
      have hp0 := hp p List.mem_cons_self
      obtain ⟨a, b, c⟩ := ih (stepS s p) (fun q hq => hp q (List.mem_cons_of_mem _ hq)) (lcmZ_pos h1 hp0.1) (lcmZ_least h2 hp0.2)
      refine ⟨a, b, ?_⟩
      rw [List.map_cons, List.sum_cons]
      rw [stepS_val h1 hp0.1] at c
      show valP (r.foldl stepS (stepS s p)) = _
      rw [c]; grind
  intro h
  obtain ⟨a, b, c⟩ := key l (0, 1) h.low (by decide) (Int.one_dvd _)
  refine ⟨a, b, ?_⟩
  show valP (l.foldl stepS (0, 1)) = _
  rw [c]
  have : valP (0, 1) = 0 := by unfold valP; show ((0 : Int) : Rat) / _ = 0; have : ((0 : Int) : Rat) = 0 := rfl; rw [this]; grind
  rw [this]; grind
theorem SuP.take {N : Int} {l : List (Int × Int)} (h : SuP N l) (i : Nat) : SuP N (l.take i) := ⟨h.n0, fun p hp => h.low p (List.mem_of_mem_take hp)⟩
theorem sumd_bd {N B : Int} (hB : 0 ≤ B) {l : List (Int × Int)} (h : SuP N l) (hb : ∀ p ∈ l, -B ≤ p.1 ∧ p.1 ≤ B) : ∀ i, i ≤ l.length → -((i : Int) * B * (sumdF (l.take i)).2) ≤ (sumdF (l.take i)).1 ∧ (sumdF (l.take i)).1 ≤ (i : Int) * B * (sumdF (l.take i)).2 := by
  intro i
  induction i with
  | zero => intro _; rw [List.take_zero]; show -((0 : Int) * B * 1) ≤ 0 ∧ (0 : Int) ≤ (0 : Int) * B * 1; simp
  | succ i ih =>
    intro hi
    obtain ⟨i1, i2⟩ := ih (by omega)
    have hm := List.getElem_mem (l := l) (n := i) (by omega)
    rw [List.take_succ_eq_append_getElem (by omega), sumd_snoc]
    obtain ⟨s0, _, _⟩ := sumd_ok (h.take i)
    have hp0 := (h.low _ hm).1
    have hb0 := hb _ hm
    generalize l[i] = p at *
    generalize sumdF (l.take i) = s at *
    have hw := lcmZ_pos s0 hp0
    obtain ⟨⟨a, ha⟩, ⟨b, hbb⟩⟩ := lcmZ_dvd (a := s.2) (b := p.2)
    have e1 : (lcmZ s.2 p.2).fdiv s.2 = a := by rw [ha, Int.mul_fdiv_cancel_left _ (by omega)]
    have e2 : (lcmZ s.2 p.2).fdiv p.2 = b := by rw [hbb, Int.mul_fdiv_cancel_left _ (by omega)]
    show -(((i + 1 : Nat) : Int) * B * lcmZ s.2 p.2) ≤ s.1 * (lcmZ s.2 p.2).fdiv s.2 + p.1 * (lcmZ s.2 p.2).fdiv p.2 ∧ s.1 * (lcmZ s.2 p.2).fdiv s.2 + p.1 * (lcmZ s.2 p.2).fdiv p.2 ≤ ((i + 1 : Nat) : Int) * B * lcmZ s.2 p.2
    rw [e1, e2]
    have a0 : 0 ≤ a := by
      by_cases c : 0 ≤ a
      · exact c
      · have : s.2 * a < 0 := Int.mul_neg_of_pos_of_neg s0 (by omega)
        omega
    have b0 : 0 ≤ b := by
      by_cases c : 0 ≤ b
      · exact c
      · have : p.2 * b < 0 := Int.mul_neg_of_pos_of_neg hp0 (by omega)
        omega
    have u1 : s.1 * a ≤ (i : Int) * B * s.2 * a := Int.mul_le_mul_of_nonneg_right i2 a0
    have u2 : -((i : Int) * B * s.2) * a ≤ s.1 * a := Int.mul_le_mul_of_nonneg_right i1 a0
    have bw : b ≤ lcmZ s.2 p.2 := by
      rw [hbb]
      have : 1 * b ≤ p.2 * b := Int.mul_le_mul_of_nonneg_right (by omega) b0
      omega
    have v1 : p.1 * b ≤ B * b := Int.mul_le_mul_of_nonneg_right hb0.2 b0
    have v2 : -B * b ≤ p.1 * b := Int.mul_le_mul_of_nonneg_right hb0.1 b0
    have v3 : B * b ≤ B * lcmZ s.2 p.2 := Int.mul_le_mul_of_nonneg_left bw hB
    have m1 : (i : Int) * B * s.2 * a = (i : Int) * B * lcmZ s.2 p.2 := by rw [Int.mul_assoc ((i : Int) * B), ← ha]
    have m2 : -((i : Int) * B * s.2) * a = -((i : Int) * B * lcmZ s.2 p.2) := by rw [Int.neg_mul, m1]
    have m3 : -B * b = -(B * b) := Int.neg_mul _ _
    have m4 : ((i + 1 : Nat) : Int) * B * lcmZ s.2 p.2 = (i : Int) * B * lcmZ s.2 p.2 + B * lcmZ s.2 p.2 := by
      rw [show ((i + 1 : Nat) : Int) = (i : Int) + 1 by omega, Int.add_mul, Int.add_mul, Int.one_mul]
    rw [m4]
    rw [m1] at u1
    rw [m2] at u2
    rw [m3] at v2
    constructor <;> omega
end MX

namespace KP
open PySem L2 DL MX
section
variable {P : Program} {w : World} {K : PySem.W.Frag} {mg : Str → Option Value} {base : Heap}
/-! ### sums of pairs -/
abbrev enc2 (p : Int × Int) : D := .tuple [.int p.1, .int p.2]
structure SmA (l : List (Int × Int)) : Prop where
  ex : ∃ N : Int, Bt 8000 N ∧ SuP N l
  top : ∀ p ∈ l, Bt 30000 p.1
  len : l.length ≤ 1000
theorem sc_summed : FnScope ["pairs", "top", "low", "part_top", "part_low", "wider"] ["pairs"] (defScope s_summed) := ⟨rfl, rfl, rfl, by decide +kernel, rfl, by decide +kernel, by decide +kernel⟩
def sp_summed (K : PySem.W.Frag) : Sp := SpD K (fun l : List (Int × Int) => [.dat (.list (l.map enc2))]) SmA (fun l => enc2 (sumdF l))
theorem sumd_top {l : List (Int × Int)} (h : SmA l) (i : Nat) (hi : i ≤ l.length) : Bt 38011 (sumdF (l.take i)).1 ∧ 0 < (sumdF (l.take i)).2 ∧ Bt 8000 (sumdF (l.take i)).2 := by
  obtain ⟨N, hN, hS⟩ := h.ex
  obtain ⟨s0, s1, _⟩ := sumd_ok (hS.take i)
  have hl := Int.le_of_dvd hS.n0 s1
  have b2 : Bt 8000 (sumdF (l.take i)).2 := bt_leq hN (by omega) hl
  have hB : ∃ B : Int, 0 ≤ B ∧ Bt 30001 B ∧ ∀ p ∈ l, -B ≤ p.1 ∧ p.1 ≤ B := ⟨2 ^ 30000, Int.le_of_lt (Int.pow_pos (by decide)), by
    unfold Bt
    rw [Int.natAbs_pow]
    exact Nat.pow_lt_pow_right (by decide) (by decide), fun p hp => by
    have := h.top p hp
    unfold Bt at this
    have e : ((2 : Int) ^ 30000) = ((2 ^ 30000 : Nat) : Int) := by rw [Int.natCast_pow]; rfl
    rw [e]
    generalize (2 ^ 30000 : Nat) = M at *
    omega⟩
  obtain ⟨B, B0, B1, B2⟩ := hB
  obtain ⟨u1, u2⟩ := sumd_bd B0 hS B2 i hi
  have hlen := h.len
  have p10 : (2 : Int) ^ 10 = 1024 := by decide
  have bi : Bt 10 (i : Int) := bt_range (by omega) (by omega)
  have bb := (bi.mul B1).mul b2
  refine ⟨?_, s0, b2⟩
  have : Bt 38011 ((i : Int) * B * (sumdF (l.take i)).2) := bb.mono (by decide)
  unfold Bt at *
  omega
theorem ok_summed {f : Addr} {fd : FuncData} (F : Fun K "summed" "summed" s_summed f fd) (m_lcm : mg "lcm" = some (.builtin "math.lcm")) : FnOk P w K mg base CX0 1 f fd ["pairs"] (sp_summed K) := by
  have sc := sc_summed
  refine fn_D F sc (fun _ => rfl) fun cdv A outer s0 H E hr => ?_
  refine ⟨_, (pss_cons (ps_set (i := 1) sc.nd rfl (by first | exact Or.inl rfl | exact Or.inr rfl) pe_int)
      (pss_cons (ps_set (i := 2) sc.nd rfl (by first | exact Or.inl rfl | exact Or.inr rfl) pe_int)
      (pss_cons (ps_for PassesOwn.never rfl (pi_list (pv 0)) (pg_tup rfl (pgs_cons (pg_name (i := 3) sc.nd rfl (by first | exact Or.inl rfl | exact Or.inr rfl)) (pgs_cons (pg_name (i := 4) sc.nd rfl (by first | exact Or.inl rfl | exact Or.inr rfl)) pgs_nil))) (pss_cons (ps_if (pt_cmpR op_ne (pe_op op_modN (pv 2) (pv 4)) pe_int (nomark _)) (pss_cons (ps_set (i := 5) sc.nd rfl (by first | exact Or.inl rfl | exact Or.inr rfl) (pe_callBfun cr_lcm (by rfl) m_lcm (pa_cons (pv 2) (pa_cons (pv 4) pa_nil))))
      (pss_cons (ps_set (i := 1) sc.nd rfl (by first | exact Or.inl rfl | exact Or.inr rfl) (pe_op op_mulX (pv 1) (pe_op op_fdivZ (pv 5) (pv 2))))
      (pss_one (ps_set (i := 2) sc.nd rfl (by first | exact Or.inl rfl | exact Or.inr rfl) (pv 5))))) pss_nil)
      (pss_one (ps_aug (i := 1) sc.nd rfl (by first | exact Or.inl rfl | exact Or.inr rfl) (pe_op op_mulX (pv 3) (pe_op op_fdivZ (pv 2) (pv 4))) ip_add))))
      (pss_one (ps_ret (pe_tup (pa_cons (pv 1) (pa_cons (pv 2) pa_nil)))))))), fun l h => ?_⟩
  have h : SmA l := h
  refine run_seq (run_set (ed_int 0)) ?_
  refine run_seq (run_set (ed_int 1)) ?_
  refine run_seq (run_for (ts := [3, 4]) (fun i => [.dat (.list (l.map enc2)), .dat (.int (sumdF (l.take i)).1), .dat (.int (sumdF (l.take i)).2), .un, .un, .un]) (ei_list (ed_var 0 rfl)) (.eq (.eq (.eq (.un (.un (.un .nil)))))) (fun i d hi hd => ?_)) ?_
  · rw [List.length_map] at hi
    obtain rfl : d = enc2 l[i] := by rw [List.getElem?_map, List.getElem?_eq_getElem hi] at hd; exact (Option.some.inj hd).symm
    have hm := List.getElem_mem hi
    obtain ⟨t1, t2, t3⟩ := sumd_top h i (by omega)
    obtain ⟨_, w2, w3⟩ := sumd_top h (i + 1) (by omega)
    have es : sumdF (l.take (i + 1)) = stepS (sumdF (l.take i)) l[i] := by rw [List.take_succ_eq_append_getElem hi, sumd_snoc]
    rw [es] at w2 w3 ⊢
    obtain ⟨N, hN, hS⟩ := h.ex
    have hp := hS.low _ hm
    have hb := h.top _ hm
    have pb : Bt 8000 (l[i]).2 := bt_leq hN (by omega) (Int.le_of_dvd hS.n0 hp.2)
    generalize l[i] = p at *
    generalize sumdF (l.take i) = s at *
    have w2 : 0 < lcmZ s.2 p.2 := w2
    have w3 : Bt 8000 (lcmZ s.2 p.2) := w3
    have dz : ∀ x y : Int, 0 < y → Bt 8000 y → CDivZ x y := fun x y h0 hb => ⟨by omega, PySem.Flt.log2_lt_of (by decide) (hb.mono (by decide : 8000 ≤ 9000))⟩
    have qb : ∀ y : Int, 0 < y → Bt 8000 ((lcmZ s.2 p.2).fdiv y) := fun y hy => by
      rw [Int.fdiv_eq_ediv_of_nonneg _ (by omega)]
      refine bt_leq w3 (Int.ediv_nonneg (by omega) (by omega)) (Int.ediv_le_self _ (by omega))
    refine ⟨_, eg_tup (egs_cons (eg_name (by decide)) (egs_cons (eg_name (by decide)) egs_nil)) rfl, ?_⟩
    by_cases c : p.2 ∣ s.2
    · have ew := lcmZ_same t2 c
      have e0 : s.2.fmod p.2 = 0 := by rw [Int.fmod_eq_emod_of_nonneg _ (by omega)]; exact Int.emod_eq_zero_of_dvd c
      have ef : stepS s p = (s.1 + p.1 * s.2.fdiv p.2, s.2) := by
        unfold stepS
        rw [ew, Int.fdiv_self (by omega), Int.mul_one]
      rw [ef]
      have qb := qb p.2 hp.1
      rw [ew] at qb
      exact .n (run_seq (run_ifF ((et_test (ed_neI (ed_I (C := fun _ j => j ≠ 0) (g := fun i j => i.fmod j) (ed_var 2 rfl) (ed_var 4 rfl) (by omega)) (ed_int 0))).is (by rw [decide_eq_true e0]; rfl)) run_next) (run_augI rfl (ed_I (ed_var 3 rfl) (ed_I (ed_var 2 rfl) (ed_var 4 rfl) (dz _ _ hp.1 pb)) (hb.mulx qb (by decide))))) (.eq (.eq (.eq (.un (.un (.un .nil))))))
    · have e0 : s.2.fmod p.2 ≠ 0 := fun z => c (Int.dvd_of_emod_eq_zero (by rwa [Int.fmod_eq_emod_of_nonneg _ (by omega)] at z))
      have hlcm : EvD K (tCB rLcm (tCons (tVar 2) (tCons (tVar 4) tNil))) [.dat (.list (l.map enc2)), .dat (.int s.1), .dat (.int s.2), .dat (.int p.1), .dat (.int p.2), .un] (.int (lcmZ s.2 p.2)) := ed_lcm (ed_var 2 rfl) (ed_var 4 rfl) (t3.mono (by decide)) (pb.mono (by decide))
      exact .n (run_seq (run_ifT ((et_test (ed_neI (ed_I (C := fun _ j => j ≠ 0) (g := fun i j => i.fmod j) (ed_var 2 rfl) (ed_var 4 rfl) (by omega)) (ed_int 0))).is (by rw [decide_eq_false e0]; rfl)) (run_seq (run_set hlcm) (run_seq (run_set (ed_I (ed_var 1 rfl) (ed_I (ed_var 5 rfl) (ed_var 2 rfl) (dz _ _ t2 t3)) (t1.mulx (qb s.2 t2) (by decide)))) (run_set (ed_var 5 rfl))))) (run_augI rfl (ed_I (ed_var 3 rfl) (ed_I (ed_var 2 rfl) (ed_var 4 rfl) (dz _ _ hp.1 pb)) (hb.mulx (qb p.2 hp.1) (by decide))))) (.eq (.eq (.eq (.un (.un (.un .nil))))))
  · rw [List.length_map, List.take_length]
    exact run_ret (ed_tup (ds := [.int _, .int _]) (ea_d (ed_var 1 rfl) (ea_d (ed_var 2 rfl) ea_nil)))
theorem sc_times_pair : FnScope ["first", "second"] ["first", "second"] (defScope s_times_pair) := ⟨rfl, rfl, rfl, by decide +kernel, rfl, by decide +kernel, by decide +kernel⟩
def sp_times_pair (K : PySem.W.Frag) : Sp := SpD K (fun a : (Int × Int) × (Int × Int) => [.dat (enc2 a.1), .dat (enc2 a.2)]) (fun a => (Bt 60000 a.1.1 ∧ Bt 60000 a.1.2) ∧ Bt 60000 a.2.1 ∧ Bt 60000 a.2.2) (fun a => enc2 (a.1.1 * a.2.1, a.1.2 * a.2.2))
theorem ok_times_pair {f : Addr} {fd : FuncData} (F : Fun K "times_pair" "times_pair" s_times_pair f fd) : FnOk P w K mg base CX0 1 f fd ["first", "second"] (sp_times_pair K) := by
  have sc := sc_times_pair
  refine fn_D F sc (fun _ => rfl) fun cdv A outer s0 H E hr => ?_
  refine ⟨_, (pss_one (ps_ret (pe_tup (pa_cons (pe_op op_mulX (pe_ix (r := rIxT K) ix_tup (pv 0) pe_int (fun _ _ => rfl)) (pe_ix (r := rIxT K) ix_tup (pv 1) pe_int (fun _ _ => rfl))) (pa_cons (pe_op op_mulX (pe_ix (r := rIxT K) ix_tup (pv 0) pe_int (fun _ _ => rfl)) (pe_ix (r := rIxT K) ix_tup (pv 1) pe_int (fun _ _ => rfl))) pa_nil))))), fun a ha => ?_⟩
  obtain ⟨⟨a, b⟩, c, d⟩ := a
  obtain ⟨⟨h1, h2⟩, h3, h4⟩ := ha
  exact run_ret (ed_tup (ds := [.int (a * c), .int (b * d)]) (ea_d (ed_I (ed_ixT (ds := [.int a, .int b]) (ed_var 0 rfl) (ed_int 0) rfl) (ed_ixT (ds := [.int c, .int d]) (ed_var 1 rfl) (ed_int 0) rfl) (Bt.mulx h1 h3 (by decide))) (ea_d (ed_I (ed_ixT (ds := [.int a, .int b]) (ed_var 0 rfl) (ed_int 1) rfl) (ed_ixT (ds := [.int c, .int d]) (ed_var 1 rfl) (ed_int 1) rfl) (Bt.mulx h2 h4 (by decide))) ea_nil)))
/-! ### values of tables -/
structure Tq where
  rows : List (List Rat)
  sc : List Rat
  q : Rat
abbrev encRq (r : List Rat) : D := .list (r.map encQ)
abbrev encTq (t : Tq) : D := .tuple [.list (t.rows.map encRq), .list (t.sc.map encQ), encQ t.q]
def rowF (t : Tq) (w : Nat) : List Rat := t.rows.getD w []
def valF (t : Tq) (r : Int) (w : Nat) : Rat := if r < 0 then 1 else if r < ((rowF t w).length : Int) then (rowF t w).getD r.toNat 0 else t.sc.getD w 0 * t.q ^ (r.toNat - (rowF t w).length)
theorem sc_check_reserve : FnScope ["reserve"] ["reserve"] (defScope s_check_reserve) := ⟨rfl, rfl, rfl, by decide +kernel, rfl, by decide +kernel, by decide +kernel⟩
def crO (r : Int) : Option D := if 10000 < r then none else some .none
def sp_check_reserve (K : PySem.W.Frag) (C : Addr) : Sp := SpX K (fun r : Int => [.dat (.int r)]) (fun _ => True) (.ref C) crO
theorem ok_check_reserve {f C : Addr} {fd : FuncData} (F : Fun K "check_reserve" "check_reserve" s_check_reserve f fd) (e_OutOfRange : ErrC K mg "OutOfRange" C) (m_MOST_RESERVE : ∃ t, mg "MOST_RESERVE" = some (.int 10000 t)) : FnOk P w K mg base (L2.CX P w) 1 f fd ["reserve"] (sp_check_reserve K C) := by
  have sc := sc_check_reserve
  obtain ⟨t0, m_MOST_RESERVE⟩ := m_MOST_RESERVE
  refine fn_X F sc (fun _ => rfl) fun cdv A outer s0 H E hr => ?_
  refine ⟨_, (pss_one (ps_if (pt_cmpR op_gt (pv 0) (pe_glob (v := .int 10000) rfl m_MOST_RESERVE ⟨_, rfl⟩) (nomark _)) (pss_one (ps_err rfl (takes_of rfl rfl rfl rfl) e_OutOfRange rfl)) pss_nil)), fun r _ => ?_⟩
  unfold crO
  by_cases c : 10000 < r
  · rw [if_pos c]
    exact ⟨fun d hd => (by cases hd), fun _ => run_ifT ((et_test (ed_B0 (ed_var 0 rfl) (ed_int 10000))).is (decide_eq_true c)) run_err⟩
  · rw [if_neg c]
    exact ⟨fun d hd => (by cases hd; exact .inr ⟨rfl, _, run_ifF ((et_test (ed_B0 (ed_var 0 rfl) (ed_int 10000))).is (decide_eq_false c)) run_next⟩), fun h => by cases h⟩
structure VaA where
  t : Tq
  r : Int
  w : Nat
structure VaP (a : VaA) : Prop where
  w1 : a.w < a.t.rows.length
  w2 : a.w < a.t.sc.length
  s : ∀ c ∈ a.t.sc, Qb 1000 c
  q : Qb 40 a.t.q
  few : (rowF a.t a.w).length ≤ 10000
def vaO (a : VaA) : Option D := if 10000 < a.r then none else some (encQ (valF a.t a.r a.w))
theorem sc_value_at : FnScope ["table", "reserve", "weather", "rows", "scales", "q", "row"] ["table", "reserve", "weather"] (defScope s_value_at) := ⟨rfl, rfl, rfl, by decide +kernel, rfl, by decide +kernel, by decide +kernel⟩
def sp_value_at (K : PySem.W.Frag) (C : Addr) : Sp := SpX K (fun a : VaA => [.dat (encTq a.t), .dat (.int a.r), .dat (.int (a.w : Int))]) VaP (.ref C) vaO
theorem ok_value_at {f C aONE : Addr} {fd : FuncData} (F : Fun K "value_at" "value_at" s_value_at f fd) (m_len : mg "len" = none) (m_ONE : mg "ONE" = some (.ref aONE)) (c_ONE : ∀ G : Hp, Dd K G (.ref aONE) (encQ 1)) (C_check_reserve : Callee P w K mg base (L2.CX P w) 1 "check_reserve" ["reserve"] (sp_check_reserve K C)) (C_times_power : Callee P w K mg base CX0 3 "times_power" ["first", "base", "exponent"] (sp_times_power K)) : FnOk P w K mg base (L2.CX P w) 4 f fd ["table", "reserve", "weather"] (sp_value_at K C) := by
  have sc := sc_value_at
  refine fn_X F sc (fun _ => rfl) fun cdv A outer s0 H E hr => ?_
  refine ⟨_, (pss_cons (ps_expr (pe_c C_check_reserve (hr.mono (by decide)) pass_up (pa_cons (pv 1) pa_nil)))
      (pss_cons (ps_asg (pv 0) (pg_tup rfl (pgs_cons (pg_name (i := 3) sc.nd rfl (by first | exact Or.inl rfl | exact Or.inr rfl)) (pgs_cons (pg_name (i := 4) sc.nd rfl (by first | exact Or.inl rfl | exact Or.inr rfl)) (pgs_cons (pg_name (i := 5) sc.nd rfl (by first | exact Or.inl rfl | exact Or.inr rfl)) pgs_nil)))))
      (pss_cons (ps_if (pt_cmpR op_lt (pv 1) pe_int (nomark _)) (pss_one (ps_ret (pe_glob (v := .ref aONE) rfl m_ONE rfl))) pss_nil)
      (pss_cons (ps_set (i := 6) sc.nd rfl (by first | exact Or.inl rfl | exact Or.inr rfl) (pe_ix (r := rIxL K) ix_list (pv 3) (pv 2) (fun _ _ => rfl)))
      (pss_cons (ps_if (pt_cmpR op_lt (pv 1) (pe_callB (id := "len") (r := rLenS K) call_len_seq (by rfl) m_len PySem.boot_len (pa_cons (pv 6) pa_nil)) (nomark _)) (pss_one (ps_ret (pe_ix (r := rIxL K) ix_list (pv 6) (pv 1) (fun _ _ => rfl)))) pss_nil)
      (pss_one (ps_ret (pe_c C_times_power (hr.mono (by decide)) pass0 (pa_cons (pe_ix (r := rIxL K) ix_list (pv 4) (pv 2) (fun _ _ => rfl)) (pa_cons (pv 5) (pa_cons (pe_op op_sub (pv 1) (pe_callB (id := "len") (r := rLenS K) call_len_seq (by rfl) m_len PySem.boot_len (pa_cons (pv 6) pa_nil))) pa_nil))))))))))), fun a ha => ?_⟩
  obtain ⟨t, r, w⟩ := a
  have h1 : w < t.rows.length := ha.w1
  have h2 : w < t.sc.length := ha.w2
  have h3 : ∀ c ∈ t.sc, Qb 1000 c := ha.s
  have h4 : Qb 40 t.q := ha.q
  have h5 : (rowF t w).length ≤ 10000 := ha.few
  unfold vaO
  by_cases c : 10000 < r
  · have c' : 10000 < (⟨t, r, w⟩ : VaA).r := c
    rw [if_pos c']
    exact ⟨fun d hd => (by cases hd), fun _ => run_seqE (run_dropX (x := r) (ea_d (ed_var 1 rfl) ea_nil) rfl trivial (if_pos c))⟩
  · have c' : ¬10000 < (⟨t, r, w⟩ : VaA).r := c
    rw [if_neg c']
    refine ⟨fun d hd => .inl ?_, fun h => by cases h⟩
    cases hd
    refine run_seq (run_drop (ed_callX (x := r) (d := .none) (ea_d (ed_var 1 rfl) ea_nil) rfl trivial (if_neg c)).v) ?_
    refine run_seq (run_asg (ts := [3, 4, 5]) (ed_var 0 rfl) (eg_tup (egs_cons (eg_name (by decide)) (egs_cons (eg_name (by decide)) (egs_cons (eg_name (by decide)) egs_nil))) rfl)) ?_
    show Run K E _ [.dat (encTq t), .dat (.int r), .dat (.int (w : Int)), .dat (.list (t.rows.map encRq)), .dat (.list (t.sc.map encQ)), .dat (encQ t.q), .un] (.rt (encQ (valF t r w)))
    unfold valF
    by_cases c0 : r < 0
    · rw [if_pos c0]
      exact run_seqR (run_ifT ((et_test (ed_B0 (ed_var 1 rfl) (ed_int 0))).is (decide_eq_true c0)) (run_ret (ed_con c_ONE)))
    · rw [if_neg c0]
      refine run_seq (run_ifF ((et_test (ed_B0 (ed_var 1 rfl) (ed_int 0))).is (decide_eq_false c0)) run_next) ?_
      have er : (t.rows.map encRq)[w]? = some (encRq (rowF t w)) := by
        unfold rowF
        rw [List.getElem?_map, List.getD_eq_getElem?_getD, List.getElem?_eq_getElem h1]; rfl
      have es : (t.sc.map encQ)[w]? = some (encQ (t.sc.getD w 0)) := by rw [List.getElem?_map, List.getD_eq_getElem?_getD, List.getElem?_eq_getElem h2]; rfl
      have em : t.sc.getD w 0 ∈ t.sc := by rw [List.getD_eq_getElem?_getD, List.getElem?_eq_getElem h2]; exact List.getElem_mem h2
      have atN : ∀ {ds : List D} {i : Int} {n : Nat} {d : D}, i = (n : Int) → ds[n]? = some d → atI ds i = some d := fun {ds i n d} e h => by
        subst e
        have hl : n < ds.length := (List.getElem?_eq_some_iff.mp h).1
        unfold atI ixN
        rw [if_pos (by omega), if_pos (by omega)]
        show ds[((n : Int)).toNat]? = _
        rw [Int.toNat_natCast]; exact h
      refine run_seq (run_set (ed_ixl (ed_var 3 rfl).l (ed_var 2 rfl) (atN rfl er))) ?_
      generalize rowF t w = row at *
      by_cases c1 : r < (row.length : Int)
      · rw [if_pos c1]
        exact run_seqR (run_ifT ((et_test (ed_B0 (ed_var 1 rfl) (ed_lenl (ed_var 6 rfl).l))).is (by rw [List.length_map]; exact decide_eq_true c1)) (run_ret (ed_ixl (ed_var 6 rfl).l (ed_var 1 rfl) (atN (n := r.toNat) (by omega) (by
          rw [List.getElem?_map, List.getD_eq_getElem?_getD, List.getElem?_eq_getElem (by omega)]; rfl)))))
      · rw [if_neg c1]
        refine run_seq (run_ifF ((et_test (ed_B0 (ed_var 1 rfl) (ed_lenl (ed_var 6 rfl).l))).is (by rw [List.length_map]; exact decide_eq_false c1)) run_next) ?_
        exact run_ret (ed_call (x := (⟨t.sc.getD w 0, t.q, r.toNat - row.length⟩ : TpA)) (ea_d (ed_ixl (ed_var 4 rfl).l (ed_var 2 rfl) (atN rfl es)) (ea_d (ed_var 5 rfl) (ea_d ((ed_I0 (g := fun i j => i - j) (ed_var 1 rfl) (ed_lenl (ed_var 6 rfl).l)).is (d' := .int ((r.toNat - row.length : Nat) : Int)) (by rw [List.length_map]; congr 1; omega)) ea_nil))) rfl ⟨h3 _ em, h4, by show r.toNat - row.length ≤ 20000; omega⟩)

end
end KP

/-! Parts of a change, and what falls below 0. -/
namespace MX
open PySem L2 DL
def lkZ (P : List (Int × Int)) (v : Int) : Int := ((P.find? fun p => decide (p.1 = v)).map (·.2)).getD 0
def fallZ (P : List (Int × Int)) (m : Int) : Int := ((P.filter fun p => decide (p.1 < -m)).map (·.2)).sum
theorem lkZ_none {P : List (Int × Int)} {v : Int} (h : v ∉ P.map (·.1)) : lkZ P v = 0 := by
  unfold lkZ
  rw [List.find?_eq_none.mpr fun p hp => by
    simp only [decide_eq_true_eq]
    exact fun e => h (List.mem_map.mpr ⟨p, hp, e⟩)]
  rfl
theorem fall_step (m : Int) : ∀ {P : List (Int × Int)}, (P.map (·.1)).Nodup → fallZ P m = fallZ P (m + 1) + lkZ P (-(m + 1))
  | [], _ => rfl
  | p :: P, h => by
    rw [List.map_cons, List.nodup_cons] at h
    have ih := fall_step m h.2
    unfold fallZ lkZ at *
    rw [List.filter_cons, List.filter_cons, List.find?_cons]
    by_cases e : p.1 = -(m + 1)
    · have n1 := lkZ_none (P := P) (v := -(m + 1)) (by rw [← e]; exact h.1)
      unfold lkZ at n1
      rw [n1] at ih
      rw [decide_eq_true (show p.1 < -m by omega), decide_eq_false (show ¬p.1 < -(m + 1) by omega), decide_eq_true e, if_pos rfl, if_neg (by decide), List.map_cons, List.sum_cons, ih]
      show _ = _ + p.2
      omega
    · rw [decide_eq_false e]
      by_cases c : p.1 < -m
      · rw [decide_eq_true c, decide_eq_true (show p.1 < -(m + 1) by omega), if_pos rfl, if_pos rfl, List.map_cons, List.sum_cons, List.map_cons, List.sum_cons, ih]
        simp only []
        omega
      · rw [decide_eq_false c, decide_eq_false (show ¬p.1 < -(m + 1) by omega), if_neg (by decide), if_neg (by decide)]
        exact ih
theorem fall_none {P : List (Int × Int)} {m : Int} (h : ∀ p ∈ P, -m ≤ p.1) : fallZ P m = 0 := by
  unfold fallZ
  rw [List.filter_eq_nil_iff.mpr fun p hp => by
    simp only [decide_eq_true_eq]
    have := h p hp; omega]
  rfl
def dkP (P : List (Int × Int)) : List (Key × D) := P.map fun p => (Sum.inl p.1, .int p.2)
theorem dkP_lk (v : Int) : ∀ P : List (Int × Int), (lkD (dkP P) (.inl v)).getD (.int 0) = .int (lkZ P v)
  | [] => rfl
  | p :: P => by
    have ih := dkP_lk v P
    unfold lkD dkP lkZ at *
    rw [List.map_cons]
    by_cases e : p.1 = v
    · rw [List.find?_cons_of_pos (by simp [e]), List.find?_cons_of_pos (by simpa using e)]; rfl
    · rw [List.find?_cons_of_neg (by simpa using e), List.find?_cons_of_neg (by simpa using e)]; exact ih
theorem dkP_keys {P : List (Int × Int)} (h : (P.map (·.1)).Nodup) : ((dkP P).map (·.1)).Nodup := by
  unfold dkP
  rw [List.map_map]
  have e : P.map ((fun x : Key × D => x.1) ∘ fun p : Int × Int => ((Sum.inl p.1 : Key), PyData.int p.2)) = (P.map (·.1)).map Sum.inl := by rw [List.map_map]; rfl
  rw [e]
  exact List.Pairwise.map _ (fun a b hab z => hab (Sum.inl.inj z)) h
theorem dkP_prd (P : List (Int × Int)) : (dkP P).map prD = P.map fun p => PyData.tuple [.int p.1, .int p.2] := by unfold dkP; rw [List.map_map]; rfl
end MX

/-! Houses with wider lines (up to four values, turns of up to four), and those of the second kind. -/
namespace MX
open PySem L2 DL
def lenF (ls : List Spr) : Nat := ls.foldl (fun a l => a * l.length) 1
theorem lenF_step {ls : List Spr} {i : Nat} (hi : i < ls.length) : lenF (ls.take (i + 1)) = lenF (ls.take i) * (ls[i]).length := by
  unfold lenF
  rw [List.take_add_one, List.getElem?_eq_getElem hi, Option.toList_some, List.foldl_append]; rfl
structure WtQ (n : Int) (w : Wt) : Prop where
  prem : 0 ≤ w.prem ∧ w.prem ≤ 1000
  few : w.lines.length ≤ 3
  lines : ∀ s ∈ w.lines, SpG 0 1001 4 s
  prod : ∀ i, i ≤ w.lines.length → lenF (w.lines.take i) ≤ 27
  turns : SpG 0 n 4 w.turns
structure HsQ (h : Hs) : Prop where
  nw : 1 ≤ h.ws.length ∧ h.ws.length ≤ 4
  nt : 1 ≤ h.ts.length ∧ h.ts.length ≤ 4
  ws : ∀ w ∈ h.ws, WtQ h.ws.length w
  ts : ∀ t ∈ h.ts, TrOk t ∧ TrV t
theorem SpG.wide {lo hi : Int} {m n : Nat} {s : Spr} (h : SpG lo hi m s) (hm : m ≤ n) : SpG lo hi n s := ⟨h.ty, h.can, h.pos, h.mass, by have := h.len; omega, h.val⟩
theorem lenF_le {m : Nat} {ls : List Spr} (h : ∀ s ∈ ls, s.length ≤ m) : ∀ i, i ≤ ls.length → lenF (ls.take i) ≤ m ^ i
  | 0, _ => by rw [List.take_zero]; exact Nat.le_refl _
  | i + 1, hi => by
    rw [lenF_step (show i < ls.length by omega), Nat.pow_succ]
    exact Nat.mul_le_mul (lenF_le h i (by omega)) (h _ (List.getElem_mem _))
theorem WtOk.toQ {n : Int} {w : Wt} (h : WtOk n w) : WtQ n w := ⟨h.prem, h.few, fun s hs => (h.lines s hs).wide (by decide), fun i hi => by
  have h1 := lenF_le (m := 3) (fun s hs => (h.lines s hs).len) i hi
  have h2 : 3 ^ i ≤ 3 ^ 3 := Nat.pow_le_pow_right (by decide) (by have := h.few; omega)
  omega, h.turns.wide (by decide)⟩
theorem HsOk.toQ {h : Hs} (ok : HsOk h) : HsQ h := ⟨ok.nw, ok.nt, fun w hw => (ok.ws w hw).toQ, ok.ts⟩
structure DmgJ (i n : Nat) (s : Spr) : Prop where
  ty : Ty (nnF i) s
  len : s.length ≤ n
  can : Can s
  val : ∀ p ∈ s, 0 ≤ p.1 ∧ p.1 ≤ 1000 * i
theorem dmgJ0 : DmgJ 0 1 [(0, 1)] := ⟨dmg0.ty, by decide, dmg0.can, dmg0.val⟩
theorem dmgJS {i n : Nat} (hi : i < 3) {s l : Spr} (h : DmgJ i n s) (hl : SpG 0 1001 4 l) (hn : n * l.length ≤ 27) : DmgJ (i + 1) (n * l.length) (gatF (sumF s l)) ∧ Ty (2 * nnF i + 1) (sumF s l) := by
  have hmul : s.length * l.length ≤ n * l.length := Nat.mul_le_mul_right _ h.len
  have hT := ty_sum h.ty (hl.ty.mono (nn_ge i)) (by omega)
  refine ⟨⟨hT.gat, ?_, gat_can _, fun p hp => ?_⟩, hT⟩
  · have h1 := gat_len (sumF s l)
    have h2 := sum_len s l
    omega
  · obtain ⟨q, hq, e⟩ := List.mem_map.mp (gat_mem hp).1
    obtain ⟨a, ha, hb⟩ := List.mem_flatMap.mp hq
    obtain ⟨b, hb2, rfl⟩ := List.mem_map.mp hb
    have h1 := h.val a ha
    have h2 := hl.val b hb2
    have e : a.1 + b.1 = p.1 := e
    omega
theorem dmgJ_inv {ls : List Spr} (h : ∀ l ∈ ls, SpG 0 1001 4 l) (hl : ls.length ≤ 3) (hp : ∀ i, i ≤ ls.length → lenF (ls.take i) ≤ 27) : ∀ i, i ≤ ls.length → DmgJ i (lenF (ls.take i)) (dmgF (ls.take i))
  | 0, _ => dmgJ0
  | i + 1, hi => by
    have h2 := hp (i + 1) hi
    rw [lenF_step (show i < ls.length by omega)] at h2
    rw [dmg_step (show i < ls.length by omega), lenF_step (show i < ls.length by omega)]
    exact (dmgJS (by omega) (dmgJ_inv h hl hp i (by omega)) (h _ (List.getElem_mem _)) h2).1
theorem dmgEQ {ls : List Spr} (h : ∀ l ∈ ls, SpG 0 1001 4 l) (hl : ls.length ≤ 3) (hp : ∀ i, i ≤ ls.length → lenF (ls.take i) ≤ 27) : DmgE (dmgF ls) := by
  have h1 := dmgJ_inv h hl hp ls.length (Nat.le_refl _)
  have h2 := hp ls.length (Nat.le_refl _)
  rw [List.take_length] at h1 h2
  exact ⟨h1.ty.mono (nn3 hl), by have := h1.len; omega, h1.can, fun p hp => by have := h1.val p hp; omega⟩
theorem sb_WQ {n : Int} {w : Wt} (h : WtQ n w) : Sb 5 110 (encW w) := by
  have h1 : Sbs 3 ((6 * 4 + 1) * w.lines.length) (w.lines.map encS) := sbs_map fun s hs => sb_S (h.lines s hs) (by decide)
  have h2 := sb_S h.turns (by decide)
  have hf := h.few
  have hb : Bt 1900 w.prem := Bt.mono (n := 30) (bt_range (by have := h.prem; omega) (by have := h.prem; omega)) (by decide)
  exact (sb_tup (sbs_cons ((sb_int hb).mono (by decide) (Nat.le_refl _)) (sbs_cons ((sb_lst h1).mono (Nat.le_refl 4) (by omega : _ ≤ 75)) (sbs_cons (h2.mono (by decide) (Nat.le_refl _)) sbs_nil)))).mono (by decide) (by decide)
theorem sb_HQ {h : Hs} (ok : HsQ h) : Sb 7 2200 (encH h) := by
  have h1 : Sbs 5 ((110 + 1) * h.ws.length) (h.ws.map encW) := sbs_map fun w hw => sb_WQ (ok.ws w hw)
  have h2 : Sbs 4 ((400 + 1) * h.ts.length) (h.ts.map encT) := sbs_map fun t ht => sb_T (ok.ts t ht).1
  have := ok.nw
  have := ok.nt
  exact (sb_tup (sbs_cons ((sb_lst h1).mono (Nat.le_refl 6) (by omega : _ ≤ 444)) (sbs_cons ((sb_lst h2).mono (by decide : 5 ≤ 6) (by omega : _ ≤ 1604)) sbs_nil))).mono (by decide) (by decide)
/-! ### spreads of small parts -/
structure SpK (hi : Int) (s : Spr) : Prop where
  g : SpG 0 hi 4 s
  low : ∃ N : Int, 0 < N ∧ N ≤ 16 ∧ ∀ p ∈ s, Dn N p.2
  le : ∀ p ∈ s, p.2 ≤ 1
theorem spD_wtd (d : Int) (vs : List Int) : spD d vs = wtd vs (partsD d vs.length) := by
  unfold spD wtd
  refine List.map_congr_left fun k hk => ?_
  have hk := List.mem_range.mp hk
  have e : (partsD d vs.length).getD k 0 = partD d k := by
    unfold partsD
    rw [List.getD_eq_getElem?_getD, List.getElem?_map, List.getElem?_range hk]; rfl
  rw [e]
theorem spk_spD {hi d : Int} {vs : List Int} (h1 : vs ≠ []) (h4 : vs.length ≤ 4) (ha : vs.Pairwise (· < ·)) (hv : ∀ v ∈ vs, 0 ≤ v ∧ v < hi) (hh : hi ≤ 4000) : SpK hi (spD d vs) := by
  have hb := psum_bd d vs.length
  have hlen : (partsD d vs.length).length = vs.length := by unfold partsD; rw [List.length_map, List.length_range]
  have hpos : ∀ x ∈ partsD d vs.length, 0 < x ∧ x ≤ 4 := fun x hx => by
    obtain ⟨k, _, rfl⟩ := List.mem_map.mp hx
    have := partD_bd d k; omega
  have hP : Prt vs (partsD d vs.length) := ⟨hlen.symm, by omega, h1, fun x hx => (hpos x hx).1, by omega, ha, fun v hv2 => by have := hv v hv2; omega⟩
  have hS := hP.sml
  have ht := hP.tot
  rw [spD_wtd]
  refine ⟨⟨⟨⟨(partsD d vs.length).sum.toNat, 4, by omega, Nat.lt_of_lt_of_le (show _ < 2 ^ 5 by omega) (Nat.pow_le_pow_right (by decide) (by decide)), by decide, fun p hp => ?_⟩, fun p hp => ?_, by rw [wtd_len]; omega⟩, hS.can, fun p hp => (hS.pos p hp).1, ?_, by rw [wtd_len]; exact h4, fun p hp => ?_⟩, ⟨(partsD d vs.length).sum, ht, by omega, fun p hp => ?_⟩, fun p hp => (hS.pos p hp).2⟩
  · obtain ⟨k, hk, rfl, m1, m2⟩ := hP.mem hp
    refine ⟨(partsD d vs.length).getD k 0, ?_, ?_⟩
    · show Rat.divInt _ _ = Rat.divInt _ _
      rw [Int.toNat_of_nonneg (by omega)]
    · have := hpos _ m2; omega
  · obtain ⟨k, hk, rfl, m1, m2⟩ := hP.mem hp
    have := hv _ m1
    exact Bt.mono (n := 20) (bt_range (by show _ < vs.getD k 0; have : (2 : Int) ^ 20 = 1048576 := by decide
                                          omega) (by show vs.getD k 0 < _; have : (2 : Int) ^ 20 = 1048576 := by decide
                                                     omega)) (by decide)
  · have := hS.one
    have e : Ex (wtd vs (partsD d vs.length)) (fun _ => 1) = mass (wtd vs (partsD d vs.length)) := rfl
    rw [← e]; exact this
  · obtain ⟨k, hk, rfl, m1, m2⟩ := hP.mem hp
    exact hv _ m1
  · obtain ⟨k, hk, rfl, m1, m2⟩ := hP.mem hp
    refine ⟨(partsD d vs.length).getD k 0, ?_⟩
    show Rat.divInt _ _ * _ = _
    rw [Rat.divInt_eq_div]
    have hT : ((partsD d vs.length).sum : Rat) ≠ 0 := fun z => by have h0 : (partsD d vs.length).sum = 0 := Rat.intCast_inj.mp z; omega
    generalize (((partsD d vs.length).getD k 0 : Int) : Rat) = A
    generalize ((partsD d vs.length).sum : Rat) = T at hT ⊢
    grind
end MX

namespace KP
open PySem L2 DL MX
section
variable {P : Program} {w : World} {K : PySem.W.Frag} {mg : Str → Option Value} {base : Heap}
/-! ### the common low -/
def lcmF (l : List Rat) : Nat := l.foldl (fun a r => Nat.lcm a r.den) 1
theorem foldl_lcm (l : List Rat) : ∀ a : Nat, a ∣ l.foldl (fun a r => Nat.lcm a r.den) a := by
  induction l with
  | nil => intro a; exact Nat.dvd_refl _
  | cons r l ih => intro a; exact Nat.dvd_trans (Nat.dvd_lcm_left a r.den) (ih _)
theorem lcmF_take (l : List Rat) (i : Nat) : lcmF (l.take i) ∣ lcmF l := by
  have e : lcmF l = (l.drop i).foldl (fun a r => Nat.lcm a r.den) (lcmF (l.take i)) := by
    unfold lcmF
    rw [← List.foldl_append, List.take_append_drop]
  rw [e]
  exact foldl_lcm _ _
theorem lcmF_pos (l : List Rat) : 0 < lcmF l := by
  have h : ∀ (l : List Rat) (a : Nat), 0 < a → 0 < l.foldl (fun a r => Nat.lcm a r.den) a := by
    intro l
    induction l with
    | nil => intro a h; exact h
    | cons r l ih => intro a h; exact ih _ (Nat.lcm_pos h r.den_pos)
  exact h l 1 (by decide)
theorem lcmF_dvd {l : List Rat} {r : Rat} (h : r ∈ l) : r.den ∣ lcmF l := by
  have key : ∀ (l : List Rat) (a : Nat), r ∈ l → r.den ∣ l.foldl (fun a r => Nat.lcm a r.den) a := by
    intro l
    induction l with
    | nil => intro a h; cases h
    | cons x l ih =>
      intro a h
      rcases List.mem_cons.mp h with e | e
      · subst e; exact Nat.dvd_trans (Nat.dvd_lcm_right a r.den) (foldl_lcm l _)
      · exact ih _ e
  exact key l 1 h
theorem lcmF_least {l : List Rat} {N : Nat} (h : ∀ r ∈ l, r.den ∣ N) : lcmF l ∣ N := by
  have key : ∀ (l : List Rat) (a : Nat), a ∣ N → (∀ r ∈ l, r.den ∣ N) → l.foldl (fun a r => Nat.lcm a r.den) a ∣ N := by
    intro l
    induction l with
    | nil => intro a h _; exact h
    | cons x l ih => intro a h h2; exact ih _ (Nat.lcm_dvd h (h2 x List.mem_cons_self)) fun r hr => h2 r (List.mem_cons_of_mem _ hr)
  exact key l 1 (Nat.one_dvd _) h
theorem lcmF_step {l : List Rat} {i : Nat} (hi : i < l.length) : lcmF (l.take (i + 1)) = Nat.lcm (lcmF (l.take i)) (l[i]).den := by
  rw [List.take_add_one, List.getElem?_eq_getElem hi]
  unfold lcmF
  rw [Option.toList_some, List.foldl_append]; rfl
structure LowOk (l : List Rat) : Prop where
  low : lcmF l < 2 ^ 12000
  len : l.length ≤ 1000000
theorem sc_common_low_of : FnScope ["fractions", "low", "part"] ["fractions"] (defScope s_common_low_of) := ⟨rfl, rfl, rfl, by decide +kernel, rfl, by decide +kernel, by decide +kernel⟩
def sp_common_low_of (K : PySem.W.Frag) : Sp := SpD K (fun l : List Rat => [.dat (.list (l.map encQ))]) LowOk (fun l => .int (lcmF l : Nat))
theorem ok_common_low_of {f : Addr} {fd : FuncData} (F : Fun K "common_low_of" "common_low_of" s_common_low_of f fd) (m_lcm : mg "lcm" = some (.builtin "math.lcm")) : FnOk P w K mg base CX0 1 f fd ["fractions"] (sp_common_low_of K) := by
  have sc := sc_common_low_of
  refine fn_D F sc (fun _ => rfl) fun cdv A outer s H E hr => ?_
  refine ⟨_, (pss_cons (ps_set (i := 1) sc.nd rfl (by first | exact Or.inl rfl | exact Or.inr rfl) pe_int)
      (pss_cons (ps_for PassesOwn.never rfl (pi_list (pv 0)) (pg_name (i := 2) sc.nd rfl (by first | exact Or.inl rfl | exact Or.inr rfl)) (pss_one (ps_set (i := 1) sc.nd rfl (by first | exact Or.inl rfl | exact Or.inr rfl) (pe_callBfun cr_lcm (by rfl) m_lcm (pa_cons (pv 1) (pa_cons (pe_ix (r := rIxT K) ix_tup (pv 2) pe_int (fun _ _ => rfl)) pa_nil))))))
      (pss_one (ps_ret (pv 1))))), fun l hl => ?_⟩
  have hlow := hl.low
  have le : ∀ i, lcmF (l.take i) ≤ lcmF l := fun i => Nat.le_of_dvd (lcmF_pos l) (lcmF_take l i)
  refine run_seq (run_set (ed_int 1)) ?_
  refine run_seq (run_for (ts := [2]) (fun i => [.dat (.list (l.map encQ)), .dat (.int (lcmF (l.take i) : Nat)), .un]) (ei_list (ed_var 0 rfl)) (.eq (.eq (.un .nil))) (fun i d hi hd => ⟨_, eg_name (by decide), ?_⟩)) ?_
  · rw [List.length_map] at hi
    obtain rfl : d = encQ l[i] := by rw [List.getElem?_map, List.getElem?_eq_getElem hi] at hd; exact (Option.some.inj hd).symm
    have hd1 : (l[i]).den ≤ lcmF l := Nat.le_of_dvd (lcmF_pos l) (lcmF_dvd (List.getElem_mem hi))
    have b1 : Bt 12000 ((lcmF (l.take i) : Nat) : Int) := by show ((lcmF (l.take i) : Nat) : Int).natAbs < 2 ^ 12000; rw [Int.natAbs_natCast]; exact Nat.lt_of_le_of_lt (le i) hlow
    have b2 : Bt 12000 ((l[i]).den : Int) := by show (((l[i]).den : Nat) : Int).natAbs < 2 ^ 12000; rw [Int.natAbs_natCast]; exact Nat.lt_of_le_of_lt hd1 hlow
    refine .n (run_set ((ed_lcm (ed_var 1 rfl) (ed_ixT (ds := [.int (l[i]).num, .int ((l[i]).den : Int)]) (ed_var 2 rfl) (ed_int 1) rfl) b1 b2).is (d' := .int (lcmF (l.take (i + 1)) : Nat)) ?_)) (.eq (.eq (.un .nil)))
    rw [lcmF_step hi, Int.natAbs_natCast, Int.natAbs_natCast]
  · rw [List.length_map, List.take_length]
    exact run_ret (ed_var 1 rfl)
def chsF (ss : List Spr) : List Rat := ss.flatMap fun s => s.map (·.2)
theorem sc_common_low : FnScope ["spreads", "spread", "_", "chance"] ["spreads"] (defScope s_common_low) := ⟨rfl, rfl, rfl, by decide +kernel, rfl, by decide +kernel, by decide +kernel⟩
def sp_common_low (K : PySem.W.Frag) : Sp := SpD K (fun ss : List Spr => [.dat (.list (ss.map encS))]) (fun ss => LowOk (chsF ss) ∧ ss.length ≤ 1000) (fun ss => .int (lcmF (chsF ss) : Nat))
theorem ok_common_low {f : Addr} {fd : FuncData} (F : Fun K "common_low" "common_low" s_common_low f fd) (C_common_low_of : Callee P w K mg base CX0 1 "common_low_of" ["fractions"] (sp_common_low_of K)) : FnOk P w K mg base CX0 2 f fd ["spreads"] (sp_common_low K) := by
  have sc := sc_common_low
  refine fn_D F sc (fun _ => rfl) fun cdv A outer s H E hr => ?_
  refine ⟨_, (pss_one (ps_ret (pe_c C_common_low_of (hr.mono (by decide)) pass0 (pa_cons (pe_lc2 (wi1 := iList K (tVar 1)) (g1 := (gTup K 2 (gCons (gName 2) (gCons (gName 3) gNil)))) (own := [("spread", 1), ("_", 2), ("chance", 3)]) (vs1 := [2, 3]) rfl sc.nd (pi_list (pv 0)) (blkOk_by (own := [("spread", 1), ("_", 2), ("chance", 3)]) (N := ["spreads", "spread", "_", "chance"]) (sc := defScope s_common_low) (by decide +kernel)) (by decide) (fun _ _ _ _ _ => (pg_name (i := 1) sc.nd rfl (Or.inl rfl))) (fun _ _ _ _ _ => pts_nil) (fun _ _ _ _ _ => (pi_list (pv 1))) (fun _ _ _ _ _ => (pg_tup rfl (pgs_cons (pg_name (i := 2) sc.nd rfl (Or.inl rfl)) (pgs_cons (pg_name (i := 3) sc.nd rfl (Or.inl rfl)) pgs_nil)))) (fun _ _ _ _ _ => pts_nil) (fun _ _ _ _ _ => (pv 3))) pa_nil)))), fun ss hl => ?_⟩
  obtain ⟨hl, hlen⟩ := hl
  have e0 : (ss.map fun s => s.map fun p => encQ p.2).flatten = (chsF ss).map encQ := by
    unfold chsF
    rw [List.map_flatMap, List.flatMap_def]
    congr 1
    exact List.map_congr_left fun s _ => by rw [List.map_map]; rfl
  refine run_ret (ed_call (x := chsF ss) (ea_d (en_lc2G (ss.map fun s => s.map fun p => encQ p.2) (ei_list (ed_var 0 rfl)) (ts := [1]) (ts1 := [2, 3]) (by decide) (by decide) (by rw [List.length_map, List.length_map]) (fun i d zs hd hz => ?_) ?_).d ea_nil) (by rw [e0]) hl)
  · rw [List.getElem?_map] at hd hz
    obtain ⟨s1, h1, rfl⟩ := Option.map_eq_some_iff.mp hd
    rw [h1] at hz
    have hz := (Option.some.inj hz).symm
    subst hz
    refine ⟨_, s1.map encI, egp_name (by decide), ei_list (ed_var 1 rfl), by rw [List.length_map, List.length_map], fun j e z he hz => ?_⟩
    rw [List.getElem?_map] at he hz
    obtain ⟨p, h2, rfl⟩ := Option.map_eq_some_iff.mp he
    rw [h2] at hz
    have hz := (Option.some.inj hz).symm
    subst hz
    exact ⟨_, eg_tup (egs_cons (eg_name (by decide)) (egs_cons (eg_name (by decide)) egs_nil)) rfl, ed_var 3 rfl⟩
  · rw [e0, List.length_map]
    have := hl.len
    omega
def topZ (L : Int) (r : Rat) : Int := r.num * L.fdiv r.den
def partsZ (L : Int) (s : Spr) : List (Int × Int) := s.map fun p => (p.1, topZ L p.2)
abbrev encP (p : Int × Int) : PyData := .tuple [.int p.1, .int p.2]
structure TopOk (a : Spr × Int) : Prop where
  q : ∀ p ∈ a.1, Qb 4000 p.2
  l : 0 ≤ a.2 ∧ Bt 100000 a.2
  len : a.1.length ≤ 1000000
theorem sc_tops_over : FnScope ["spread", "low", "value", "chance"] ["spread", "low"] (defScope s_tops_over) := ⟨rfl, rfl, rfl, by decide +kernel, rfl, by decide +kernel, by decide +kernel⟩
def sp_tops_over (K : PySem.W.Frag) : Sp := SpN K (fun a : Spr × Int => [.dat (encS a.1), .dat (.int a.2)]) TopOk (fun a => (partsZ a.2 a.1).map encP)
theorem fdiv_bt {n : Nat} {x y : Int} (h : Bt n x) (h0 : 0 ≤ x) (hy : 0 < y) : Bt n (x.fdiv y) := by
  rw [Int.fdiv_eq_ediv_of_nonneg _ (by omega)]
  have h1 := Int.ediv_nonneg h0 (Int.le_of_lt hy)
  have h2 := Int.ediv_le_self y h0
  unfold Bt at *
  omega
theorem ok_tops_over {f : Addr} {fd : FuncData} (F : Fun K "tops_over" "tops_over" s_tops_over f fd) : FnOk P w K mg base CX0 1 f fd ["spread", "low"] (sp_tops_over K) := by
  have sc := sc_tops_over
  refine fn_N F sc (fun _ => rfl) fun cdv A outer s H E hr => ?_
  refine ⟨_, (pss_one (ps_ret (pe_lc (g := (gTup K 2 (gCons (gName 2) (gCons (gName 3) gNil)))) (own := [("value", 2), ("chance", 3)]) rfl sc.nd (pi_list (pv 0)) (blkOk_by (own := [("value", 2), ("chance", 3)]) (N := ["spread", "low", "value", "chance"]) (sc := defScope s_tops_over) (by decide +kernel)) (fun _ _ _ _ _ => (pg_tup rfl (pgs_cons (pg_name (i := 2) sc.nd rfl (Or.inl rfl)) (pgs_cons (pg_name (i := 3) sc.nd rfl (Or.inl rfl)) pgs_nil)))) (fun _ _ _ _ _ => pts_nil) (fun _ _ _ _ _ => (pe_tup (pa_cons (pv 2) (pa_cons (pe_op op_mulX (pe_ix (r := rIxT K) ix_tup (pv 3) pe_int (fun _ _ => rfl)) (pe_op op_fdivZ (pv 1) (pe_ix (r := rIxT K) ix_tup (pv 3) pe_int (fun _ _ => rfl)))) pa_nil))))))), fun a ha => ?_⟩
  obtain ⟨l, L⟩ := a
  have hq : ∀ p ∈ l, Qb 4000 p.2 := ha.q
  have hL : 0 ≤ L ∧ Bt 100000 L := ha.l
  have hlen : l.length ≤ 1000000 := ha.len
  show Run K E _ _ (.rn ((l.map fun p => (p.1, topZ L p.2)).map encP))
  rw [List.map_map]
  refine run_retN (en_lc (ei_list (ed_var 0 rfl)) (ts := [2, 3]) (by decide) (lc_map encI (fun p : Int × Rat => encP (p.1, topZ L p.2)) fun p hp => ⟨_, eg_tup (egs_cons (eg_name (by decide)) (egs_cons (eg_name (by decide)) egs_nil)) rfl, et_yes, ed_tup (ds := [.int p.1, .int (topZ L p.2)]) (ea_d (ed_var 2 rfl) (ea_d (ed_I (ed_ixT (ds := [.int p.2.num, .int (p.2.den : Int)]) (ed_var 3 rfl) (ed_int 0) rfl) (ed_I (ed_var 1 rfl) (ed_ixT (ds := [.int p.2.num, .int (p.2.den : Int)]) (ed_var 3 rfl) (ed_int 1) rfl) ⟨den_ne _, PySem.Flt.log2_lt_of (by decide) ((hq p hp).den.mono (by decide : 4000 ≤ 9000))⟩) ((hq p hp).num.mulx (fdiv_bt hL.2 hL.1 (by have := p.2.den_pos; omega)) (by decide))) ea_nil))⟩) (by rw [List.length_map]; show l.length ≤ 10000000; omega))

/-! ### common -/
theorem ei_is {wi : TI} {env : EnvD} {ds ds' : List D} (h : EvI K wi env ds) (e : ds = ds') : EvI K wi env ds' := e ▸ h
theorem et_sameS {ta tb : TE} {env : EnvD} {x : Str} (h1 : EvD K ta env (.str x)) (h2 : EvD K tb env (.str x)) : EvT K (tTest (tOp rNe ta tb)) env false :=
  (et_test (ed_neS h1 h2)).is (by rw [decide_eq_true rfl]; rfl)
theorem et_same {ta tb : TE} {env : EnvD} {x : D} (h1 : EvP K ta env x) (h2 : EvP K tb env x) (hx : SeqAt.shaped x = true) : EvT K (tTest (tOp (rNeD K) ta tb)) env false :=
  (et_test (ed_neD h1 h2 hx hx)).is (by
    have h := hx
    unfold SeqAt.shaped at h
    rw [Bool.and_eq_true] at h
    rw [SeqAt.eqv_refl _ h.1]; rfl)
theorem atI_at {ns : List Int} {i : Int} {n : Nat} {x : Int} (e : i = (n : Int)) (h : ns[n]? = some x) : atI (ns.map PyData.int) i = some (.int x) := by subst e; exact atI_map h
theorem atI_getD {ns : List Int} {i : Int} {n : Nat} {x : Int} (e : i = (n : Int)) (h : ns[n]? = some x) : atI (ns.map PyData.int) i = some (.int (ns.getD n 0)) := by
  rw [List.getD_eq_getElem?_getD, h, Option.getD_some]; exact atI_at e h
theorem cutD_min {xs : List D} {a b : Nat} (hab : a ≤ b) : cutD xs (some (a : Int)) (some (b : Int)) = (xs.drop a).take (b - a) := by
  by_cases hb : b ≤ xs.length
  · exact cutD_nat hb hab
  · unfold cutD
    rw [HT.sIx_nat, HT.sIx_nat, Nat.min_eq_right (by omega : xs.length ≤ b)]
    by_cases ha : a ≤ xs.length
    · rw [Nat.min_eq_left ha, List.take_of_length_le (by rw [List.length_drop]; omega), List.take_of_length_le (by rw [List.length_drop]; omega)]
    · rw [Nat.min_eq_right (by omega), List.drop_eq_nil_of_le (Nat.le_refl _), List.drop_eq_nil_of_le (by omega), List.take_nil, List.take_nil]
theorem cutD_first {xs : List D} {b : Nat} : cutD xs none (some (b : Int)) = xs.take b := cutD_min (xs := xs) (a := 0) (b := b) (Nat.zero_le _)
/-- the chance of a value -/
theorem lk_wt {s : Spr} (h : Can s) (v : Int) : (lkA s v).getD 0 = wt s v := by
  have hn : (s.map (·.1)).Nodup := h.asc.imp fun h => by omega
  cases e : lkA s v with
  | none => rw [wt_none (lk_none.mp e)]; rfl
  | some c => rw [wt_nodup hn (lk_mem e)]; rfl
def flt (s : Spr) (v : Int) : List Rat := s.filterMap fun p => if p.1 = v then some p.2 else none
theorem flt_sum (v : Int) : ∀ s : Spr, (flt s v).sum = wt s v
  | [] => rfl
  | p :: s => by
    have ih := flt_sum v s
    unfold flt at *
    rw [wt_cons, List.filterMap_cons]
    by_cases e : p.1 = v
    · rw [if_pos e, if_pos e, List.sum_cons, ih]
    · rw [if_neg e, if_neg e, ih]; grind
theorem flt_enc (s : Spr) (v : Int) : (flt s v).map encQ = s.filterMap fun p => if p.1 = v then some (encQ p.2) else none := by
  unfold flt
  rw [List.map_filterMap]
  congr 1
  funext p
  split <;> rfl
theorem sprOk8 : SprOk 8 21 := ⟨by decide, by decide, by decide, by decide⟩
theorem ty_flt {n : Nat} {s : Spr} (h : Ty n s) (hn : n ≤ 3000) (v : Int) : Fine (flt s v) := by
  obtain ⟨⟨N, b, h1, h2, h3, h4⟩, h5, h6⟩ := h
  refine ⟨N, b, fin_of h1 h2 h3 (Nat.lt_of_le_of_lt (List.length_filterMap_le _ _) h6) (by omega) (by omega), fun r hr => ?_⟩
  obtain ⟨p, hp, e⟩ := List.mem_filterMap.mp hr
  split at e
  · cases e; exact h4 p hp
  · cases e

/-! ### changes of the reserve -/
def ixO (a : Int × List PyData) : Option PyData := if 0 ≤ a.1 ∧ a.1 < (a.2.length : Int) then some .none else none
theorem sc_check_index : FnScope ["index", "items"] ["index", "items"] (defScope s_check_index) := ⟨rfl, rfl, rfl, by decide +kernel, rfl, by decide +kernel, by decide +kernel⟩
def sp_check_index (K : PySem.W.Frag) (C : Addr) : Sp := SpX K (fun a : Int × List PyData => [.dat (.int a.1), .dat (.list a.2)]) (fun _ => True) (.ref C) ixO
theorem ok_check_index {f C : Addr} {fd : FuncData} (F : Fun K "check_index" "check_index" s_check_index f fd) (m_len : mg "len" = none) (e_OutOfRange : ErrC K mg "OutOfRange" C) :
    FnOk P w K mg base (L2.CX P w) 1 f fd ["index", "items"] (sp_check_index K C) := by
  have sc := sc_check_index
  refine fn_X F sc (fun _ => rfl) fun cdv A outer s H E hr => ?_
  refine ⟨_, (pss_one (ps_if (pt_not (pt_chain op_le op_lt pe_int (pv 0) (pe_callB (id := "len") (r := rLenS K) call_len_seq (by rfl) m_len PySem.boot_len (pa_cons (pv 1) pa_nil)))) (pss_one (ps_err rfl (takes_of rfl rfl rfl rfl) e_OutOfRange rfl)) pss_nil)), fun a _ => ?_⟩
  obtain ⟨i, ds⟩ := a
  have tst : EvT K (tNot (tTest (tChain (rI0 fun i j => .bl (decide (i ≤ j))) (rI0 fun i j => .bl (decide (i < j))) (tC (.int 0)) (tVar 0) (tCB (rLenS K) (tCons (tVar 1) tNil))))) [.dat (.int i), .dat (.list ds)] (!(decide (0 ≤ i) && decide (i < (ds.length : Int)))) := et_not (et_test (ed_chain (ed_int 0) (ed_var 0 rfl) (ed_lenl (ed_var 1 rfl).l)))
  by_cases c : 0 ≤ i ∧ i < (ds.length : Int)
  · have hn : ixO (i, ds) = some .none := if_pos c
    refine ⟨fun d hd => .inr ⟨?_, _, run_ifF (tst.is (by rw [decide_eq_true c.1, decide_eq_true c.2]; rfl)) run_next⟩, fun z => (by rw [hn] at z; cases z)⟩
    rw [hn] at hd; cases hd; rfl
  · have hn : ixO (i, ds) = none := if_neg c
    refine ⟨fun d hd => (by rw [hn] at hd; cases hd), fun _ => run_ifT (tst.is ?_) run_err⟩
    by_cases c0 : 0 ≤ i
    · rw [decide_eq_false (show ¬i < (ds.length : Int) from fun z => c ⟨c0, z⟩), Bool.and_false]; rfl
    · rw [decide_eq_false c0]; rfl
def wAt (h : Hs) (v : Int) : Wt := h.ws.getD v.toNat ⟨0, [], []⟩
def tAt (h : Hs) (v : Int) : Tr := h.ts.getD v.toNat ⟨0, []⟩
theorem wAt_at {h : Hs} {v : Int} (h0 : 0 ≤ v) (h1 : v < (h.ws.length : Int)) : h.ws[v.toNat]? = some (wAt h v) := by
  unfold wAt
  rw [List.getD_eq_getElem?_getD, List.getElem?_eq_getElem (show v.toNat < h.ws.length by omega), Option.getD_some]
theorem tAt_at {h : Hs} {v : Int} (h0 : 0 ≤ v) (h1 : v < (h.ts.length : Int)) : h.ts[v.toNat]? = some (tAt h v) := by
  unfold tAt
  rw [List.getD_eq_getElem?_getD, List.getElem?_eq_getElem (show v.toNat < h.ts.length by omega), Option.getD_some]
theorem wAt_d {h : Hs} {v : Int} (h0 : 0 ≤ v) (h1 : v < (h.ws.length : Int)) : atI (h.ws.map encW) v = some (encW (wAt h v)) := atI_int h0 (by rw [List.getElem?_map, wAt_at h0 h1]; rfl)
theorem tAt_d {h : Hs} {v : Int} (h0 : 0 ≤ v) (h1 : v < (h.ts.length : Int)) : atI (h.ts.map encT) v = some (encT (tAt h v)) := atI_int h0 (by rw [List.getElem?_map, tAt_at h0 h1]; rfl)
theorem wAt_ok {h : Hs} (ok : HsQ h) {v : Int} (h0 : 0 ≤ v) (h1 : v < (h.ws.length : Int)) : WtQ h.ws.length (wAt h v) := ok.ws _ (List.mem_of_getElem? (wAt_at h0 h1))
theorem tAt_ok {h : Hs} (ok : HsQ h) {v : Int} (h0 : 0 ≤ v) (h1 : v < (h.ts.length : Int)) : TrOk (tAt h v) ∧ TrV (tAt h v) := ok.ts _ (List.mem_of_getElem? (tAt_at h0 h1))
theorem s2_dmg {i n : Nat} (hi : i < 3) {s l : Spr} (h : DmgJ i n s) (hl : SpG 0 1001 4 l) (hn : n * l.length ≤ 27) (h27 : n ≤ 27) : S2 s l := by
  obtain ⟨_, hT⟩ := dmgJS hi h hl hn
  have hn : nnF i ≤ 417 := nn3 (by omega)
  exact ⟨hT.gd (by omega), fun p hp => (h.ty.qb p hp).mono (by omega), fun p hp => (hl.ty.qb p hp).mono (by decide), by have := h.len; omega, by have := hl.len; omega⟩
def tdO (a : Hs × Int) : Option (List PyData) := if 0 ≤ a.2 ∧ a.2 < (a.1.ws.length : Int) then some ((dmgF (wAt a.1 a.2).lines).map encI) else none
theorem sc_total_damage : FnScope ["house", "weather", "weathers", "_", "lines", "found", "line"] ["house", "weather"] (defScope s_total_damage) := ⟨rfl, rfl, rfl, by decide +kernel, rfl, by decide +kernel, by decide +kernel⟩
def sp_total_damage (K : PySem.W.Frag) (C : Addr) : Sp := SpXN K (fun a : Hs × Int => [.dat (encH a.1), .dat (.int a.2)]) (fun a => HsQ a.1) (.ref C) tdO
theorem ok_total_damage {f C aONE : Addr} {fd : FuncData} (F : Fun K "total_damage" "total_damage" s_total_damage f fd) (m_ONE : mg "ONE" = some (.ref aONE)) (c_ONE : ∀ G : Hp, Dd K G (.ref aONE) (encQ 1)) (C_check_index : Callee P w K mg base (L2.CX P w) 1 "check_index" ["index", "items"] (sp_check_index K C)) (C_sum_of : Callee P w K mg base CX0 4 "sum_of" ["first", "second"] (sp_sum_of K)) :
    FnOk P w K mg base (L2.CX P w) 5 f fd ["house", "weather"] (sp_total_damage K C) := by
  have sc := sc_total_damage
  refine fn_XN F sc (fun _ => rfl) fun cdv A outer s H E hr => ?_
  refine ⟨_, (pss_cons (ps_asg (pv 0) (pg_tup rfl (pgs_cons (pg_name (i := 2) sc.nd rfl (by first | exact Or.inl rfl | exact Or.inr rfl)) (pgs_cons (pg_name (i := 3) sc.nd rfl (by first | exact Or.inl rfl | exact Or.inr rfl)) pgs_nil))))
      (pss_cons (ps_expr (pe_c C_check_index (hr.mono (by decide)) pass_up (pa_cons (pv 1) (pa_cons (pv 2) pa_nil))))
      (pss_cons (ps_asg (pe_ix (r := rIxL K) ix_list (pv 2) (pv 1) (fun _ _ => rfl)) (pg_tup rfl (pgs_cons (pg_name (i := 3) sc.nd rfl (by first | exact Or.inl rfl | exact Or.inr rfl)) (pgs_cons (pg_name (i := 4) sc.nd rfl (by first | exact Or.inl rfl | exact Or.inr rfl)) (pgs_cons (pg_name (i := 3) sc.nd rfl (by first | exact Or.inl rfl | exact Or.inr rfl)) pgs_nil)))))
      (pss_cons (ps_set (i := 5) sc.nd rfl (by first | exact Or.inl rfl | exact Or.inr rfl) (pe_lst (pa_cons (pe_tup (pa_cons pe_int (pa_cons (pe_glob (v := .ref aONE) rfl m_ONE rfl) pa_nil))) pa_nil)))
      (pss_cons (ps_for (passes_of rfl) rfl (pi_list (pv 4)) (pg_name (i := 6) sc.nd rfl (by first | exact Or.inl rfl | exact Or.inr rfl)) (pss_one (ps_set (i := 5) sc.nd rfl (by first | exact Or.inl rfl | exact Or.inr rfl) (pe_c C_sum_of (hr.mono (by decide)) pass0 (pa_cons (pv 5) (pa_cons (pv 6) pa_nil))))))
      (pss_one (ps_ret (pv 5)))))))), fun a ha => ?_⟩
  obtain ⟨h, v⟩ := a
  have ok : HsQ h := ha
  have hd1 : Run K E (tAsg (tVar 0) (gTup K 2 (gCons (gName 2) (gCons (gName 3) gNil)))) [.dat (encH h), .dat (.int v), .un, .un, .un, .un, .un] (.nx [.dat (encH h), .dat (.int v), .dat (.list (h.ws.map encW)), .dat (.list (h.ts.map encT)), .un, .un, .un]) := run_asg (ts := [2, 3]) (ed_var 0 rfl) (eg_tup (egs_cons (eg_name (by decide)) (egs_cons (eg_name (by decide)) egs_nil)) rfl)
  by_cases c : 0 ≤ v ∧ v < (h.ws.length : Int)
  · have hn : tdO (h, v) = some ((dmgF (wAt h v).lines).map encI) := if_pos c
    have hx : ixO (v, h.ws.map encW) = some .none := if_pos (by rw [List.length_map]; exact c)
    refine ⟨fun ds hds => ?_, fun z => (by rw [hn] at z; cases z)⟩
    rw [hn] at hds
    obtain rfl := (Option.some.inj hds).symm
    have hw := wAt_ok ok c.1 c.2
    have hat := wAt_d c.1 c.2
    generalize wAt h v = W at hw hat ⊢
    obtain ⟨pr, ls, tu⟩ := W
    have hl : ∀ l ∈ ls, SpG 0 1001 4 l := hw.lines
    have hpr : ∀ i, i ≤ ls.length → lenF (ls.take i) ≤ 27 := hw.prod
    have hf : ls.length ≤ 3 := hw.few
    refine run_seq hd1 (run_seq (run_drop (ed_callX (x := (v, h.ws.map encW)) (d := .none) (ea_d (ed_var 1 rfl) (ea_d (ed_var 2 rfl) ea_nil)) rfl trivial hx).v) ?_)
    refine run_seq (run_asg (ts := [3, 4, 3]) (d := encW ⟨pr, ls, tu⟩) (ed_ixl (ed_var 2 rfl).l (ed_var 1 rfl) hat) (eg_tup (egs_cons (eg_name (by decide)) (egs_cons (eg_name (by decide)) (egs_cons (eg_name (by decide)) egs_nil))) rfl)) ?_
    refine run_seq (run_setN (en_lst (ds := [encI (0, 1)]) (ea_d (ed_tup (ds := [.int 0, encQ 1]) (ea_d (ed_int 0) (ea_d (ed_con c_ONE) ea_nil))) ea_nil))) ?_
    refine run_seq (run_for (ts := [6]) (fun i => [.un, .un, .un, .un, .dat (.list (ls.map encS)), .ml ((dmgF (ls.take i)).map encI), .un]) (ei_list (ed_var 4 rfl)) (.un (.un (.un (.un (.eq (.eq (.un .nil))))))) (fun i d hi hd => ⟨_, eg_name (by decide), ?_⟩)) ?_
    · rw [List.length_map] at hi
      obtain rfl : d = encS ls[i] := by rw [List.getElem?_map, List.getElem?_eq_getElem hi] at hd; exact (Option.some.inj hd).symm
      have hi : i < ls.length := hi
      rw [dmg_step hi]
      have hI := dmgJ_inv hl hf hpr i (by omega)
      have hpi := hpr i (by omega)
      have hp1 := hpr (i + 1) (by omega)
      rw [lenF_step hi] at hp1
      have hli := hl _ (List.getElem_mem hi)
      generalize dmgF (ls.take i) = S at hI ⊢
      exact .n (run_pub 5 rfl (run_setN (en_call (x := (S, ls[i])) (ea_d (ed_var 5 rfl) (ea_d (ed_var 6 rfl) ea_nil)) rfl (s2_dmg (by omega) hI hli hp1 hpi)))) (.un (.un (.un (.un (.eq (.eq (.un .nil)))))))
    · rw [List.length_map, List.take_length]
      exact run_retM 5 rfl
  · have hn : tdO (h, v) = none := if_neg c
    have hx : ixO (v, h.ws.map encW) = none := if_neg (by rw [List.length_map]; exact c)
    refine ⟨fun ds hds => (by rw [hn] at hds; cases hds), fun _ => ?_⟩
    exact run_seq hd1 (run_seqE (run_dropX (x := (v, h.ws.map encW)) (ea_d (ed_var 1 rfl) (ea_d (ed_var 2 rfl) ea_nil)) rfl trivial hx))
structure CbA where
  prem : Int
  t : Tr
  s : Spr
theorem sc_change_by : FnScope ["premium", "treaty", "damage", "price", "_", "losses", "gains", "loss", "chance"] ["premium", "treaty", "damage"] (defScope s_change_by) := ⟨rfl, rfl, rfl, by decide +kernel, rfl, by decide +kernel, by decide +kernel⟩
def sp_change_by (K : PySem.W.Frag) : Sp := SpN K (fun a : CbA => [.dat (.int a.prem), .dat (encT a.t), .dat (encS a.s)]) (fun a => TrOk a.t ∧ DmgE a.s) (fun a => (chgF a.prem a.t a.s).map encI)
theorem ok_change_by {f : Addr} {fd : FuncData} (F : Fun K "change_by" "change_by" s_change_by f fd) (m_reversed : mg "reversed" = none) (C_after_treaty : Callee P w K mg base CX0 4 "after_treaty" ["treaty", "spread"] (sp_after_treaty K)) (C_shifted : Callee P w K mg base CX0 1 "shifted" ["spread", "places"] (sp_shifted K)) :
    FnOk P w K mg base CX0 5 f fd ["premium", "treaty", "damage"] (sp_change_by K) := by
  have sc := sc_change_by
  refine fn_N F sc (fun _ => rfl) fun cdv A outer s H E hr => ?_
  refine ⟨_, (pss_cons (ps_asg (pv 1) (pg_tup rfl (pgs_cons (pg_name (i := 3) sc.nd rfl (by first | exact Or.inl rfl | exact Or.inr rfl)) (pgs_cons (pg_name (i := 4) sc.nd rfl (by first | exact Or.inl rfl | exact Or.inr rfl)) pgs_nil))))
      (pss_cons (ps_set (i := 5) sc.nd rfl (by first | exact Or.inl rfl | exact Or.inr rfl) (pe_c C_after_treaty (hr.mono (by decide)) pass0 (pa_cons (pv 1) (pa_cons (pv 2) pa_nil))))
      (pss_cons (ps_setLc (i := 6) (g := (gTup K 2 (gCons (gName 7) (gCons (gName 8) gNil)))) (own := [("loss", 7), ("chance", 8)]) rfl sc.nd rfl rfl (sw_true rfl rfl rfl (by decide +kernel)) (pi_reversed (by rfl) m_reversed (pa_cons (pv 5) pa_nil)) (blkOk_by (own := [("loss", 7), ("chance", 8)]) (N := ["premium", "treaty", "damage", "price", "_", "losses", "gains", "loss", "chance"]) (sc := defScope s_change_by) (by decide +kernel)) (fun _ _ _ _ _ => (pg_tup rfl (pgs_cons (pg_name (i := 7) sc.nd rfl (Or.inl rfl)) (pgs_cons (pg_name (i := 8) sc.nd rfl (Or.inl rfl)) pgs_nil)))) (fun _ _ _ _ _ => pts_nil) (fun _ _ _ _ _ => (pe_tup (pa_cons (pe_un un_neg (pv 7)) (pa_cons (pv 8) pa_nil)))))
      (pss_one (ps_ret (pe_c C_shifted (hr.mono (by decide)) pass0 (pa_cons (pv 6) (pa_cons (pe_op op_sub (pv 0) (pv 3)) pa_nil)))))))), fun a ha => ?_⟩
  obtain ⟨pr, t, l⟩ := a
  obtain ⟨ht, hE⟩ := ha
  have ht : TrOk t := ht
  have hE : DmgE l := hE
  have hlen : (gatF (mapT t l)).length ≤ 100 := by
    have h1 := gat_len (mapT t l)
    have h2 : (mapT t l).length = l.length := by unfold mapT; rw [List.length_map]
    have := hE.len
    omega
  refine run_seq (run_asg (ts := [3, 4]) (ed_var 1 rfl) (eg_tup (egs_cons (eg_name (by decide)) (egs_cons (eg_name (by decide)) egs_nil)) rfl)) ?_
  refine run_seq (run_setN (en_call (x := (t, l)) (ea_d (ed_var 1 rfl) (ea_d (ed_var 2 rfl) ea_nil)) rfl ⟨ht, hE⟩)) (run_pub 5 rfl ?_)
  show Run K E _ [.dat (.int pr), .dat (encT t), .dat (encS l), .dat (.int t.prem), .dat (.list (t.ls.map encL)), .dat (encS (gatF (mapT t l))), .un, .un, .un] (.rn ((shF (negF (gatF (mapT t l))) (pr - t.prem)).map encI))
  generalize gatF (mapT t l) = S at hlen ⊢
  have eN : (S.reverse.map fun p : Int × Rat => encI (-p.1, p.2)) = (negF S).map encI := by unfold negF; rw [List.map_map]; rfl
  refine run_seq (run_setN ((en_lc (ei_is (ei_rev (ed_var 5 rfl)) (ds' := S.reverse.map encI) (by rw [List.map_reverse])) (ts := [7, 8]) (by decide) (lc_map encI (fun p : Int × Rat => encI (-p.1, p.2)) fun p hp => ⟨_, eg_tup (egs_cons (eg_name (by decide)) (egs_cons (eg_name (by decide)) egs_nil)) rfl, et_yes, ed_tup (ds := [.int (-p.1), encQ p.2]) (ea_d (ed_neg (ed_var 7 rfl)) (ea_d (ed_var 8 rfl) ea_nil))⟩) (by rw [List.length_map, List.length_reverse]; omega)).is eN)) (run_pub 6 rfl ?_)
  exact run_retN (en_call (x := (negF S, pr - t.prem)) (ea_d (ed_var 6 rfl) (ea_d (ed_I0 (ed_var 0 rfl) (ed_var 3 rfl)) ea_nil)) rfl (by show (negF S).length ≤ 10000; unfold negF; rw [List.length_map, List.length_reverse]; omega))
structure CoA where
  h : Hs
  v : Int
  t : Int
def coO (a : CoA) : Option (List PyData) := if (0 ≤ a.v ∧ a.v < (a.h.ws.length : Int)) ∧ (0 ≤ a.t ∧ a.t < (a.h.ts.length : Int)) then some ((chgF (wAt a.h a.v).prem (tAt a.h a.t) (dmgF (wAt a.h a.v).lines)).map encI) else none
theorem sc_change_of : FnScope ["house", "weather", "treaty", "weathers", "treaties"] ["house", "weather", "treaty"] (defScope s_change_of) := ⟨rfl, rfl, rfl, by decide +kernel, rfl, by decide +kernel, by decide +kernel⟩
def sp_change_of (K : PySem.W.Frag) (C : Addr) : Sp := SpXN K (fun a : CoA => [.dat (encH a.h), .dat (.int a.v), .dat (.int a.t)]) (fun a => HsQ a.h) (.ref C) coO
theorem ok_change_of {f C : Addr} {fd : FuncData} (F : Fun K "change_of" "change_of" s_change_of f fd) (C_check_index : Callee P w K mg base (L2.CX P w) 1 "check_index" ["index", "items"] (sp_check_index K C)) (C_total_damage : Callee P w K mg base (L2.CX P w) 5 "total_damage" ["house", "weather"] (sp_total_damage K C)) (C_change_by : Callee P w K mg base CX0 5 "change_by" ["premium", "treaty", "damage"] (sp_change_by K)) :
    FnOk P w K mg base (L2.CX P w) 6 f fd ["house", "weather", "treaty"] (sp_change_of K C) := by
  have sc := sc_change_of
  refine fn_XN F sc (fun _ => rfl) fun cdv A outer s H E hr => ?_
  refine ⟨_, (pss_cons (ps_asg (pv 0) (pg_tup rfl (pgs_cons (pg_name (i := 3) sc.nd rfl (by first | exact Or.inl rfl | exact Or.inr rfl)) (pgs_cons (pg_name (i := 4) sc.nd rfl (by first | exact Or.inl rfl | exact Or.inr rfl)) pgs_nil))))
      (pss_cons (ps_expr (pe_c C_check_index (hr.mono (by decide)) pass_up (pa_cons (pv 1) (pa_cons (pv 3) pa_nil))))
      (pss_cons (ps_expr (pe_c C_check_index (hr.mono (by decide)) pass_up (pa_cons (pv 2) (pa_cons (pv 4) pa_nil))))
      (pss_one (ps_ret (pe_c C_change_by (hr.mono (by decide)) pass0 (pa_cons (pe_ix (r := rIxT K) ix_tup (pe_ix (r := rIxL K) ix_list (pv 3) (pv 1) (fun _ _ => rfl)) pe_int (fun _ _ => rfl)) (pa_cons (pe_ix (r := rIxL K) ix_list (pv 4) (pv 2) (fun _ _ => rfl)) (pa_cons (pe_c C_total_damage (hr.mono (by decide)) pass_up (pa_cons (pv 0) (pa_cons (pv 1) pa_nil))) pa_nil))))))))), fun a ha => ?_⟩
  obtain ⟨h, v, t⟩ := a
  have ok : HsQ h := ha
  have hd1 : Run K E (tAsg (tVar 0) (gTup K 2 (gCons (gName 3) (gCons (gName 4) gNil)))) [.dat (encH h), .dat (.int v), .dat (.int t), .un, .un] (.nx [.dat (encH h), .dat (.int v), .dat (.int t), .dat (.list (h.ws.map encW)), .dat (.list (h.ts.map encT))]) := run_asg (ts := [3, 4]) (ed_var 0 rfl) (eg_tup (egs_cons (eg_name (by decide)) (egs_cons (eg_name (by decide)) egs_nil)) rfl)
  by_cases c : 0 ≤ v ∧ v < (h.ws.length : Int)
  · have hx : ixO (v, h.ws.map encW) = some .none := if_pos (by rw [List.length_map]; exact c)
    by_cases c2 : 0 ≤ t ∧ t < (h.ts.length : Int)
    · have hy : ixO (t, h.ts.map encT) = some .none := if_pos (by rw [List.length_map]; exact c2)
      have hn : coO ⟨h, v, t⟩ = some ((chgF (wAt h v).prem (tAt h t) (dmgF (wAt h v).lines)).map encI) := if_pos ⟨c, c2⟩
      have hn2 : tdO (h, v) = some ((dmgF (wAt h v).lines).map encI) := if_pos c
      refine ⟨fun ds hds => ?_, fun z => (by rw [hn] at z; cases z)⟩
      rw [hn] at hds
      obtain rfl := (Option.some.inj hds).symm
      have hw := wAt_ok ok c.1 c.2
      have hat := wAt_d c.1 c.2
      have htt := tAt_ok ok c2.1 c2.2
      have hat2 := tAt_d c2.1 c2.2
      generalize wAt h v = W at hw hat hn2 ⊢
      generalize tAt h t = T at htt hat2 ⊢
      obtain ⟨pr, ls, tu⟩ := W
      have hE : DmgE (dmgF ls) := dmgEQ hw.lines hw.few hw.prod
      refine run_seq hd1 (run_seq (run_drop (ed_callX (x := (v, h.ws.map encW)) (d := .none) (ea_d (ed_var 1 rfl) (ea_d (ed_var 3 rfl) ea_nil)) rfl trivial hx).v) (run_seq (run_drop (ed_callX (x := (t, h.ts.map encT)) (d := .none) (ea_d (ed_var 2 rfl) (ea_d (ed_var 4 rfl) ea_nil)) rfl trivial hy).v) ?_))
      exact run_retN (en_call (x := (⟨pr, T, dmgF ls⟩ : CbA)) (ea_d (ed_ixT (ds := [.int pr, .list (ls.map encS), encS tu]) (ed_ixl (ed_var 3 rfl).l (ed_var 1 rfl) hat) (ed_int 0) rfl) (ea_d (ed_ixl (ed_var 4 rfl).l (ed_var 2 rfl) hat2) (ea_d (en_callXN (x := (h, v)) (ea_d (ed_var 0 rfl) (ea_d (ed_var 1 rfl) ea_nil)) rfl ok hn2).d ea_nil))) rfl ⟨htt.1, hE⟩)
    · have hy : ixO (t, h.ts.map encT) = none := if_neg (by rw [List.length_map]; exact c2)
      have hn : coO ⟨h, v, t⟩ = none := if_neg fun z => c2 z.2
      refine ⟨fun ds hds => (by rw [hn] at hds; cases hds), fun _ => ?_⟩
      exact run_seq hd1 (run_seq (run_drop (ed_callX (x := (v, h.ws.map encW)) (d := .none) (ea_d (ed_var 1 rfl) (ea_d (ed_var 3 rfl) ea_nil)) rfl trivial hx).v) (run_seqE (run_dropX (x := (t, h.ts.map encT)) (ea_d (ed_var 2 rfl) (ea_d (ed_var 4 rfl) ea_nil)) rfl trivial hy)))
  · have hx : ixO (v, h.ws.map encW) = none := if_neg (by rw [List.length_map]; exact c)
    have hn : coO ⟨h, v, t⟩ = none := if_neg fun z => c z.1
    refine ⟨fun ds hds => (by rw [hn] at hds; cases hds), fun _ => ?_⟩
    exact run_seq hd1 (run_seqE (run_dropX (x := (v, h.ws.map encW)) (ea_d (ed_var 1 rfl) (ea_d (ed_var 3 rfl) ea_nil)) rfl trivial hx))

end
end KP

namespace KP
open PySem L2 DL MX
section
variable {P : Program} {w : World} {K : PySem.W.Frag} {mg : Str → Option Value} {base : Heap}
/-! ### the change as parts -/
structure FaP (P : List (Int × Int)) : Prop where
  asc : (P.map (·.1)).Pairwise (· < ·)
  ne : P ≠ []
  val : ∀ p ∈ P, -1000000 ≤ p.1 ∧ p.1 ≤ 1000000
def lossN (P : List (Int × Int)) : Nat := (-(P.headD (0, 0)).1).toNat
def fallsF (P : List (Int × Int)) : List Int := (List.range (lossN P)).map fun r : Nat => fallZ P (r : Int)
theorem FaP.head {P : List (Int × Int)} (h : FaP P) : P[0]? = some (P.headD (0, 0)) ∧ P.headD (0, 0) ∈ P ∧ ∀ p ∈ P, (P.headD (0, 0)).1 ≤ p.1 := by
  cases P with
  | nil => exact absurd rfl h.ne
  | cons a r =>
    refine ⟨rfl, List.mem_cons_self, fun p hp => ?_⟩
    show a.1 ≤ p.1
    rcases List.mem_cons.mp hp with e | e
    · rw [e]; exact Int.le_refl _
    · have := h.asc
      rw [List.map_cons, List.pairwise_cons] at this
      exact Int.le_of_lt (this.1 _ (List.mem_map.mpr ⟨p, e, rfl⟩))
theorem FaP.nodup {P : List (Int × Int)} (h : FaP P) : (P.map (·.1)).Nodup := h.asc.imp fun h => by omega
theorem el_is {te : TE} {env : EnvD} {ds ds' : List D} (h : EvL K te env ds) (e : ds = ds') : EvL K te env ds' := e ▸ h
theorem sc_falls_of : FnScope ["parts", "tops", "found", "fall", "loss"] ["parts"] (defScope s_falls_of) := ⟨rfl, rfl, rfl, by decide +kernel, rfl, by decide +kernel, by decide +kernel⟩
def sp_falls_of (K : PySem.W.Frag) : Sp := SpN K (fun P : List (Int × Int) => [.dat (.list (P.map encP))]) FaP (fun P => (fallsF P).map PyData.int)
theorem ok_falls_of {f : Addr} {fd : FuncData} (F : Fun K "falls_of" "falls_of" s_falls_of f fd) (m_dict : mg "dict" = none) (m_range : mg "range" = none) : FnOk P w K mg base CX0 1 f fd ["parts"] (sp_falls_of K) := by
  have sc := sc_falls_of
  refine fn_N F sc (fun _ => rfl) fun cdv A outer s0 H E hr => ?_
  refine ⟨_, (pss_cons (ps_set (i := 1) sc.nd rfl (by first | exact Or.inl rfl | exact Or.inr rfl) (pe_callTy (T := "dict") (r := rDictP K) (call_dictP rfl) (by rfl) m_dict (by decide +kernel) (pa_cons (pv 0) pa_nil)))
      (pss_cons (ps_set (i := 2) sc.nd rfl (by first | exact Or.inl rfl | exact Or.inr rfl) (pe_lst pa_nil))
      (pss_cons (ps_set (i := 3) sc.nd rfl (by first | exact Or.inl rfl | exact Or.inr rfl) pe_int)
      (pss_cons (ps_for PassesOwn.never rfl (pi_range3 (by rfl) m_range (pa_cons (pe_un un_neg (pe_ix (r := rIxT K) ix_tup (pe_ix (r := rIxL K) ix_list (pv 0) pe_int (fun _ _ => rfl)) pe_int (fun _ _ => rfl))) (pa_cons pe_int (pa_cons (pe_un un_neg pe_int) pa_nil)))) (pg_name (i := 4) sc.nd rfl (by first | exact Or.inl rfl | exact Or.inr rfl)) (pss_cons (ps_aug (i := 3) sc.nd rfl (by first | exact Or.inl rfl | exact Or.inr rfl) (pe_dget2 (hu_of hr) (pv 1) (pe_un un_neg (pv 4)) pe_int ⟨rfl, rfl, rfl, rfl⟩) ip_add)
      (pss_one (ps_expr (pe_bm PySem.F.plainAttrs_list PySem.F.slot_list_append PySem.F.type_list_append mt_append (pv 2) (pa_cons (pv 3) pa_nil))))))
      (pss_one (ps_ret (pe_revL (pv 2)))))))), fun Q h => ?_⟩
  have h : FaP Q := h
  obtain ⟨g1, g2, g3⟩ := h.head
  have hv := h.val _ g2
  have eM : mergeD [] (dkP Q) = dkP Q := mergeD_id _ _ (dkP_keys h.nodup)
  have hN : (lossN Q : Int) = if (Q.headD (0, 0)).1 < 0 then -(Q.headD (0, 0)).1 else 0 := by unfold lossN; split <;> omega
  have hg : ∀ p ∈ Q, -(lossN Q : Int) ≤ p.1 := fun p hp => by have := g3 p hp; rw [hN]; split <;> omega
  generalize hn : lossN Q = n at *
  refine run_seq (run_is (run_setM (em_dictP (el_is (ed_var 0 rfl).l (dkP_prd Q).symm))) (by rw [eM])) ?_
  show Run K E _ [.dat (.list (Q.map encP)), .md (dkP Q), .un, .un, .un] _
  refine run_seq (run_setN (en_lst (ds := []) ea_nil)) ?_
  refine run_seq (run_set (ed_int 0)) ?_
  have hx : atI (Q.map encP) 0 = some (encP (Q.headD (0, 0))) := by
    have : (Q.map encP)[0]? = some (encP (Q.headD (0, 0))) := by rw [List.getElem?_map, g1]; rfl
    have hl : 0 < (Q.map encP).length := (List.getElem?_eq_some_iff.mp this).1
    unfold atI ixN
    rw [if_pos (by decide), if_pos (by omega)]
    exact this
  have hR : RgC (-(Q.headD (0, 0)).1) 0 (-1) n := by
    by_cases c : (Q.headD (0, 0)).1 < 0
    · rw [if_pos c] at hN
      have := RgC.neg (i := -(Q.headD (0, 0)).1) (j := 0) (by omega) (by omega) (by omega) (by omega)
      rwa [show (-(Q.headD (0, 0)).1 - 0).toNat = n by omega] at this
    · rw [if_neg c] at hN
      have := RgC.neg (i := -(Q.headD (0, 0)).1) (j := 0) (by omega) (by omega) (by omega) (by omega)
      rwa [show (-(Q.headD (0, 0)).1 - 0).toNat = n by omega] at this
  refine run_seq (run_for (ts := [4]) (fun i => [.dat (.list (Q.map encP)), .md (dkP Q), .ml (((List.range i).map fun k : Nat => fallZ Q ((n : Int) - 1 - (k : Int))).map PyData.int), .dat (.int (fallZ Q ((n : Int) - (i : Int)))), .un]) (ei_rng3 (ed_neg (ed_ixT (ds := [.int (Q.headD (0, 0)).1, .int (Q.headD (0, 0)).2]) (ed_ixl (ed_var 0 rfl).l (ed_int 0) hx) (ed_int 0) rfl)) (ed_int 0) (ed_neg (ed_int 1)) hR) (by
    show Less [_, _, _, .dat (.int 0), _] [_, _, _, .dat (.int (fallZ Q ((n : Int) - ((0 : Nat) : Int)))), _]
    rw [fall_none (P := Q) (m := (n : Int) - ((0 : Nat) : Int)) (fun p hp => by have := hg p hp; omega)]
    exact (.eq (.eq (.eq (.eq (.un .nil)))))) (fun i d hi hd => ⟨_, eg_name (by decide), ?_⟩)) ?_
  · obtain ⟨hi2, rfl⟩ := rngD_get hd
    have c : (Q.headD (0, 0)).1 < 0 := by
      by_cases c : (Q.headD (0, 0)).1 < 0
      · exact c
      · rw [if_neg c] at hN; omega
    rw [if_pos c] at hN
    have e1 : -(Q.headD (0, 0)).1 + (i : Int) * -1 = (n : Int) - (i : Int) := by omega
    rw [e1]
    have es := fall_step ((n : Int) - ((i + 1 : Nat) : Int)) h.nodup
    have e2 : (n : Int) - ((i + 1 : Nat) : Int) + 1 = (n : Int) - (i : Int) := by omega
    rw [e2] at es
    rw [List.range_succ, List.map_append, List.map_append]
    have e3 : (n : Int) - 1 - (i : Int) = (n : Int) - ((i + 1 : Nat) : Int) := by omega
    show Turn1 K E _ _ [_, _, .ml (_ ++ [.int (fallZ Q ((n : Int) - 1 - (i : Int)))]), _, _]
    rw [e3, es]
    exact .n (run_seq (run_augI rfl ((ed_dget2 (i := 1) rfl (ed_neg (ed_var 4 rfl)) (ed_int 0)).is (dkP_lk _ Q))) (run_append (i := 2) rfl (ed_var 3 rfl) (by rw [List.length_map, List.length_map, List.length_range]; omega))) (.eq (.eq (.eq (.eq (.un .nil)))))
  · rw [rngD_len]
    refine run_retN ((en_revL (el_var 2 rfl)).is ?_)
    unfold fallsF
    rw [hn, ← List.map_reverse, ← List.map_reverse]
    congr 1
    refine List.ext_getElem (by simp) fun k h1 h2 => ?_
    rw [List.length_map, List.length_reverse, List.length_range] at h1
    simp only [List.getElem_map, List.getElem_reverse, List.length_range, List.getElem_range]
    congr 1
    omega
structure ChC (K : PySem.W.Frag) (C : Addr) : Prop where
  cl : Cls K C
  n1 : NoAttr K C "low"
  n2 : NoAttr K C "parts"
  n3 : NoAttr K C "falls"
def chD (low : Int) (P : List (Int × Int)) : List (Str × D) := [("low", .int low), ("parts", .list (P.map encP)), ("falls", .list ((fallsF P).map PyData.int))]
def chT (C : Addr) (low : Int) (P : List (Int × Int)) : T := .o C ((chD low P).map fun p => (p.1, T.d p.2))
structure CiP (a : Spr × Int) : Prop where
  top : TopOk a
  fa : FaP (partsZ a.2 a.1)
theorem sc_Change___init__ : FnScope ["self", "spread", "low"] ["self", "spread", "low"] (defScope s_Change___init__) := ⟨rfl, rfl, rfl, by decide +kernel, rfl, by decide +kernel, by decide +kernel⟩
def sp_ch_init (K : PySem.W.Frag) (C : Addr) : Sp := SpU K (fun _ : Spr × Int => .o C []) (fun a => [.dat (encS a.1), .dat (.int a.2)]) CiP (fun a => chT C a.2 (partsZ a.2 a.1)) (fun _ => .none)
theorem ok_ch_init {f C : Addr} {fd : FuncData} (F : Fun K "__init__" "Change.__init__" s_Change___init__ f fd) (T0 : ChC K C) (C_tops_over : Callee P w K mg base CX0 1 "tops_over" ["spread", "low"] (sp_tops_over K)) (C_falls_of : Callee P w K mg base CX0 1 "falls_of" ["parts"] (sp_falls_of K)) :
    FnOk P w K mg base CX0 2 f fd ["self", "spread", "low"] (sp_ch_init K C) := by
  have sc := sc_Change___init__
  refine fn_U F sc (fun _ => rfl) fun cdv A outer s0 H E hr => ?_
  refine ⟨_, (pss_cons (ps_fld (pv 0) (pv 2) rfl)
      (pss_cons (ps_fld (pv 0) (pe_c C_tops_over (hr.mono (by decide)) pass0 (pa_cons (pv 1) (pa_cons (pv 2) pa_nil))) rfl)
      (pss_one (ps_fld (pv 0) (pe_c C_falls_of (hr.mono (by decide)) pass0 (pa_cons (pe_fld (pv 0) rfl) pa_nil)) rfl)))), fun a v0 ha => .inr ⟨rfl, ?_⟩⟩
  obtain ⟨s, low⟩ := a
  have h1 : TopOk (s, low) := ha.top
  have h2 : FaP (partsZ low s) := ha.fa
  refine ⟨[.tr (some v0) (chT C low (partsZ low s)), .dat (encS s), .dat (.int low)], rfl, ?_⟩
  refine run_seq (run_fld (p := []) (ed_var 2 rfl).m (es_v 0 rfl) rfl rfl T0.cl T0.n1 (by decide)) ?_
  show Run K E _ [.tr (some v0) (.o C [("low", .d (.int low))]), .dat (encS s), .dat (.int low)] _
  refine run_seq (run_fld (p := []) (t := .d (.list ((partsZ low s).map encP))) (en_call (x := (s, low)) (ea_d (ed_var 1 rfl) (ea_d (ed_var 2 rfl) ea_nil)) rfl h1).d.m (es_v 0 rfl) rfl rfl T0.cl T0.n2 (by simp)) ?_
  show Run K E _ [.tr (some v0) (.o C [("low", .d (.int low)), ("parts", .d (.list ((partsZ low s).map encP)))]), .dat (encS s), .dat (.int low)] _
  exact run_is (run_fld (p := []) (t := .d (.list ((fallsF (partsZ low s)).map PyData.int))) (en_call (x := partsZ low s) (ea_d (ed_at (es_fld (es_v 0 rfl) ⟨_, _, rfl, rfl⟩ rfl T0.cl T0.n2) ⟨_, _, rfl, rfl⟩) ea_nil) rfl h2).d.m (es_v 0 rfl) rfl rfl T0.cl T0.n3 (by simp)) rfl
structure CfA where
  low : Int
  P : List (Int × Int)
  r : Nat
theorem sc_Change_fall : FnScope ["self", "reserve"] ["self", "reserve"] (defScope s_Change_fall) := ⟨rfl, rfl, rfl, by decide +kernel, rfl, by decide +kernel, by decide +kernel⟩
def sp_ch_fall (K : PySem.W.Frag) (C : Addr) : Sp := SpD K (fun a : CfA => [.dat (objD C (chD a.low a.P)), .dat (.int (a.r : Int))]) (fun a => FaP a.P) (fun a => .int (fallZ a.P (a.r : Int)))
theorem ok_ch_fall {f C : Addr} {fd : FuncData} (F : Fun K "fall" "Change.fall" s_Change_fall f fd) (T0 : ChC K C) (m_len : mg "len" = none) : FnOk P w K mg base CX0 1 f fd ["self", "reserve"] (sp_ch_fall K C) := by
  have sc := sc_Change_fall
  refine fn_D F sc (fun _ => rfl) fun cdv A outer s0 H E hr => ?_
  refine ⟨_, (pss_cons (ps_if (pt_cmpR op_lt (pv 1) (pe_callB (id := "len") (r := rLenS K) call_len_seq (by rfl) m_len PySem.boot_len (pa_cons (pe_fld (pv 0) rfl) pa_nil)) (nomark _)) (pss_one (ps_ret (pe_ix (r := rIxL K) ix_list (pe_fld (pv 0) rfl) (pv 1) (fun _ _ => rfl)))) pss_nil)
      (pss_one (ps_ret pe_int))), fun a ha => ?_⟩
  obtain ⟨low, Q, r⟩ := a
  have h : FaP Q := ha
  have fF : ∀ ev : EnvD, ev[0]? = some (.dat (objD C (chD low Q))) → EvD K (tFld K (tVar 0) "falls") ev (.list ((fallsF Q).map PyData.int)) := fun ev e => ed_fld (ed_var 0 e) T0.cl T0.n3 rfl
  have hl : ((fallsF Q).map PyData.int).length = lossN Q := by rw [List.length_map]; unfold fallsF; rw [List.length_map, List.length_range]
  show Run K E _ [.dat (objD C (chD low Q)), .dat (.int (r : Int))] _
  by_cases c : r < lossN Q
  · refine run_seqR (run_ifT ((et_test (ed_B0 (ed_var 1 rfl) (ed_lenl (fF _ rfl).l))).is (by rw [hl]; exact decide_eq_true (by omega))) (run_ret (ed_ixl (fF _ rfl).l (ed_var 1 rfl) (atI_map ?_))))
    unfold fallsF
    rw [List.getElem?_map, List.getElem?_range c]; rfl
  · refine run_seq (run_ifF ((et_test (ed_B0 (ed_var 1 rfl) (ed_lenl (fF _ rfl).l))).is (by rw [hl]; exact decide_eq_false (by omega))) run_next) ?_
    have e : fallZ Q (r : Int) = 0 := fall_none fun p hp => by
      have := h.head.2.2 p hp
      unfold lossN at c
      omega
    show Run K E _ _ (.rt (.int (fallZ Q (r : Int))))
    rw [e]
    exact run_ret (ed_int 0)

end
end KP

namespace KP
open PySem L2 DL MX
section
variable {P : Program} {w : World} {K : PySem.W.Frag} {mg : Str → Option Value} {base : Heap}
/-! ### the mean over the turns -/
def mnP (s : Spr) (ws : List Rat) : List (Int × Int) := s.map fun p => (p.2.num * (ws.getD p.1.toNat 0).num, (p.2.den : Int) * (ws.getD p.1.toNat 0).den)
def mnF (s : Spr) (ws : List Rat) : Rat := (s.map fun p => p.2 * ws.getD p.1.toNat 0).sum
theorem valP_mul (a b : Rat) : valP (a.num * b.num, (a.den : Int) * b.den) = a * b := by
  unfold valP
  show ((a.num * b.num : Int) : Rat) / (((a.den : Int) * b.den : Int) : Rat) = _
  rw [Rat.intCast_mul, Rat.intCast_mul]
  have h := num_is a
  have h2 := num_is b
  have hd : ((a.den : Int) : Rat) ≠ 0 := fun z => den_ne a (Rat.intCast_inj.mp z)
  have hd2 : ((b.den : Int) : Rat) ≠ 0 := fun z => den_ne b (Rat.intCast_inj.mp z)
  generalize (a.num : Rat) = A at *
  generalize ((a.den : Int) : Rat) = B at *
  generalize (b.num : Rat) = C at *
  generalize ((b.den : Int) : Rat) = D at *
  rw [h, h2]; grind
structure MnA where
  s : Spr
  ws : List Rat
structure MnP (a : MnA) : Prop where
  ix : ∀ p ∈ a.s, 0 ≤ p.1 ∧ p.1 < (a.ws.length : Int)
  ex : ∃ N : Int, Bt 8000 N ∧ 0 < N ∧ ∀ p ∈ a.s, (p.2.den : Int) * (a.ws.getD p.1.toNat 0).den ∣ N
  q : ∀ p ∈ a.s, Qb 12000 p.2
  qw : ∀ c ∈ a.ws, Qb 12000 c
  len : a.s.length ≤ 1000
theorem sc_mean_of : FnScope ["turns", "worths", "top", "low", "weather", "chance"] ["turns", "worths"] (defScope s_mean_of) := ⟨rfl, rfl, rfl, by decide +kernel, rfl, by decide +kernel, by decide +kernel⟩
def sp_mean_of (K : PySem.W.Frag) : Sp := SpD K (fun a : MnA => [.dat (encS a.s), .dat (.list (a.ws.map encQ))]) MnP (fun a => encQ (mnF a.s a.ws))
theorem ok_mean_of {f C : Addr} {fd : FuncData} (F : Fun K "mean_of" "mean_of" s_mean_of f fd) (C_summed : Callee P w K mg base CX0 1 "summed" ["pairs"] (sp_summed K)) (C_times_pair : Callee P w K mg base CX0 1 "times_pair" ["first", "second"] (sp_times_pair K)) (C_fraction : Callee P w K mg base (L2.CX P w) 1 "fraction" ["top", "low"] (sp_fractionP K C)) : FnOk P w K mg base CX0 2 f fd ["turns", "worths"] (sp_mean_of K) := by
  have sc := sc_mean_of
  refine fn_D F sc (fun _ => rfl) fun cdv A outer s0 H E hr => ?_
  refine ⟨_, (pss_cons (ps_asg (pe_c C_summed (hr.mono (by decide)) pass0 (pa_cons (pe_lc (g := (gTup K 2 (gCons (gName 4) (gCons (gName 5) gNil)))) (own := [("weather", 4), ("chance", 5)]) rfl sc.nd (pi_list (pv 0)) (blkOk_by (own := [("weather", 4), ("chance", 5)]) (N := ["turns", "worths", "top", "low", "weather", "chance"]) (sc := defScope s_mean_of) (by decide +kernel)) (fun _ _ _ _ _ => (pg_tup rfl (pgs_cons (pg_name (i := 4) sc.nd rfl (Or.inl rfl)) (pgs_cons (pg_name (i := 5) sc.nd rfl (Or.inl rfl)) pgs_nil)))) (fun _ _ _ _ _ => pts_nil) (fun _ _ _ _ _ => (pe_c C_times_pair (hr.mono (by decide)) pass0 (pa_cons (pv 5) (pa_cons (pe_ix (r := rIxL K) ix_list (pv 1) (pv 4) (fun _ _ => rfl)) pa_nil))))) pa_nil)) (pg_tup rfl (pgs_cons (pg_name (i := 2) sc.nd rfl (by first | exact Or.inl rfl | exact Or.inr rfl)) (pgs_cons (pg_name (i := 3) sc.nd rfl (by first | exact Or.inl rfl | exact Or.inr rfl)) pgs_nil))))
      (pss_one (ps_ret (pe_c C_fraction (hr.mono (by decide)) passL (pa_cons (pv 2) (pa_cons (pv 3) pa_nil)))))), fun a ha => ?_⟩
  obtain ⟨s, ws⟩ := a
  have hix : ∀ p ∈ s, 0 ≤ p.1 ∧ p.1 < (ws.length : Int) := ha.ix
  have hq : ∀ p ∈ s, Qb 12000 p.2 := ha.q
  have hw : ∀ c ∈ ws, Qb 12000 c := ha.qw
  have hlen : s.length ≤ 1000 := ha.len
  obtain ⟨N, hN, hN0, hd⟩ : ∃ N : Int, Bt 8000 N ∧ 0 < N ∧ ∀ p ∈ s, (p.2.den : Int) * (ws.getD p.1.toNat 0).den ∣ N := ha.ex
  have hmem : ∀ p ∈ s, ws.getD p.1.toNat 0 ∈ ws ∧ ws[p.1.toNat]? = some (ws.getD p.1.toNat 0) := fun p hp => by
    have h := hix p hp
    rw [List.getD_eq_getElem?_getD, List.getElem?_eq_getElem (show p.1.toNat < ws.length by omega)]
    exact ⟨List.getElem_mem _, rfl⟩
  have hS : SuP N (mnP s ws) := ⟨hN0, fun p hp => by
    obtain ⟨r, hr, rfl⟩ := List.mem_map.mp hp
    exact ⟨Int.mul_pos (by have := r.2.den_pos; omega) (by have := (ws.getD r.1.toNat 0).den_pos; omega), hd r hr⟩⟩
  have hSm : SmA (mnP s ws) := ⟨⟨N, hN, hS⟩, fun p hp => by
    obtain ⟨r, hr, rfl⟩ := List.mem_map.mp hp
    exact ((hq r hr).num.mul (hw _ (hmem r hr).1).num).mono (by decide), by unfold mnP; rw [List.length_map]; exact hlen⟩
  obtain ⟨u1, u2, u3⟩ := sumd_ok hS
  have hb : Bt 8000 (sumdF (mnP s ws)).2 := bt_leq hN (by omega) (Int.le_of_dvd hN0 u2)
  have ev : Rat.divInt (sumdF (mnP s ws)).1 (sumdF (mnP s ws)).2 = mnF s ws := by
    rw [Rat.divInt_eq_div]
    show valP (sumdF (mnP s ws)) = _
    rw [u3]
    unfold mnP mnF
    rw [List.map_map]
    congr 1
    exact List.map_congr_left fun p _ => valP_mul _ _
  show Run K E _ [.dat (encS s), .dat (.list (ws.map encQ)), .un, .un, .un, .un] (.rt (encQ (mnF s ws)))
  refine run_seq (run_asg (ts := [2, 3]) (ed_call (x := mnP s ws) (ea_d (en_lc (zs := (mnP s ws).map enc2) (ei_list (ed_var 0 rfl)) (ts := [4, 5]) (by decide) (by
    unfold mnP
    rw [List.map_map]
    exact lc_map encI (fun p : Int × Rat => enc2 (p.2.num * (ws.getD p.1.toNat 0).num, (p.2.den : Int) * (ws.getD p.1.toNat 0).den)) fun p hp => ⟨_, eg_tup (egs_cons (eg_name (by decide)) (egs_cons (eg_name (by decide)) egs_nil)) rfl, et_yes, ed_call (x := ((p.2.num, (p.2.den : Int)), ((ws.getD p.1.toNat 0).num, ((ws.getD p.1.toNat 0).den : Int)))) (ea_d (ed_var 5 rfl) (ea_d (ed_ixl (ed_var 1 rfl).l (ed_var 4 rfl) (by
      have h := hix p hp
      have hw2 := (hmem p hp).2
      unfold atI ixN
      rw [if_pos (by omega), List.length_map, if_pos (by omega)]
      show (ws.map encQ)[p.1.toNat]? = _
      rw [List.getElem?_map, hw2]; rfl)) ea_nil)) rfl ⟨⟨(hq p hp).num.mono (by decide), (hq p hp).den.mono (by decide)⟩, (hw _ (hmem p hp).1).num.mono (by decide), (hw _ (hmem p hp).1).den.mono (by decide)⟩⟩) (by rw [List.length_map]; omega)).d ea_nil) rfl hSm) (eg_tup (egs_cons (eg_name (by decide)) (egs_cons (eg_name (by decide)) egs_nil)) rfl)) ?_
  exact run_ret ((ed_callX (x := ((sumdF (mnP s ws)).1, (sumdF (mnP s ws)).2)) (ea_d (ed_var 2 rfl) (ea_d (ed_var 3 rfl) ea_nil)) rfl (frP_low u1 hb) rfl).is (congrArg encQ ev))
/-! ### the tail -/
def tlF (P : List (Int × Int)) (q : Rat) (size a : Int) : Nat → Int × Int
  | 0 => (0, 1)
  | i + 1 => ((if 0 < (tlF P q size a i).1 then (tlF P q size a i).1 * q.num else (tlF P q size a i).1) + lkZ P (size - (a + (i : Int))) * (if 0 < (tlF P q size a i).1 then (tlF P q size a i).2 * (q.den : Int) else (tlF P q size a i).2), if 0 < (tlF P q size a i).1 then (tlF P q size a i).2 * (q.den : Int) else (tlF P q size a i).2)
theorem tlF_bt {P : List (Int × Int)} {q : Rat} {size a : Int} (hq : Qb 40 q) (hP : ∀ v, Bt 4000 (lkZ P v)) : ∀ i, Bt (41 * i + 4001) (tlF P q size a i).1 ∧ Bt (40 * i + 1) (tlF P q size a i).2
  | 0 => ⟨Bt.zero _, Bt.one (by omega)⟩
  | i + 1 => by
    obtain ⟨h1, h2⟩ := tlF_bt hq hP i
    unfold tlF
    have b2 : Bt (40 * (i + 1) + 1) (if 0 < (tlF P q size a i).1 then (tlF P q size a i).2 * (q.den : Int) else (tlF P q size a i).2) := by
      split
      · exact (h2.mul hq.den).mono (by omega)
      · exact h2.mono (by omega)
    have b1 : Bt (41 * i + 4041) (if 0 < (tlF P q size a i).1 then (tlF P q size a i).1 * q.num else (tlF P q size a i).1) := by
      split
      · exact (h1.mul hq.num).mono (by omega)
      · exact h1.mono (by omega)
    exact ⟨(Bt.add b1 (((hP _).mul b2).mono (by omega))).mono (by omega), b2⟩
structure TaA where
  low : Int
  P : List (Int × Int)
  q : Rat
  size : Int
  r : Int
def lastP (P : List (Int × Int)) : Int × Int := P.getLastD (0, 0)
def taA (a : TaA) : Int := if a.size - (lastP a.P).1 < a.r then a.size - (lastP a.P).1 else a.r
def taN (a : TaA) : Nat := (a.r + 1 - taA a).toNat
structure TaP (a : TaA) : Prop where
  ne : a.P ≠ []
  nd : (a.P.map (·.1)).Nodup
  q : Qb 40 a.q
  t : ∀ v, Bt 4000 (lkZ a.P v)
  z : -100000 ≤ a.size ∧ a.size ≤ 100000
  r : -100000 ≤ a.r ∧ a.r ≤ 100000
  g : -100000 ≤ (lastP a.P).1 ∧ (lastP a.P).1 ≤ 100000
  n : taN a ≤ 1000
theorem sc_tail_parts : FnScope ["change", "q", "size", "first", "last", "tops", "greatest", "found", "top", "low", "reserve"] ["change", "q", "size", "first", "last"] (defScope s_tail_parts) := ⟨rfl, rfl, rfl, by decide +kernel, rfl, by decide +kernel, by decide +kernel⟩
def sp_tail_parts (K : PySem.W.Frag) (C : Addr) : Sp := SpN K (fun a : TaA => [.dat (objD C (chD a.low a.P)), .dat (encQ a.q), .dat (.int a.size), .dat (.int a.r), .dat (.int a.r)]) TaP (fun a => [enc2 (tlF a.P a.q a.size (taA a) (taN a))])
theorem ok_tail_parts {f C : Addr} {fd : FuncData} (F : Fun K "tail_parts" "tail_parts" s_tail_parts f fd) (T0 : ChC K C) (m_dict : mg "dict" = none) (m_min : mg "min" = none) (m_range : mg "range" = none) : FnOk P w K mg base CX0 1 f fd ["change", "q", "size", "first", "last"] (sp_tail_parts K C) := by
  have sc := sc_tail_parts
  refine fn_N F sc (fun _ => rfl) fun cdv A outer s0 H E hr => ?_
  refine ⟨_, (pss_cons (ps_set (i := 5) sc.nd rfl (by first | exact Or.inl rfl | exact Or.inr rfl) (pe_callTy (T := "dict") (r := rDictP K) (call_dictP rfl) (by rfl) m_dict (by decide +kernel) (pa_cons (pe_fld (pv 0) rfl) pa_nil)))
      (pss_cons (ps_set (i := 6) sc.nd rfl (by first | exact Or.inl rfl | exact Or.inr rfl) (pe_ix (r := rIxT K) ix_tup (pe_ix (r := rIxL K) ix_list (pe_fld (pv 0) rfl) (pe_un un_neg pe_int) (fun _ _ => rfl)) pe_int (fun _ _ => rfl)))
      (pss_cons (ps_set (i := 7) sc.nd rfl (by first | exact Or.inl rfl | exact Or.inr rfl) (pe_lst pa_nil))
      (pss_cons (ps_set (i := 8) sc.nd rfl (by first | exact Or.inl rfl | exact Or.inr rfl) pe_int)
      (pss_cons (ps_set (i := 9) sc.nd rfl (by first | exact Or.inl rfl | exact Or.inr rfl) pe_int)
      (pss_cons (ps_for PassesOwn.never rfl (pi_range2 (by rfl) m_range (pa_cons (pe_callB (id := "min") (call_min2 rfl) (by rfl) m_min (by decide +kernel) (pa_cons (pv 3) (pa_cons (pe_op op_sub (pv 2) (pv 6)) pa_nil))) (pa_cons (pe_op op_add (pv 4) pe_int) pa_nil))) (pg_name (i := 10) sc.nd rfl (by first | exact Or.inl rfl | exact Or.inr rfl)) (pss_cons (ps_if (pt_cmpR op_gt (pv 8) pe_int (nomark _)) (pss_cons (ps_set (i := 8) sc.nd rfl (by first | exact Or.inl rfl | exact Or.inr rfl) (pe_op op_mulX (pv 8) (pe_ix (r := rIxT K) ix_tup (pv 1) pe_int (fun _ _ => rfl))))
      (pss_one (ps_set (i := 9) sc.nd rfl (by first | exact Or.inl rfl | exact Or.inr rfl) (pe_op op_mulX (pv 9) (pe_ix (r := rIxT K) ix_tup (pv 1) pe_int (fun _ _ => rfl)))))) pss_nil)
      (pss_cons (ps_aug (i := 8) sc.nd rfl (by first | exact Or.inl rfl | exact Or.inr rfl) (pe_op op_mulX (pe_dget2 (hu_of hr) (pv 5) (pe_op op_sub (pv 2) (pv 10)) pe_int ⟨rfl, rfl, rfl, rfl⟩) (pv 9)) ip_add)
      (pss_one (ps_if (pt_cmpR op_ge (pv 10) (pv 3) (nomark _)) (pss_one (ps_expr (pe_bm PySem.F.plainAttrs_list PySem.F.slot_list_append PySem.F.type_list_append mt_append (pv 7) (pa_cons (pe_tup (pa_cons (pv 8) (pa_cons (pv 9) pa_nil))) pa_nil)))) pss_nil)))))
      (pss_one (ps_ret (pv 7))))))))), fun a ha => ?_⟩
  obtain ⟨low, Q, q, size, r⟩ := a
  have hne : Q ≠ [] := ha.ne
  have hnd : (Q.map (·.1)).Nodup := ha.nd
  have hq : Qb 40 q := ha.q
  have ht : ∀ v, Bt 4000 (lkZ Q v) := ha.t
  have hz : -100000 ≤ size ∧ size ≤ 100000 := ha.z
  have hr2 : -100000 ≤ r ∧ r ≤ 100000 := ha.r
  have hg : -100000 ≤ (lastP Q).1 ∧ (lastP Q).1 ≤ 100000 := ha.g
  have hn : taN ⟨low, Q, q, size, r⟩ ≤ 1000 := ha.n
  have eA : taA ⟨low, Q, q, size, r⟩ = if size - (lastP Q).1 < r then size - (lastP Q).1 else r := rfl
  have eN : taN ⟨low, Q, q, size, r⟩ = (r + 1 - taA ⟨low, Q, q, size, r⟩).toNat := rfl
  show Run K E _ _ (.rn [enc2 (tlF Q q size (taA ⟨low, Q, q, size, r⟩) (taN ⟨low, Q, q, size, r⟩))])
  generalize taA ⟨low, Q, q, size, r⟩ = aa at *
  generalize taN ⟨low, Q, q, size, r⟩ = n at *
  have ha2 : aa ≤ r ∧ aa ≤ size - (lastP Q).1 := by rw [eA]; split <;> omega
  have hn1 : (n : Int) = r + 1 - aa := by omega
  have fP : ∀ ev : EnvD, ev[0]? = some (.dat (objD C (chD low Q))) → EvD K (tFld K (tVar 0) "parts") ev (.list (Q.map encP)) := fun ev e => ed_fld (ed_var 0 e) T0.cl T0.n2 rfl
  have eM : mergeD [] (dkP Q) = dkP Q := mergeD_id _ _ (dkP_keys hnd)
  have hlast : atI (Q.map encP) (-1) = some (encP (lastP Q)) := by
    have hl : 0 < Q.length := List.length_pos_iff.mpr hne
    unfold atI ixN lastP
    rw [List.length_map, if_neg (by decide), if_pos (by omega)]
    show (Q.map encP)[(-1 + (Q.length : Int)).toNat]? = _
    rw [show (-1 + (Q.length : Int)).toNat = Q.length - 1 by omega, List.getElem?_map, ← List.getLast?_eq_getElem?, List.getLastD_eq_getLast?]
    cases e : Q.getLast? with
    | none => rw [List.getLast?_eq_none_iff] at e; exact absurd e hne
    | some p => rfl
  refine run_seq (run_is (run_setM (em_dictP (el_is (fP _ rfl).l (dkP_prd Q).symm))) (by rw [eM])) ?_
  show Run K E _ [.dat (objD C (chD low Q)), .dat (encQ q), .dat (.int size), .dat (.int r), .dat (.int r), .md (dkP Q), .un, .un, .un, .un, .un] _
  refine run_seq (run_set (ed_ixT (ds := [.int (lastP Q).1, .int (lastP Q).2]) (ed_ixl (fP _ rfl).l (ed_neg (ed_int 1)) hlast) (ed_int 0) rfl)) ?_
  refine run_seq (run_setN (en_lst (ds := []) ea_nil)) ?_
  refine run_seq (run_set (ed_int 0)) ?_
  refine run_seq (run_set (ed_int 1)) ?_
  refine run_seq (run_for (ts := [10]) (ds := rngD aa 1 n) (fun i => [.dat (objD C (chD low Q)), .dat (encQ q), .dat (.int size), .dat (.int r), .dat (.int r), .md (dkP Q), .dat (.int (lastP Q).1), .ml (if i < n then [] else [enc2 (tlF Q q size aa n)]), .dat (.int (tlF Q q size aa i).1), .dat (.int (tlF Q q size aa i).2), .un]) (ei_is (ei_rng2 (i := aa) (j := r + 1) ((ed_min2 (ed_var 3 rfl) (ed_I0 (g := fun i j => i - j) (ed_var 2 rfl) (ed_var 6 rfl))).is (congrArg PyData.int eA.symm)) (ed_I0 (ed_var 4 rfl) (ed_int 1)) (by omega)) (by rw [eN])) (by
    show Less _ [_, _, _, _, _, _, _, .ml (if 0 < n then [] else _), _, _, _]
    rw [if_pos (by omega)]
    exact (.eq (.eq (.eq (.eq (.eq (.eq (.eq (.eq (.eq (.eq (.un .nil)))))))))))) (fun i d hi hd => ⟨_, eg_name (by decide), ?_⟩)) ?_
  · obtain ⟨hi2, rfl⟩ := rngD_get hd
    rw [show aa + (i : Int) * 1 = aa + (i : Int) by omega]
    obtain ⟨t1, t2⟩ := tlF_bt (size := size) (a := aa) hq ht i
    obtain ⟨_, t4⟩ := tlF_bt (size := size) (a := aa) hq ht (i + 1)
    have e1 : (tlF Q q size aa (i + 1)).1 = (if 0 < (tlF Q q size aa i).1 then (tlF Q q size aa i).1 * q.num else (tlF Q q size aa i).1) + lkZ Q (size - (aa + (i : Int))) * (tlF Q q size aa (i + 1)).2 := rfl
    have e2 : (tlF Q q size aa (i + 1)).2 = if 0 < (tlF Q q size aa i).1 then (tlF Q q size aa i).2 * (q.den : Int) else (tlF Q q size aa i).2 := rfl
    have e3 : i + 1 = n → enc2 (tlF Q q size aa n) = .tuple [.int (tlF Q q size aa (i + 1)).1, .int (tlF Q q size aa (i + 1)).2] := fun e => by rw [e]
    rw [if_pos hi2]
    generalize enc2 (tlF Q q size aa n) = z at *
    generalize tlF Q q size aa (i + 1) = s1 at *
    generalize tlF Q q size aa i = s at *
    have bw := (ht (size - (aa + (i : Int)))).mulx t4 (by omega)
    have tail : Run K E (tSeq (tAug 8 (tOp (rI CMulX fun i j => .int (i * j)) (tDGet2 (tVar 5) (tOp (rI0 fun i j => .int (i - j)) (tVar 2) (tVar 10)) (tC (.int 0))) (tVar 9)) (ipI fun i j => i + j)) (tIfS (tTest (tOp (rI0 fun i j => .bl (decide (j ≤ i))) (tVar 10) (tVar 3))) (tDrop (tBM K "list" rAppend (tVar 7) (tCons (tTup (tCons (tVar 8) (tCons (tVar 9) tNil))) tNil))) tNext)) [.dat (objD C (chD low Q)), .dat (encQ q), .dat (.int size), .dat (.int r), .dat (.int r), .md (dkP Q), .dat (.int (lastP Q).1), .ml [], .dat (.int (if 0 < s.1 then s.1 * q.num else s.1)), .dat (.int s1.2), .dat (.int (aa + (i : Int)))] (.nx [.dat (objD C (chD low Q)), .dat (encQ q), .dat (.int size), .dat (.int r), .dat (.int r), .md (dkP Q), .dat (.int (lastP Q).1), .ml (if i + 1 < n then [] else [z]), .dat (.int s1.1), .dat (.int s1.2), .dat (.int (aa + (i : Int)))]) := by
      refine run_seq (run_is (run_augI (g := fun i j => i + j) rfl (ed_I (g := fun i j => i * j) ((ed_dget2 (i := 5) rfl (ed_I0 (g := fun i j => i - j) (ed_var 2 rfl) (ed_var 10 rfl)) (ed_int 0)).is (dkP_lk _ Q)) (ed_var 9 rfl) bw)) (by rw [← e1])) ?_
      by_cases c : i + 1 < n
      · rw [if_pos c]
        exact run_ifF ((et_test (ed_B0 (g := fun i j => decide (j ≤ i)) (ed_var 10 rfl) (ed_var 3 rfl))).is (decide_eq_false (by omega))) run_next
      · rw [if_neg c, e3 (by omega)]
        exact run_ifT ((et_test (ed_B0 (g := fun i j => decide (j ≤ i)) (ed_var 10 rfl) (ed_var 3 rfl))).is (decide_eq_true (by omega))) (run_append (i := 7) (ds := []) rfl (ed_tup (ds := [.int s1.1, .int s1.2]) (ea_d (ed_var 8 rfl) (ea_d (ed_var 9 rfl) ea_nil))) (by decide))
    by_cases c : 0 < s.1
    · rw [if_pos c] at e2 tail
      rw [e2] at tail ⊢
      exact .n (run_seq (run_ifT ((et_test (ed_B0 (ed_var 8 rfl) (ed_int 0))).is (decide_eq_true c)) (run_seq (run_set (ed_I (ed_var 8 rfl) (ed_ixT (ds := [.int q.num, .int (q.den : Int)]) (ed_var 1 rfl) (ed_int 0) rfl) (t1.mulx hq.num (by omega)))) (run_set (ed_I (ed_var 9 rfl) (ed_ixT (ds := [.int q.num, .int (q.den : Int)]) (ed_var 1 rfl) (ed_int 1) rfl) (t2.mulx hq.den (by omega)))))) tail) (.eq (.eq (.eq (.eq (.eq (.eq (.eq (.eq (.eq (.eq (.un .nil)))))))))))
    · rw [if_neg c] at e2 tail
      rw [e2] at tail ⊢
      exact .n (run_seq (run_ifF ((et_test (ed_B0 (ed_var 8 rfl) (ed_int 0))).is (decide_eq_false c)) run_next) tail) (.eq (.eq (.eq (.eq (.eq (.eq (.eq (.eq (.eq (.eq (.un .nil)))))))))))
  · rw [rngD_len, if_neg (by omega)]
    exact run_retM 7 rfl

end
end KP

/-! {k: v for x in xs if ..}. -/
namespace DL
open PySem L2
variable {K : PySem.W.Frag} {E : XK} {env env' e1 e2 : EnvD} {G H G' H' G1 H1 : Hp}
theorem putD_len (acc : List (Key × D)) (k : Key) (d : D) : (putD acc k d).length ≤ acc.length + 1 := by
  unfold putD
  split
  · rw [List.length_map]; omega
  · rw [List.length_append]; exact Nat.le_refl _
/-- the turns of a dict's comprehension: from what is there to what comes out -/
inductive Dc (K : PySem.W.Frag) (g : TG) (ts : List Nat) (tt : TT) (tk tv : TE) (env : EnvD) : List (Key × D) → List D → List (Key × D) → Prop
  | nil {acc : List (Key × D)} : Dc K g ts tt tk tv env acc [] acc
  | keep {acc res : List (Key × D)} {d z : D} {ds : List D} {em : EnvD} {k : Int} (hg : EvG K g ts env d em) (ht : EvT K tt em true) (hk : EvD K tk em (.int k)) (hv : EvD K tv em z) (r : Dc K g ts tt tk tv env (putD acc (.inl k) z) ds res) : Dc K g ts tt tk tv env acc (d :: ds) res
  | skip {acc res : List (Key × D)} {d : D} {ds : List D} {em : EnvD} (hg : EvG K g ts env d em) (ht : EvT K tt em false) (r : Dc K g ts tt tk tv env acc ds res) : Dc K g ts tt tk tv env acc (d :: ds) res
theorem em_dc {wi : TI} {g : TG} {tt : TT} {tk tv : TE} {vs ts : List Nat} {ds : List D} {res : List (Key × D)} (hi : EvI K wi env ds) (hts : ∀ i ∈ ts, i ∈ vs) (hl : Dc K g ts tt tk tv (wipeD env vs) [] ds res) (hlen : ds.length ≤ 10000000) : EvM K (tDc wi g tt tk tv vs) env (.m (res.map fun p => (p.1, T.d p.2))) := fun G0 H0 G H σ ok Q q =>
  hi G0 H0 G H σ ok _ fun J G1 H1 a wk Dl hD => by
    have fr1 : Fw G H G1 (upd H1 Dl (.dK [])) := a.trans (Fw.hid a.gh hD)
    have hDH : H Dl = none := a.hh.free hD
    refine ⟨fun i m H2 => i + m = ds.length ∧ ∃ (G2 : Hp) (kv : List (Key × V)) (dk : List (Key × D)), Same G1 G2 ∧ Fw G H G2 H2 ∧ G2 Dl = none ∧ H2 Dl = some (.dK kv) ∧ Kds K G2 kv dk ∧ dk.length ≤ i ∧ Dc K g ts tt tk tv (wipeD env vs) dk (ds.drop i) res,
      ⟨ds.length, Nat.zero_add _, G1, [], [], Same.refl _, fr1, a.gh.free hD, upd_same, .nil, Nat.le_refl _, hl⟩, ?_⟩
    rintro i m H2 ⟨him, G2, kv, dk, g12, f2, gD, hDl, hacc, hji, hlc⟩
    by_cases hlt : i < ds.length
    · have hd := List.getElem?_eq_getElem hlt
      obtain ⟨hgo, hy⟩ := wk.go i _ G2 H2 hd g12 f2.gh
      refine .inr ⟨hgo, fun H' => ∃ (G3 : Hp) (kv' : List (Key × V)) (dk' : List (Key × D)), Same G1 G3 ∧ Fw G H G3 H' ∧ G3 Dl = none ∧ H' Dl = some (.dK kv') ∧ Kds K G3 kv' dk' ∧ dk'.length ≤ i + 1 ∧ Dc K g ts tt tk tv (wipeD env vs) dk' (ds.drop (i + 1)) res,
        fun H' ⟨G3, kv', dk', h1, h2, h3, h4, h5, h6, h7⟩ => ⟨m - 1, by omega, by omega, G3, kv', dk', h1, h2, h3, h4, h5, h6, h7⟩, fun x H3 hx => ?_⟩
      obtain ⟨G3, a3, hx3⟩ := hy x H3 hx
      have ok3 : Ok K G0 H0 G3 H3 (L2.wipe σ vs) (wipeD env vs) := ((ok.go f2).go a3).wipe vs
      have e1 : ds.drop i = ds[i] :: ds.drop (i + 1) := List.drop_eq_getElem_cons hlt
      rw [e1] at hlc
      have hDne : H2 Dl ≠ none := by rw [hDl]; simp
      generalize ds.drop (i + 1) = r1 at hlc ⊢
      cases hlc with
      | keep hg ht hk hv hl' =>
        refine hg G0 H0 G3 H3 _ x _ ok3 hx3 fun σ4 s4 ok4 => ⟨wipe_sets s4 hts, ht G0 H0 G3 H3 σ4 ok4 _ fun G5 H5 a5 => iteT (hk G0 H0 G5 H5 σ4 (ok4.go a5) _ fun y G6 H6 a6 hy6 => hv G0 H0 G6 H6 σ4 ((ok4.go a5).go a6) _ fun z G7 H7 a7 hz7 => ?_)⟩
        have a37 : Fw G2 H2 G7 H7 := ((a3.trans a5).trans a6).trans a7
        have g7 : G7 Dl = none := a37.fr Dl hDne gD
        refine ⟨kv, Sum.inl _, hy6.int_inv, a37.hh _ _ hDl, ?_, G7, _, _, g12.trans a37.gg, ?_, g7, upd_same, (hacc.mono a37.gg).put (k := .inl _) hz7, ?_, hl'⟩
        · rw [hacc.len, sizeLine_eq]; omega
        · exact ⟨(f2.trans a37).gg, same_upd2 a37.gh g7, fun b o e => by rw [upd_ne (ne_of_none e hDH)]; exact (f2.trans a37).hh _ _ e, (f2.trans a37).fr⟩
        · exact Nat.le_trans (putD_len _ _ _) (by omega)
      | skip hg ht hl' =>
        refine hg G0 H0 G3 H3 _ x _ ok3 hx3 fun σ4 s4 ok4 => ⟨wipe_sets s4 hts, ht G0 H0 G3 H3 σ4 ok4 _ fun G5 H5 a5 => iteF ?_⟩
        have a36 : Fw G2 H2 G5 H5 := a3.trans a5
        exact ⟨G5, kv, dk, g12.trans a36.gg, f2.trans a36, a36.fr Dl hDne gD, a36.hh _ _ hDl, hacc.mono a36.gg, by omega, hl'⟩
    · have e : i = ds.length := by omega
      subst e
      rw [List.drop_length] at hlc
      cases hlc
      exact .inl ⟨wk.stop G2 H2 g12 f2.gh, q _ [Dl] G2 H2 f2 (fun x hx => by rw [List.mem_singleton.mp hx]; exact hDH) (hacc.ofm gD hDl)⟩
end DL
namespace DL
open PySem L2
variable {K : PySem.W.Frag} {env : EnvD}
def rLenDR : List V → Hp → VK → Prop := fun xs H Q => ∃ a kvs, xs = [V.ref a] ∧ Rd H a (.dK kvs) ∧ Q (.int kvs.length) H
theorem call_lenDR {X : Cx} : CallR X (.builtin "len") rLenDR := by
  intro pins s σ H xs us Q I r h
  obtain ⟨a, kvs, rfl, ha, q⟩ := h
  obtain ⟨u, rfl, ru⟩ := vals1 r
  cases ru
  exact d_len I ha fun t s' I' => ⟨.int kvs.length, H, I', ⟨t, rfl⟩, q⟩
theorem ed_lenD {ta : TE} {kvs : List (Key × D)} (h : EvD K ta env (dictD kvs)) : EvD K (tCB rLenDR (tCons ta tNil)) env (.int kvs.length) := fun G0 H0 G H σ ok Q q =>
  h G0 H0 G H σ ok _ fun v G1 H1 a hv => by
    obtain ⟨p, kv, ob, e, h1, h2⟩ := dct_kds hv
    subst e
    refine ⟨p, kv, rfl, .inr ⟨ob, a.gh _ _ h1⟩, ?_⟩
    rw [h2.len]
    exact q _ G1 H1 a (.int _)
end DL

namespace KP
open PySem L2 DL MX
section
variable {P : Program} {w : World} {K : PySem.W.Frag} {mg : Str → Option Value} {base : Heap}
/-! ### the mean's sum -/
def rowD (row : List (Int × Rat)) : List (Key × D) := row.map fun p => (Sum.inl p.1, encQ p.2)
theorem rowD_lk (k : Int) : ∀ row : List (Int × Rat), lkD (rowD row) (.inl k) = (lkA row k).map encQ
  | [] => rfl
  | p :: r => by
    have ih := rowD_lk k r
    unfold lkD rowD lkA at *
    rw [List.map_cons]
    by_cases e : p.1 = k
    · rw [List.find?_cons_of_pos (by simp [e]), List.find?_cons_of_pos (by simpa using e)]; rfl
    · rw [List.find?_cons_of_neg (by simpa using e), List.find?_cons_of_neg (by simpa using e)]; exact ih
structure MtA where
  low : Int
  P : List (Int × Int)
  row : List (Int × Rat)
  r : Nat
  tail : Int × Int
def mtI (row : List (Int × Rat)) (r : Nat) (p : Int × Int) : Option (Int × Int) := (lkA row ((r : Int) + p.1)).map fun w => (p.2 * w.num, (w.den : Int))
def mtP (a : MtA) : List (Int × Int) := [(fallZ a.P (a.r : Int), 1)] ++ a.P.filterMap (mtI a.row a.r) ++ [a.tail]
structure MtOk (a : MtA) : Prop where
  sm : SmA (mtP a)
  fa : FaP a.P
  t : ∀ p ∈ a.P, Bt 4000 p.2
  w : ∀ p ∈ a.row, Qb 12000 p.2
  len : a.P.length ≤ 1000
theorem sc_mean_top : FnScope ["change", "row", "reserve", "tail", "parts", "value", "top", "worth"] ["change", "row", "reserve", "tail"] (defScope s_mean_top) := ⟨rfl, rfl, rfl, by decide +kernel, rfl, by decide +kernel, by decide +kernel⟩
def sp_mean_top (K : PySem.W.Frag) (C : Addr) : Sp := SpD K (fun a : MtA => [.dat (objD C (chD a.low a.P)), .dat (dictD (rowD a.row)), .dat (.int (a.r : Int)), .dat (enc2 a.tail)]) MtOk (fun a => enc2 (sumdF (mtP a)))
theorem ok_mean_top {f C : Addr} {fd : FuncData} (F : Fun K "mean_top" "mean_top" s_mean_top f fd) (T0 : ChC K C) (m_len : mg "len" = none) (C_summed : Callee P w K mg base CX0 1 "summed" ["pairs"] (sp_summed K)) (O_Change_fall : CalleeO P w K mg base CX0 1 C "fall" ["self", "reserve"] (sp_ch_fall K C)) : FnOk P w K mg base CX0 2 f fd ["change", "row", "reserve", "tail"] (sp_mean_top K C) := by
  have sc := sc_mean_top
  refine fn_D F sc (fun _ => rfl) fun cdv A outer s0 H E hr => ?_
  refine ⟨_, (pss_cons (ps_set (i := 4) sc.nd rfl (by first | exact Or.inl rfl | exact Or.inr rfl) (pe_lst (pa_cons (pe_tup (pa_cons (pe_mt (pv 0) O_Change_fall (hr.mono (by decide)) pass0 (pa_cons (pv 2) pa_nil)) (pa_cons pe_int pa_nil))) pa_nil)))
      (pss_cons (ps_if (pt_cmpR op_gt (pe_callB (id := "len") (r := rLenDR) call_lenDR (by rfl) m_len PySem.boot_len (pa_cons (pv 1) pa_nil)) pe_int (nomark _)) (pss_one (ps_for PassesOwn.never rfl (pi_list (pe_fld (pv 0) rfl)) (pg_tup rfl (pgs_cons (pg_name (i := 5) sc.nd rfl (by first | exact Or.inl rfl | exact Or.inr rfl)) (pgs_cons (pg_name (i := 6) sc.nd rfl (by first | exact Or.inl rfl | exact Or.inr rfl)) pgs_nil))) (pss_one (ps_if (pt_cmp (pc_din (hu_of hr) (pe_op op_add (pv 2) (pv 5)) (pv 1)) rfl) (pss_cons (ps_set (i := 7) sc.nd rfl (by first | exact Or.inl rfl | exact Or.inr rfl) (pe_dget (hu_of hr) (pv 1) (pe_op op_add (pv 2) (pv 5)) (fun _ _ => rfl)))
      (pss_one (ps_expr (pe_bm PySem.F.plainAttrs_list PySem.F.slot_list_append PySem.F.type_list_append mt_append (pv 4) (pa_cons (pe_tup (pa_cons (pe_op op_mulX (pv 6) (pe_ix (r := rIxT K) ix_tup (pv 7) pe_int (fun _ _ => rfl))) (pa_cons (pe_ix (r := rIxT K) ix_tup (pv 7) pe_int (fun _ _ => rfl)) pa_nil))) pa_nil))))) pss_nil)))) pss_nil)
      (pss_cons (ps_expr (pe_bm PySem.F.plainAttrs_list PySem.F.slot_list_append PySem.F.type_list_append mt_append (pv 4) (pa_cons (pv 3) pa_nil)))
      (pss_one (ps_ret (pe_c C_summed (hr.mono (by decide)) pass0 (pa_cons (pv 4) pa_nil))))))), fun a ha => ?_⟩
  obtain ⟨low, Q, row, r, tail⟩ := a
  have hsm : SmA (mtP ⟨low, Q, row, r, tail⟩) := ha.sm
  have hfa : FaP Q := ha.fa
  have ht : ∀ p ∈ Q, Bt 4000 p.2 := ha.t
  have hw : ∀ p ∈ row, Qb 12000 p.2 := ha.w
  have hlen : Q.length ≤ 1000 := ha.len
  have eP : mtP ⟨low, Q, row, r, tail⟩ = [(fallZ Q (r : Int), 1)] ++ Q.filterMap (mtI row r) ++ [tail] := rfl
  rw [eP] at hsm
  show Run K E _ [.dat (objD C (chD low Q)), .dat (dictD (rowD row)), .dat (.int (r : Int)), .dat (enc2 tail), .un, .un, .un, .un] (.rt (enc2 (sumdF ([(fallZ Q (r : Int), 1)] ++ Q.filterMap (mtI row r) ++ [tail]))))
  refine run_seq (run_setN (en_lst (ds := [enc2 (fallZ Q (r : Int), 1)]) (ea_d (ed_tup (ds := [.int (fallZ Q (r : Int)), .int 1]) (ea_d (ed_meth (x := (⟨low, Q, r⟩ : CfA)) (ed_var 0 rfl) (by show ("fall" : Str) ∉ (["low", "parts", "falls"] : List Str); decide +kernel) (ea_d (ed_var 2 rfl) ea_nil) rfl hfa) (ea_d (ed_int 1) ea_nil))) ea_nil))) ?_
  refine run_seq (e1 := [.dat (objD C (chD low Q)), .dat (dictD (rowD row)), .dat (.int (r : Int)), .dat (enc2 tail), .ml (([(fallZ Q (r : Int), 1)] ++ Q.filterMap (mtI row r)).map enc2), .un, .un, .un]) ?_ ?_
  · have tl : EvT K (tTest (tOp (rI0 fun i j => .bl (decide (j < i))) (tCB rLenDR (tCons (tVar 1) tNil)) (tC (.int 0)))) [.dat (objD C (chD low Q)), .dat (dictD (rowD row)), .dat (.int (r : Int)), .dat (enc2 tail), .ml [enc2 (fallZ Q (r : Int), 1)], .un, .un, .un] (decide (0 < (row.length : Int))) := (et_test (ed_B0 (g := fun i j => decide (j < i)) (ed_lenD (ed_var 1 rfl)) (ed_int 0))).is (by unfold rowD; rw [List.length_map])
    by_cases c : 0 < (row.length : Int)
    · refine run_ifT (tl.is (decide_eq_true c)) ?_
      have eQ : Q.filterMap (mtI row r) = (Q.take (Q.map encP).length).filterMap (mtI row r) := by rw [List.length_map, List.take_length]
      rw [eQ]
      refine run_for (ts := [5, 6]) (ds := Q.map encP) (fun i => [.dat (objD C (chD low Q)), .dat (dictD (rowD row)), .dat (.int (r : Int)), .dat (enc2 tail), .ml (([(fallZ Q (r : Int), 1)] ++ (Q.take i).filterMap (mtI row r)).map enc2), .un, .un, .un]) (ei_list (ed_fld (ed_var 0 rfl) T0.cl T0.n2 rfl)) (.eq (.eq (.eq (.eq (.eq (.un (.un (.un .nil)))))))) (fun i d hi hd => ?_)
      rw [List.length_map] at hi
      obtain rfl : d = encP Q[i] := by rw [List.getElem?_map, List.getElem?_eq_getElem hi] at hd; exact (Option.some.inj hd).symm
      have hm := ht _ (List.getElem_mem hi)
      have es : (Q.take (i + 1)).filterMap (mtI row r) = (Q.take i).filterMap (mtI row r) ++ (mtI row r Q[i]).toList := by
        rw [List.take_succ_eq_append_getElem hi, List.filterMap_append]
        rw [List.filterMap_cons, List.filterMap_nil]
        cases mtI row r Q[i] <;> rfl
      have hl : ((Q.take i).filterMap (mtI row r)).length ≤ 1000 := Nat.le_trans (List.length_filterMap_le _ _) (by rw [List.length_take]; omega)
      rw [es]
      generalize Q[i] = p at *
      generalize (Q.take i).filterMap (mtI row r) = acc at *
      refine ⟨_, eg_tup (egs_cons (eg_name (by decide)) (egs_cons (eg_name (by decide)) egs_nil)) rfl, ?_⟩
      have tin : EvT K (tB (tDIn (tOp (rI0 fun i j => .int (i + j)) (tVar 2) (tVar 5)) (tVar 1))) [.dat (objD C (chD low Q)), .dat (dictD (rowD row)), .dat (.int (r : Int)), .dat (enc2 tail), .ml (([(fallZ Q (r : Int), 1)] ++ acc).map enc2), .dat (.int p.1), .dat (.int p.2), .un] ((lkA row ((r : Int) + p.1)).map encQ).isSome := (et_B (ed_pin (ed_I0 (g := fun i j => i + j) (ed_var 2 rfl) (ed_var 5 rfl)) (ed_var 1 rfl))).is (by rw [rowD_lk])
      cases e : lkA row ((r : Int) + p.1) with
      | none =>
        rw [e] at tin
        have e2 : mtI row r p = none := by unfold mtI; rw [e]; rfl
        rw [e2]
        show Turn1 K E _ _ [_, _, _, _, .ml (([(fallZ Q (r : Int), 1)] ++ (acc ++ [])).map enc2), _, _, _]
        rw [List.append_nil]
        exact .n (run_ifF tin run_next) (.eq (.eq (.eq (.eq (.eq (.un (.un (.un .nil))))))))
      | some x =>
        rw [e] at tin
        have e2 : mtI row r p = some (p.2 * x.num, (x.den : Int)) := by unfold mtI; rw [e]; rfl
        have hx := hw _ (lk_mem e)
        have hx : Qb 12000 x := hx
        rw [e2]
        show Turn1 K E _ _ [_, _, _, _, .ml (([(fallZ Q (r : Int), 1)] ++ (acc ++ [(p.2 * x.num, (x.den : Int))])).map enc2), _, _, _]
        rw [← List.append_assoc, List.map_append (l₁ := [(fallZ Q (r : Int), 1)] ++ acc)]
        have step : Run K E _ [.dat (objD C (chD low Q)), .dat (dictD (rowD row)), .dat (.int (r : Int)), .dat (enc2 tail), .ml (([(fallZ Q (r : Int), 1)] ++ acc).map enc2), .dat (.int p.1), .dat (.int p.2), .un] (.nx [.dat (objD C (chD low Q)), .dat (dictD (rowD row)), .dat (.int (r : Int)), .dat (enc2 tail), .ml (([(fallZ Q (r : Int), 1)] ++ acc).map enc2 ++ [.tuple [.int (p.2 * x.num), .int (x.den : Int)]]), .dat (.int p.1), .dat (.int p.2), .dat (encQ x)]) := run_ifT (u := tNext) tin (run_seq (run_set (i := 7) (d := encQ x) (ed_pget (ed_var 1 rfl) (ed_I0 (g := fun i j => i + j) (ed_var 2 rfl) (ed_var 5 rfl)) (by rw [rowD_lk, e]; rfl))) (run_append (i := 4) (ds := ([(fallZ Q (r : Int), 1)] ++ acc).map enc2) rfl (ed_tup (ds := [.int (p.2 * x.num), .int (x.den : Int)]) (ea_d (ed_I (ed_var 6 rfl) (ed_ixT (ds := [.int x.num, .int (x.den : Int)]) (ed_var 7 rfl) (ed_int 0) rfl) (hm.mulx hx.num (by decide))) (ea_d (ed_ixT (ds := [.int x.num, .int (x.den : Int)]) (ed_var 7 rfl) (ed_int 1) rfl) ea_nil))) (by rw [List.length_map, List.length_append]; show 1 + acc.length < 10000000; omega)))
        exact .n step (.eq (.eq (.eq (.eq (.eq (.un (.un (.un .nil))))))))
    · have e0 : row = [] := List.length_eq_zero_iff.mp (by omega)
      have e : Q.filterMap (mtI row r) = [] := by
        rw [List.filterMap_eq_nil_iff]
        intro p _
        rw [e0]; rfl
      rw [e]
      exact run_ifF (tl.is (decide_eq_false c)) run_next
  · refine run_seq (run_append (i := 4) (ds := ([(fallZ Q (r : Int), 1)] ++ Q.filterMap (mtI row r)).map enc2) rfl (ed_var 3 rfl) (by
      have := List.length_filterMap_le (mtI row r) Q
      rw [List.length_map, List.length_append]
      show 1 + (Q.filterMap (mtI row r)).length < 10000000
      omega)) (run_pub 4 rfl ?_)
    exact run_ret (ed_call (x := [(fallZ Q (r : Int), 1)] ++ Q.filterMap (mtI row r) ++ [tail]) (ea_d (ed_var 4 rfl) ea_nil) (by show [SD.dat (.list _)] = [SD.dat (.list _)]; rw [List.map_append (l₁ := [(fallZ Q (r : Int), 1)] ++ Q.filterMap (mtI row r))]; rfl) hsm)

end
end KP

/-! name = {k: v for ..}. -/
namespace DL
open PySem L2 PySem.Spec PyProof.Rows
variable {X : Cx}
theorem ps_setDc {i : Nat} {y : Str} {py : Pos} {kx vx tg iter : Expr} {ifs : List Expr} {scope : Scope} {own : List (Str × Nat)} {pos spos : Pos} {wi : TI} {g : TG} {tt : TT} {tk tv : TE} (hc : X.calm = true) (hN : X.N.Nodup) (hy : X.N[i]? = some y) (hyl : X.env.scope.names.lookup y = some .local)
    (hsw : swapsWith (.DictComp kx vx [⟨tg, iter, ifs, 0⟩] scope pos) (some (.Name y py)) spos.line X.env = pure true) (hi : PI X tg iter wi) (ok : BlkOk X.N X.env.scope scope own)
    (hg : ∀ (s : Shared) (H : Hp) (C : Addr) (cl : List (Str × Addr)) (fp : List Addr), PG (X.blk s H scope (compEnvC scope cl C X.env) fp) tg g) (ht : ∀ (s : Shared) (H : Hp) (C : Addr) (cl : List (Str × Addr)) (fp : List Addr), PTs (X.blk s H scope (compEnvC scope cl C X.env) fp) ifs tt)
    (hk : ∀ (s : Shared) (H : Hp) (C : Addr) (cl : List (Str × Addr)) (fp : List Addr), PE (X.blk s H scope (compEnvC scope cl C X.env) fp) kx tk)
    (he : ∀ (s : Shared) (H : Hp) (C : Addr) (cl : List (Str × Addr)) (fp : List Addr), PE (X.blk s H scope (compEnvC scope cl C X.env) fp) vx tv) (hs : ∀ x, foldedSetIterable iter X.env x = pure x := by intro _; rfl) :
    PS X (.Assign [.Name y py] (.DictComp kx vx [⟨tg, iter, ifs, 0⟩] scope pos) spos) (tAsg (tDc wi g tt tk tv (own.map (·.2))) (gName i)) := by
  refine ⟨fun pins s σ H D I h => ?_⟩
  rw [exec_Assign_Name_used _ _ _ _ hsw]
  refine wpAny_bind (wpAny_standAt (wpAny_bind ?_))
  show wpAny _ X.A (do let _ ← comprehension (.DictComp kx vx [⟨tg, iter, ifs, 0⟩] scope pos) scope X.env (firstIterPos [⟨tg, iter, ifs, 0⟩] pos) newDict false (eval iter X.env) (some (assign (.Name y py) X.env))) _ _ s
  have h : tDc wi g tt tk tv (own.map (·.2)) σ H (fun x H1 => gName i x σ H1 D.nx) := h
  refine wpAny_bind (thn (dc_core (Qf := fun _ s' => SP X pins D .next s') hc hN I hi ok hg ht hk he hs h fun L C s' m H' I' q hn f => ?_) fun _ s' hq => wpAny_pure (wpAny_pure hq))
  show wpAny _ _ (assign (.Name y py) X.env (.ref L)) _ _ _
  refine wpAny_assign_Name (store_ok2 (v := V.ref L) I' hN hy (.inl hyl) rfl (fun s2 I2 ⟨a, sb, ha⟩ => ?_) (.inr hyl))
  obtain ⟨f0, f1, f2, f3, f4, f5⟩ := f
  have haC : C ≠ a := by
    rcases ha with z | z
    · rw [z]; exact f1
    · exact fun e => f4 y a z e.symm
  refine ⟨m, hn.sameBut sb haC, fun h3 sb3 => ?_⟩
  exact ⟨_, H', I2.turned (t' := s2.toks) (fun b o hb e => (sb3.2 b hb).trans e) f0 f1 f3 f4 f5, q⟩
theorem sw_trueD {kx vx : Expr} {gs : List Comprehension} {scope : Scope} {pos py : Pos} {y : Str} {l : Nat} {env : Env} (hk : env.scope.kind = .function) (hy : env.scope.names.lookup y = some .local) (hl : (py.line == pos.line) = true)
    (ha : (scope.names.any fun (n, k) => n == y && (k == .local || k == .cell)) = false) : swapsWith (.DictComp kx vx gs scope pos) (some (.Name y py)) l env = pure true := by
  have ky : env.kindOf y = some .local := hy
  have hb : env.blockKind = .function := by unfold Env.blockKind; rw [hk]; rfl
  unfold swapsWith
  simp only [hb, ky, ha, Expr.pos, hl]
  rfl
end DL

namespace KP
open PySem L2 DL MX
section
variable {P : Program} {w : World} {K : PySem.W.Frag} {mg : Str → Option Value} {base : Heap}
/-! ### the mean after a year -/
structure MaA where
  h : Hs
  t : Tq
  r : Nat
  w : Nat
  tr : Int
def maU (a : MaA) : Spr := (wAt a.h (a.w : Int)).turns
def maS (a : MaA) : Spr := chgF (wAt a.h (a.w : Int)).prem (tAt a.h a.tr) (dmgF (wAt a.h (a.w : Int)).lines)
def maL (a : MaA) : Int := ((lcmF (chsF [maS a]) : Nat) : Int)
def maP (a : MaA) : List (Int × Int) := partsZ (maL a) (maS a)
def maZ (a : MaA) : Nat := (rowF a.t a.w).length
def maR (a : MaA) : Nat := min a.r (maZ a + lossN (maP a))
def maW (a : MaA) (k : Nat) : Rat := mnF (maU a) (a.t.rows.map fun r => r.getD k 0)
def maI (a : MaA) (p : Int × Int) : Option (Int × Rat) := if 0 ≤ (maR a : Int) + p.1 ∧ (maR a : Int) + p.1 < (maZ a : Int) then some ((maR a : Int) + p.1, maW a ((maR a : Int) + p.1).toNat) else none
def maRow (a : MaA) : List (Int × Rat) := (maP a).filterMap (maI a)
def maTA (a : MaA) : TaA := ⟨maL a, maP a, a.t.q, (maZ a : Int), (maR a : Int)⟩
def maV (a : MaA) : Rat := mnF (maU a) a.t.sc
def maT (a : MaA) : Int × Int := tlF (maP a) a.t.q (maZ a : Int) (taA (maTA a)) (taN (maTA a))
def maTl (a : MaA) : Int × Int := ((maV a).num * (maT a).1, ((maV a).den : Int) * (maT a).2)
def maM (a : MaA) : MtA := ⟨maL a, maP a, maRow a, maR a, maTl a⟩
def maX (a : MaA) : Rat := Rat.divInt (sumdF (mtP (maM a))).1 ((sumdF (mtP (maM a))).2 * maL a)
def maF (a : MaA) : Rat := maX a * a.t.q ^ (a.r - maR a)
structure MaQ (a : MaA) : Prop where
  h : HsQ a.h
  w1 : a.w < a.h.ws.length
  t1 : 0 ≤ a.tr ∧ a.tr < (a.h.ts.length : Int)
  w2 : a.w < a.t.rows.length
  lo : LowOk (chsF [maS a])
  ci : CiP (maS a, maL a)
  fl : (maP a).length ≤ 1000
  eq : ∀ row ∈ a.t.rows, row.length = maZ a
  mr : ∀ k, k < maZ a → MnP ⟨maU a, a.t.rows.map fun r => r.getD k 0⟩
  ms : MnP ⟨maU a, a.t.sc⟩
  ta : TaP (maTA a)
  tp : (Bt 60000 (maV a).num ∧ Bt 60000 ((maV a).den : Int)) ∧ Bt 60000 (maT a).1 ∧ Bt 60000 (maT a).2
  mt : MtOk (maM a)
  nd : ((maRow a).map (·.1)).Nodup
  fr : FrP ((sumdF (mtP (maM a))).1, (sumdF (mtP (maM a))).2 * maL a)
  bl : Bt 60000 (sumdF (mtP (maM a))).2 ∧ Bt 60000 (maL a)
  pw : Qb 1000 (maX a) ∧ Qb 40 a.t.q
  few : a.t.rows.length ≤ 1000
def maO (a : MaA) : Option D := if 10000 < a.r then none else some (encQ (maF a))
theorem dc_filter {α : Type} {g : TG} {ts : List Nat} {tt : TT} {tk tv : TE} {env : EnvD} (enc : α → D) (key : α → Int) (res : α → Option D) : ∀ (xs : List α) (acc : List (Key × D)),
    (∀ x ∈ xs, ∃ em, EvG K g ts env (enc x) em ∧ ((∃ z, res x = some z ∧ EvT K tt em true ∧ EvD K tk em (.int (key x)) ∧ EvD K tv em z) ∨ (res x = none ∧ EvT K tt em false))) →
    ((acc ++ xs.filterMap fun x => (res x).map fun z => ((Sum.inl (key x) : Key), z)).map (·.1)).Nodup → Dc K g ts tt tk tv env acc (xs.map enc) (acc ++ xs.filterMap fun x => (res x).map fun z => ((Sum.inl (key x) : Key), z))
  | [], acc, _, _ => by rw [List.filterMap_nil, List.append_nil]; exact .nil
  | x :: xs, acc, h, hn => by
    obtain ⟨em, h1, h2⟩ := h x List.mem_cons_self
    rw [List.filterMap_cons] at hn ⊢
    rw [List.map_cons]
    rcases h2 with ⟨z, e, a, b, c⟩ | ⟨e, a⟩
    · rw [e] at hn ⊢
      simp only [Option.map_some] at hn ⊢
      have ep : putD acc (.inl (key x)) z = acc ++ [((Sum.inl (key x) : Key), z)] := by
        unfold putD
        rw [if_neg]
        intro hany
        obtain ⟨p, hp, hk⟩ := List.any_eq_true.mp hany
        have hk := of_decide_eq_true hk
        rw [List.map_append, List.nodup_append] at hn
        exact hn.2.2 p.1 (List.mem_map.mpr ⟨p, hp, rfl⟩) (Sum.inl (key x)) (by rw [List.map_cons]; exact List.mem_cons_self) hk
      rw [show acc ++ ((Sum.inl (key x) : Key), z) :: (xs.filterMap fun x => (res x).map fun z => ((Sum.inl (key x) : Key), z)) = (acc ++ [((Sum.inl (key x) : Key), z)]) ++ (xs.filterMap fun x => (res x).map fun z => ((Sum.inl (key x) : Key), z)) by rw [List.append_assoc]; rfl] at hn ⊢
      refine .keep h1 a b c ?_
      rw [ep]
      exact dc_filter enc key res xs _ (fun y hy => h y (List.mem_cons_of_mem _ hy)) hn
    · rw [e] at hn ⊢
      exact .skip h1 a (dc_filter enc key res xs acc (fun y hy => h y (List.mem_cons_of_mem _ hy)) hn)
theorem dc_filter0 {α : Type} {g : TG} {ts : List Nat} {tt : TT} {tk tv : TE} {env : EnvD} (enc : α → D) (key : α → Int) (res : α → Option D) (xs : List α)
    (hn : ((xs.filterMap fun x => (res x).map fun z => ((Sum.inl (key x) : Key), z)).map (·.1)).Nodup) (h : ∀ x ∈ xs, ∃ em, EvG K g ts env (enc x) em ∧ ((∃ z, res x = some z ∧ EvT K tt em true ∧ EvD K tk em (.int (key x)) ∧ EvD K tv em z) ∨ (res x = none ∧ EvT K tt em false))) :
    Dc K g ts tt tk tv env [] (xs.map enc) (xs.filterMap fun x => (res x).map fun z => ((Sum.inl (key x) : Key), z)) := by
  have := dc_filter (K := K) (g := g) (ts := ts) (tt := tt) (tk := tk) (tv := tv) (env := env) enc key res xs [] h (by rw [List.nil_append]; exact hn)
  rw [List.nil_append] at this
  exact this
theorem sc_mean_after : FnScope ["house", "table", "state", "treaty", "reserve", "weather", "rows", "scales", "q", "size", "turns", "spread", "change", "settled", "nexts", "row", "tail", "top", "low", "value", "_", "at", "worths"] ["house", "table", "state", "treaty"] (defScope s_mean_after) := ⟨rfl, rfl, rfl, by decide +kernel, rfl, by decide +kernel, by decide +kernel⟩
def sp_mean_after (K : PySem.W.Frag) (C : Addr) : Sp := SpX K (fun a : MaA => [.dat (encH a.h), .dat (encTq a.t), .dat (.tuple [.int (a.r : Int), .int (a.w : Int)]), .dat (.int a.tr)]) (fun a => a.r ≤ 10000 → MaQ a) (.ref C) maO
theorem ok_mean_after {f C CC : Addr} {fd : FuncData} (F : Fun K "mean_after" "mean_after" s_mean_after f fd) (T0 : ChC K CC) (m_len : mg "len" = none) (m_min : mg "min" = none) (C_check_reserve : Callee P w K mg base (L2.CX P w) 1 "check_reserve" ["reserve"] (sp_check_reserve K C)) (C_change_of : Callee P w K mg base (L2.CX P w) 6 "change_of" ["house", "weather", "treaty"] (sp_change_of K C))
    (M_Change : CalleeM P w K mg base CX0 2 "Change" CC ["self", "spread", "low"] (sp_ch_init K CC)) (C_common_low : Callee P w K mg base CX0 2 "common_low" ["spreads"] (sp_common_low K)) (C_mean_of : Callee P w K mg base CX0 2 "mean_of" ["turns", "worths"] (sp_mean_of K)) (C_times_pair : Callee P w K mg base CX0 1 "times_pair" ["first", "second"] (sp_times_pair K))
    (C_tail_parts : Callee P w K mg base CX0 1 "tail_parts" ["change", "q", "size", "first", "last"] (sp_tail_parts K CC)) (C_mean_top : Callee P w K mg base CX0 2 "mean_top" ["change", "row", "reserve", "tail"] (sp_mean_top K CC)) (C_fraction : Callee P w K mg base (L2.CX P w) 1 "fraction" ["top", "low"] (sp_fractionP K C)) (C_times_power : Callee P w K mg base CX0 3 "times_power" ["first", "base", "exponent"] (sp_times_power K)) :
    FnOk P w K mg base (L2.CX P w) 7 f fd ["house", "table", "state", "treaty"] (sp_mean_after K C) := by
  have sc := sc_mean_after
  refine fn_X F sc (fun _ => rfl) fun cdv A outer s0 H E hr => ?_
  refine ⟨_, (pss_cons (ps_asg (pv 2) (pg_tup rfl (pgs_cons (pg_name (i := 4) sc.nd rfl (by first | exact Or.inl rfl | exact Or.inr rfl)) (pgs_cons (pg_name (i := 5) sc.nd rfl (by first | exact Or.inl rfl | exact Or.inr rfl)) pgs_nil))))
      (pss_cons (ps_expr (pe_c C_check_reserve (hr.mono (by decide)) pass_up (pa_cons (pv 4) pa_nil)))
      (pss_cons (ps_asg (pv 1) (pg_tup rfl (pgs_cons (pg_name (i := 6) sc.nd rfl (by first | exact Or.inl rfl | exact Or.inr rfl)) (pgs_cons (pg_name (i := 7) sc.nd rfl (by first | exact Or.inl rfl | exact Or.inr rfl)) (pgs_cons (pg_name (i := 8) sc.nd rfl (by first | exact Or.inl rfl | exact Or.inr rfl)) pgs_nil)))))
      (pss_cons (ps_set (i := 9) sc.nd rfl (by first | exact Or.inl rfl | exact Or.inr rfl) (pe_callB (id := "len") (r := rLenS K) call_len_seq (by rfl) m_len PySem.boot_len (pa_cons (pe_ix (r := rIxL K) ix_list (pv 6) (pv 5) (fun _ _ => rfl)) pa_nil)))
      (pss_cons (ps_set (i := 10) sc.nd rfl (by first | exact Or.inl rfl | exact Or.inr rfl) (pe_ix (r := rIxT K) ix_tup (pe_ix (r := rIxL K) ix_list (pe_ix (r := rIxT K) ix_tup (pv 0) pe_int (fun _ _ => rfl)) (pv 5) (fun _ _ => rfl)) pe_int (fun _ _ => rfl)))
      (pss_cons (ps_set (i := 11) sc.nd rfl (by first | exact Or.inl rfl | exact Or.inr rfl) (pe_c C_change_of (hr.mono (by decide)) pass_up (pa_cons (pv 0) (pa_cons (pv 5) (pa_cons (pv 3) pa_nil)))))
      (pss_cons (ps_set (i := 12) sc.nd rfl (by first | exact Or.inl rfl | exact Or.inr rfl) (pe_mk M_Change (hr.mono (by decide)) pass0 (pa_cons (pv 11) (pa_cons (pe_c C_common_low (hr.mono (by decide)) pass0 (pa_cons (pe_lst (pa_cons (pv 11) pa_nil)) pa_nil)) pa_nil))))
      (pss_cons (ps_set (i := 13) sc.nd rfl (by first | exact Or.inl rfl | exact Or.inr rfl) (pe_callB (id := "min") (call_min2 rfl) (by rfl) m_min (by decide +kernel) (pa_cons (pv 4) (pa_cons (pe_op op_add (pv 9) (pe_callB (id := "len") (r := rLenS K) call_len_seq (by rfl) m_len PySem.boot_len (pa_cons (pe_fld (pv 12) rfl) pa_nil))) pa_nil))))
      (pss_cons (ps_setLc (i := 14) (g := (gTup K 2 (gCons (gName 19) (gCons (gName 20) gNil)))) (own := [("value", 19), ("_", 20)]) rfl sc.nd rfl rfl (sw_true rfl rfl rfl (by decide +kernel)) (pi_list (pe_fld (pv 12) rfl)) (blkOk_by (own := [("value", 19), ("_", 20)]) (N := ["house", "table", "state", "treaty", "reserve", "weather", "rows", "scales", "q", "size", "turns", "spread", "change", "settled", "nexts", "row", "tail", "top", "low", "value", "_", "at", "worths"]) (sc := defScope s_mean_after) (by decide +kernel)) (fun _ _ _ _ _ => (pg_tup rfl (pgs_cons (pg_name (i := 19) sc.nd rfl (Or.inl rfl)) (pgs_cons (pg_name (i := 20) sc.nd rfl (Or.inl rfl)) pgs_nil)))) (fun _ _ _ _ _ => pts_nil) (fun _ _ _ _ _ => (pe_op op_add (pv 13) (pv 19))))
      (pss_cons (ps_setDc (i := 15) (own := [("at", 21)]) rfl sc.nd rfl rfl (sw_trueD rfl rfl rfl (by decide +kernel)) (pi_list (pv 14)) (blkOk_by (own := [("at", 21)]) (N := ["house", "table", "state", "treaty", "reserve", "weather", "rows", "scales", "q", "size", "turns", "spread", "change", "settled", "nexts", "row", "tail", "top", "low", "value", "_", "at", "worths"]) (sc := defScope s_mean_after) (by decide +kernel)) (fun _ _ _ _ _ => (pg_name (i := 21) sc.nd rfl (by first | exact Or.inl rfl | exact Or.inr rfl))) (fun _ _ _ _ _ => (pts_one (pt_chain op_le op_lt pe_int (pv 21) (pv 9)))) (fun _ _ _ _ _ => (pv 21)) (fun _ _ _ _ _ => (pe_c C_mean_of (hr.mono (by decide)) pass0 (pa_cons (pv 10) (pa_cons (by
      refine pe_lc (wi := iList K (tVar 6)) (g := gName 22) (tt := tYes) (te := tOp (rIxL K) (tVar 22) (tVar 21)) (own := [("worths", 22)]) rfl sc.nd ?_ ?_ ?_ ?_ ?_
      · exact pi_list (pv 6)
      · exact blkOk_by (by rfl)
      · exact fun _ _ _ _ _ => pg_name (i := 22) sc.nd rfl (Or.inl rfl)
      · exact fun _ _ _ _ _ => pts_nil
      · exact fun _ _ _ _ _ => pe_ix (r := rIxL K) ix_list (pv 22) (pv 21) (fun _ _ => rfl)) pa_nil)))))
      (pss_cons (ps_frz (ps_set (i := 16) sc.nd rfl (by first | exact Or.inl rfl | exact Or.inr rfl) (pe_c C_times_pair (hr.mono (by decide)) pass0 (pa_cons (pe_c C_mean_of (hr.mono (by decide)) pass0 (pa_cons (pv 10) (pa_cons (pv 7) pa_nil))) (pa_cons (pe_ix (r := rIxL K) ix_list (pe_c C_tail_parts (hr.mono (by decide)) pass0 (pa_cons (pv 12) (pa_cons (pv 8) (pa_cons (pv 9) (pa_cons (pv 13) (pa_cons (pv 13) pa_nil)))))) pe_int (fun _ _ => rfl)) pa_nil)))))
      (pss_cons (ps_asg (pe_c C_mean_top (hr.mono (by decide)) pass0 (pa_cons (pv 12) (pa_cons (pv 15) (pa_cons (pv 13) (pa_cons (pv 16) pa_nil))))) (pg_tup rfl (pgs_cons (pg_name (i := 17) sc.nd rfl (by first | exact Or.inl rfl | exact Or.inr rfl)) (pgs_cons (pg_name (i := 18) sc.nd rfl (by first | exact Or.inl rfl | exact Or.inr rfl)) pgs_nil))))
      (pss_one (ps_ret (pe_c C_times_power (hr.mono (by decide)) pass0 (pa_cons (pe_c C_fraction (hr.mono (by decide)) pass_up (pa_cons (pv 17) (pa_cons (pe_op op_mulX (pv 18) (pe_fld (pv 12) rfl)) pa_nil))) (pa_cons (pv 8) (pa_cons (pe_op op_sub (pv 4) (pv 13)) pa_nil)))))))))))))))))), fun a ha => ?_⟩
  have ha : a.r ≤ 10000 → MaQ a := ha
  unfold maO
  have st : EvD K (tVar 2) [.dat (encH a.h), .dat (encTq a.t), .dat (.tuple [.int (a.r : Int), .int (a.w : Int)]), .dat (.int a.tr), .un, .un, .un, .un, .un, .un, .un, .un, .un, .un, .un, .un, .un, .un, .un, .un, .un, .un, .un] (.tuple [.int (a.r : Int), .int (a.w : Int)]) := ed_var 2 rfl
  by_cases c : 10000 < a.r
  · rw [if_pos c]
    exact ⟨fun d hd => (by cases hd), fun _ => run_seq (run_asg (ts := [4, 5]) st (eg_tup (egs_cons (eg_name (by decide)) (egs_cons (eg_name (by decide)) egs_nil)) rfl)) (run_seqE (run_dropX (x := (a.r : Int)) (ea_d (ed_var 4 rfl) ea_nil) rfl trivial (if_pos (by omega))))⟩
  · rw [if_neg c]
    have q := ha (by omega)
    refine ⟨fun d hd => .inl ?_, fun h => by cases h⟩
    cases hd
    refine run_seq (run_asg (ts := [4, 5]) st (eg_tup (egs_cons (eg_name (by decide)) (egs_cons (eg_name (by decide)) egs_nil)) rfl)) ?_
    refine run_seq (run_drop (ed_callX (x := (a.r : Int)) (d := .none) (ea_d (ed_var 4 rfl) ea_nil) rfl trivial (if_neg (by omega))).v) ?_
    refine run_seq (run_asg (ts := [6, 7, 8]) (ed_var 1 rfl) (eg_tup (egs_cons (eg_name (by decide)) (egs_cons (eg_name (by decide)) (egs_cons (eg_name (by decide)) egs_nil))) rfl)) ?_
    have atN : ∀ {ds : List D} {i : Int} {n : Nat} {d : D}, i = (n : Int) → ds[n]? = some d → atI ds i = some d := fun {ds i n d} e h => by
      subst e
      have hl : n < ds.length := (List.getElem?_eq_some_iff.mp h).1
      unfold atI ixN
      rw [if_pos (by omega), if_pos (by omega)]
      show ds[((n : Int)).toNat]? = _
      rw [Int.toNat_natCast]; exact h
    have er : (a.t.rows.map encRq)[a.w]? = some (encRq (rowF a.t a.w)) := by
      unfold rowF
      rw [List.getElem?_map, List.getD_eq_getElem?_getD, List.getElem?_eq_getElem q.w2]; rfl
    have ew := wAt_d (h := a.h) (v := (a.w : Int)) (by omega) (by have := q.w1; omega)
    refine run_seq (run_set (d := .int (maZ a : Int)) ((ed_lenl (ed_ixl (ed_var 6 rfl).l (ed_var 5 rfl) (atN rfl er)).l).is (by rw [List.length_map]; rfl))) ?_
    refine run_seq (run_set (d := encS (maU a)) (ed_ixT (ds := [.int (wAt a.h (a.w : Int)).prem, .list ((wAt a.h (a.w : Int)).lines.map encS), encS (wAt a.h (a.w : Int)).turns]) (ed_ixl (ed_ixT (ds := [.list (a.h.ws.map encW), .list (a.h.ts.map encT)]) (ed_var 0 rfl) (ed_int 0) rfl).l (ed_var 5 rfl) ew) (ed_int 2) rfl)) ?_
    refine run_seq (run_setN (en_callXN (x := (⟨a.h, (a.w : Int), a.tr⟩ : CoA)) (ea_d (ed_var 0 rfl) (ea_d (ed_var 5 rfl) (ea_d (ed_var 3 rfl) ea_nil))) rfl q.h (if_pos ⟨⟨by show 0 ≤ (a.w : Int); omega, by have := q.w1; show (a.w : Int) < (a.h.ws.length : Int); omega⟩, q.t1⟩))) (run_pub 11 rfl ?_)
    refine run_seq (run_setM (em_make (x := (maS a, maL a)) (ea_d (ed_var 11 rfl) (ea_d (ed_call (x := [maS a]) (ea_d (en_lst (ds := [encS (maS a)]) (ea_d (ed_var 11 rfl) ea_nil)).d ea_nil) rfl ⟨q.lo, by show 1 ≤ 1000; decide⟩) ea_nil)) q.ci)) (run_pubT 12 rfl (Pb.fields CC (chD (maL a) (maP a))) ?_)
    show Run K E _ [.dat (encH a.h), .dat (encTq a.t), .dat (.tuple [.int (a.r : Int), .int (a.w : Int)]), .dat (.int a.tr), .dat (.int (a.r : Int)), .dat (.int (a.w : Int)), .dat (.list (a.t.rows.map encRq)), .dat (.list (a.t.sc.map encQ)), .dat (encQ a.t.q), .dat (.int (maZ a : Int)), .dat (encS (maU a)), .dat (encS (maS a)), .dat (objD CC (chD (maL a) (maP a))), .un, .un, .un, .un, .un, .un, .un, .un, .un, .un] _
    have fF : ∀ ev : EnvD, ev[12]? = some (.dat (objD CC (chD (maL a) (maP a)))) → EvD K (tFld K (tVar 12) "falls") ev (.list ((fallsF (maP a)).map PyData.int)) := fun ev e => ed_fld (ed_var 12 e) T0.cl T0.n3 rfl
    have fP : ∀ ev : EnvD, ev[12]? = some (.dat (objD CC (chD (maL a) (maP a)))) → EvD K (tFld K (tVar 12) "parts") ev (.list ((maP a).map encP)) := fun ev e => ed_fld (ed_var 12 e) T0.cl T0.n2 rfl
    have fL : ∀ ev : EnvD, ev[12]? = some (.dat (objD CC (chD (maL a) (maP a)))) → EvD K (tFld K (tVar 12) "low") ev (.int (maL a)) := fun ev e => ed_fld (ed_var 12 e) T0.cl T0.n1 rfl
    refine run_seq (run_set (d := .int (maR a : Int)) ((ed_min2 (ed_var 4 rfl) (ed_I0 (g := fun i j => i + j) (ed_var 9 rfl) (ed_lenl (fF _ rfl).l))).is (by
      rw [List.length_map]
      have e : (fallsF (maP a)).length = lossN (maP a) := by unfold fallsF; rw [List.length_map, List.length_range]
      rw [e]
      congr 1
      unfold maR
      split <;> omega))) ?_
    refine run_seq (run_setN (ds := (maP a).map fun p => PyData.int ((maR a : Int) + p.1)) (en_lc (ei_list (fP _ rfl)) (ts := [19, 20]) (by decide) (lc_map encP (fun p : Int × Int => PyData.int ((maR a : Int) + p.1)) fun p hp => ⟨_, eg_tup (egs_cons (eg_name (by decide)) (egs_cons (eg_name (by decide)) egs_nil)) rfl, et_yes, ed_I0 (ed_var 13 rfl) (ed_var 19 rfl)⟩) (by rw [List.length_map]; have := q.fl; omega))) (run_pub 14 rfl ?_)
    have hres : ((maP a).filterMap fun p => ((maI a p).map fun w => encQ w.2).map fun z => ((Sum.inl ((maR a : Int) + p.1) : Key), z)) = rowD (maRow a) := by
      unfold rowD maRow
      rw [List.map_filterMap]
      congr 1
      funext p
      unfold maI
      split <;> rfl
    have hnd : (((maP a).filterMap fun p : Int × Int => ((maI a p).map fun w : Int × Rat => encQ w.2).map fun z : D => ((Sum.inl ((maR a : Int) + p.1) : Key), z)).map (·.1)).Nodup := by
      rw [hres]
      unfold rowD
      rw [List.map_map]
      have e : (maRow a).map ((fun x : Key × D => x.1) ∘ fun p : Int × Rat => ((Sum.inl p.1 : Key), encQ p.2)) = ((maRow a).map (·.1)).map Sum.inl := by rw [List.map_map]; rfl
      rw [e]
      exact List.Pairwise.map _ (fun a b hab z => hab (Sum.inl.inj z)) q.nd
    have hdc : Dc K (gName 21) [21] (tTest (tChain (rI0 fun i j => .bl (decide (i ≤ j))) (rI0 fun i j => .bl (decide (i < j))) (tC (.int 0)) (tVar 21) (tVar 9))) (tVar 21) (tCall (sp_mean_of K) [] E0 (tCons (tVar 10) (tCons (tLc (iList K (tVar 6)) (gName 22) tYes (tOp (rIxL K) (tVar 22) (tVar 21)) [22]) tNil))) [.dat (encH a.h), .dat (encTq a.t), .dat (.tuple [.int (a.r : Int), .int (a.w : Int)]), .dat (.int a.tr), .dat (.int (a.r : Int)), .dat (.int (a.w : Int)), .dat (.list (a.t.rows.map encRq)), .dat (.list (a.t.sc.map encQ)), .dat (encQ a.t.q), .dat (.int (maZ a : Int)), .dat (encS (maU a)), .dat (encS (maS a)), .dat (objD CC (chD (maL a) (maP a))), .dat (.int (maR a : Int)), .dat (.list ((maP a).map fun p => PyData.int ((maR a : Int) + p.1))), .un, .un, .un, .un, .un, .un, .un, .un] [] ((maP a).map fun p => PyData.int ((maR a : Int) + p.1)) (rowD (maRow a)) := by
      rw [← hres]
      refine dc_filter0 (g := gName 21) (ts := [21]) (tt := tTest (tChain (rI0 fun i j => .bl (decide (i ≤ j))) (rI0 fun i j => .bl (decide (i < j))) (tC (.int 0)) (tVar 21) (tVar 9))) (tk := tVar 21) (tv := tCall (sp_mean_of K) [] E0 (tCons (tVar 10) (tCons (tLc (iList K (tVar 6)) (gName 22) tYes (tOp (rIxL K) (tVar 22) (tVar 21)) [22]) tNil))) (fun p : Int × Int => PyData.int ((maR a : Int) + p.1)) (fun p => (maR a : Int) + p.1) (fun p => (maI a p).map fun w => encQ w.2) (maP a) hnd (fun p hp => ⟨_, eg_name (by decide), ?_⟩)
      have tc := et_test (K := K) (ed_chain (g := fun i j => decide (i ≤ j)) (g' := fun i j => decide (i < j)) (ed_int (env := [.dat (encH a.h), .dat (encTq a.t), .dat (.tuple [.int (a.r : Int), .int (a.w : Int)]), .dat (.int a.tr), .dat (.int (a.r : Int)), .dat (.int (a.w : Int)), .dat (.list (a.t.rows.map encRq)), .dat (.list (a.t.sc.map encQ)), .dat (encQ a.t.q), .dat (.int (maZ a : Int)), .dat (encS (maU a)), .dat (encS (maS a)), .dat (objD CC (chD (maL a) (maP a))), .dat (.int (maR a : Int)), .dat (.list ((maP a).map fun p => PyData.int ((maR a : Int) + p.1))), .un, .un, .un, .un, .un, .un, .dat (.int ((maR a : Int) + p.1)), .un]) 0) (ed_var 21 rfl) (ed_var 9 rfl))
      by_cases cc : 0 ≤ (maR a : Int) + p.1 ∧ (maR a : Int) + p.1 < (maZ a : Int)
      · have eI : maI a p = some ((maR a : Int) + p.1, maW a ((maR a : Int) + p.1).toNat) := if_pos cc
        refine .inl ⟨encQ (maW a ((maR a : Int) + p.1).toNat), by rw [eI]; rfl, tc.is (by rw [decide_eq_true cc.1, decide_eq_true cc.2]; rfl), ed_var 21 rfl, ?_⟩
        obtain ⟨k, hk⟩ : ∃ k : Nat, (maR a : Int) + p.1 = (k : Int) := ⟨((maR a : Int) + p.1).toNat, by omega⟩
        rw [hk] at cc ⊢
        rw [Int.toNat_natCast]
        have hk2 : k < maZ a := by omega
        have hrow : EvD K (tLc (iList K (tVar 6)) (gName 22) tYes (tOp (rIxL K) (tVar 22) (tVar 21)) [22]) [.dat (encH a.h), .dat (encTq a.t), .dat (.tuple [.int (a.r : Int), .int (a.w : Int)]), .dat (.int a.tr), .dat (.int (a.r : Int)), .dat (.int (a.w : Int)), .dat (.list (a.t.rows.map encRq)), .dat (.list (a.t.sc.map encQ)), .dat (encQ a.t.q), .dat (.int (maZ a : Int)), .dat (encS (maU a)), .dat (encS (maS a)), .dat (objD CC (chD (maL a) (maP a))), .dat (.int (maR a : Int)), .dat (.list ((maP a).map fun p => PyData.int ((maR a : Int) + p.1))), .un, .un, .un, .un, .un, .un, .dat (.int (k : Int)), .un] (.list ((a.t.rows.map fun r => r.getD k 0).map encQ)) := by
          rw [List.map_map]
          refine (en_lc (ei_list (ed_var 6 rfl)) (ts := [22]) (by decide) (lc_map encRq (fun r : List Rat => encQ (r.getD k 0)) fun r hr => ⟨_, eg_name (by decide), et_yes, ?_⟩) (by rw [List.length_map]; have := q.few; omega)).d
          exact ed_ixl (ed_var 22 rfl).l (ed_var 21 rfl) (atN rfl (by
            have := q.eq r hr
            rw [List.getElem?_map, List.getD_eq_getElem?_getD, List.getElem?_eq_getElem (by omega)]; rfl))
        show EvD K (tCall (sp_mean_of K) [] E0 (tCons (tVar 10) (tCons (tLc (iList K (tVar 6)) (gName 22) tYes (tOp (rIxL K) (tVar 22) (tVar 21)) [22]) tNil))) [.dat (encH a.h), .dat (encTq a.t), .dat (.tuple [.int (a.r : Int), .int (a.w : Int)]), .dat (.int a.tr), .dat (.int (a.r : Int)), .dat (.int (a.w : Int)), .dat (.list (a.t.rows.map encRq)), .dat (.list (a.t.sc.map encQ)), .dat (encQ a.t.q), .dat (.int (maZ a : Int)), .dat (encS (maU a)), .dat (encS (maS a)), .dat (objD CC (chD (maL a) (maP a))), .dat (.int (maR a : Int)), .dat (.list ((maP a).map fun p => PyData.int ((maR a : Int) + p.1))), .un, .un, .un, .un, .un, .un, .dat (.int (k : Int)), .un] (encQ (mnF (maU a) (a.t.rows.map fun r => r.getD k 0)))
        exact ed_call (fs := fun a : MnA => [.dat (encS a.s), .dat (.list (a.ws.map encQ))]) (pre := MnP) (f := fun a : MnA => encQ (mnF a.s a.ws)) (x := (⟨maU a, a.t.rows.map fun r => r.getD k 0⟩ : MnA)) (ea_d (ed_var 10 rfl) (ea_d hrow ea_nil)) rfl (q.mr k hk2)
      · have eI : maI a p = none := if_neg cc
        refine .inr ⟨by rw [eI]; rfl, tc.is ?_⟩
        rw [Bool.and_eq_false_iff]
        by_cases c1 : 0 ≤ (maR a : Int) + p.1
        · exact .inr (decide_eq_false fun z => cc ⟨c1, z⟩)
        · exact .inl (decide_eq_false c1)
    refine run_seq (run_setM (em_dc (ei_list (ed_var 14 rfl)) (ts := [21]) (by decide) hdc (by rw [List.length_map]; have := q.fl; omega))) ?_
    refine run_seq (run_frz 15 rfl (Pf.md (rowD (maRow a))) (run_set (d := enc2 (maTl a)) (ed_call (x := (((maV a).num, ((maV a).den : Int)), maT a)) (ea_d (ed_call (x := (⟨maU a, a.t.sc⟩ : MnA)) (ea_d (ed_var 10 rfl) (ea_d (ed_var 7 rfl) ea_nil)) rfl q.ms) (ea_d (ed_ixl (ds := [enc2 (maT a)]) (en_call (x := maTA a) (ea_d (ed_var 12 rfl) (ea_d (ed_var 8 rfl) (ea_d (ed_var 9 rfl) (ea_d (ed_var 13 rfl) (ea_d (ed_var 13 rfl) ea_nil))))) rfl q.ta).l (ed_int 0) rfl) ea_nil)) rfl q.tp))) ?_
    refine run_seq (run_asg (ts := [17, 18]) (d := .tuple [.int (sumdF (mtP (maM a))).1, .int (sumdF (mtP (maM a))).2]) (ed_call (x := maM a) (ea_d (ed_var 12 rfl) (ea_d (ed_var 15 rfl) (ea_d (ed_var 13 rfl) (ea_d (ed_var 16 rfl) ea_nil)))) rfl q.mt) (eg_tup (egs_cons (eg_name (by decide)) (egs_cons (eg_name (by decide)) egs_nil)) rfl)) ?_
    have hle : maR a ≤ a.r := by unfold maR; omega
    exact run_ret (ed_call (x := (⟨maX a, a.t.q, a.r - maR a⟩ : TpA)) (ea_d (ed_callX (x := ((sumdF (mtP (maM a))).1, (sumdF (mtP (maM a))).2 * maL a)) (ea_d (ed_var 17 rfl) (ea_d (ed_I (ed_var 18 rfl) (fL _ rfl) (q.bl.1.mulx q.bl.2 (by decide))) ea_nil)) rfl q.fr rfl) (ea_d (ed_var 8 rfl) (ea_d ((ed_I0 (g := fun i j => i - j) (ed_var 4 rfl) (ed_var 13 rfl)).is (d' := .int ((a.r - maR a : Nat) : Int)) (congrArg PyData.int (by omega))) ea_nil))) rfl ⟨q.pw.1, q.pw.2, by show a.r - maR a ≤ 20000; omega⟩)

end
end KP

namespace KP
open PySem L2 DL MX
section
variable {P : Program} {w : World} {K : PySem.W.Frag} {mg : Str → Option Value} {base : Heap}
/-! ### the law's cells and digits -/
theorem absI_eq (x : Int) : (if x < 0 then -x else x) = (x.natAbs : Int) := by split <;> omega
theorem ed_pw {x n y : Int} {env : EnvD} (hn : 0 ≤ n ∧ n ≤ 1000000 ∧ x.natAbs < 2 ^ 64) (e : x ^ n.toNat = y) : EvD K (tOp (rI CPow fun i j => .int (i ^ j.toNat)) (tC (.int x)) (tC (.int n))) env (.int y) := (ed_I (ed_int x) (ed_int n) hn).is (congrArg PyData.int e)
theorem rng_map (n : Nat) : rngD 0 1 n = (List.range n).map fun k : Nat => PyData.int (k : Int) := by
  unfold rngD
  exact List.map_congr_left fun (k : Nat) _ => by rw [show (0 : Int) + (k : Int) * 1 = (k : Int) by omega]
theorem sc__law_cell : FnScope ["script", "k"] ["script", "k"] (defScope s__law_cell) := ⟨rfl, rfl, rfl, by decide +kernel, rfl, by decide +kernel, by decide +kernel⟩
def sp__law_cell (K : PySem.W.Frag) : Sp := SpD K (fun a : List Int × Int => [.scr a.1, .dat (.int a.2)]) (fun a => 0 ≤ a.2) (fun a => .int (absI (cellF a.1 a.2)))
theorem ok__law_cell {f : Addr} {fd : FuncData} (F : Fun K "_law_cell" "_law_cell" s__law_cell f fd) (m_len : mg "len" = none) (m_int : mg "int" = none) (m_abs : mg "abs" = none) : FnOk P w K mg base CX0 1 f fd ["script", "k"] (sp__law_cell K) := by
  have sc := sc__law_cell
  refine fn_D F sc (fun _ => rfl) fun cdv A outer s H E hr => ?_
  refine ⟨_, (pss_cons (ps_if (pt_cmpR op_lt (pv 1) (pe_callB (id := "len") (r := rLenS K) call_len_seq (by rfl) m_len PySem.boot_len (pa_cons (pv 0) pa_nil)) (nomark _)) (pss_one (ps_ret (pe_callB (id := "abs") call_abs (by rfl) m_abs (by decide +kernel) (pa_cons (pe_callTy (T := "int") call_int1 (by rfl) m_int (by decide +kernel) (pa_cons (pe_ix (r := rIxL K) ix_list (pv 0) (pv 1) (fun _ _ => rfl)) pa_nil)) pa_nil)))) pss_nil)
      (pss_one (ps_ret pe_int))), fun a ha => ?_⟩
  obtain ⟨ns, k⟩ := a
  have h0 : 0 ≤ k := ha
  by_cases hk : k < (ns.length : Int)
  · exact run_seqR (run_ifT ((et_test (ed_B0 (ed_var 1 rfl) (ed_lenR 0 rfl))).is (decide_eq_true hk)) (run_ret (ed_abs (ed_int1 (ed_ixR 0 rfl (ed_var 1 rfl) (cell_at h0 hk))))))
  · refine run_seq (run_ifF ((et_test (ed_B0 (ed_var 1 rfl) (ed_lenR 0 rfl))).is (decide_eq_false hk)) run_next) ?_
    show Run K E _ _ (.rt (.int (absI (cellF ns k))))
    rw [show cellF ns k = 0 by unfold cellF; rw [if_neg hk]]
    exact run_ret (ed_int 0)
theorem sc__law_digits : FnScope ["cell", "base", "most", "digits", "large", "k"] ["cell", "base", "most"] (defScope s__law_digits) := ⟨rfl, rfl, rfl, by decide +kernel, rfl, by decide +kernel, by decide +kernel⟩
structure DgOk (a : Int × Int × Nat) : Prop where
  c : 0 ≤ a.1
  b : 0 < a.2.1 ∧ a.2.1 ≤ 1000000
  n : a.2.2 ≤ 1000
def sp__law_digits (K : PySem.W.Frag) : Sp := SpN K (fun a : Int × Int × Nat => [.dat (.int a.1), .dat (.int a.2.1), .dat (.int (a.2.2 : Int))]) DgOk (fun a => (digF a.1 a.2.1 a.2.2).map PyData.int)
theorem ok__law_digits {f : Addr} {fd : FuncData} (F : Fun K "_law_digits" "_law_digits" s__law_digits f fd) (m_int : mg "int" = none) (m_range : mg "range" = none) : FnOk P w K mg base CX0 1 f fd ["cell", "base", "most"] (sp__law_digits K) := by
  have sc := sc__law_digits
  refine fn_N F sc (fun _ => rfl) fun cdv A outer s H E hr => ?_
  refine ⟨_, (pss_cons (ps_set (i := 3) sc.nd rfl (by first | exact Or.inl rfl | exact Or.inr rfl) (pe_lst pa_nil))
      (pss_cons (ps_set (i := 4) sc.nd rfl (by first | exact Or.inl rfl | exact Or.inr rfl) (pe_cmpR op_ge (pv 0) (pe_op op_pow pe_int pe_int) (nomark _)))
      (pss_cons (ps_for PassesOwn.never rfl (pi_range1 (by rfl) m_range (pa_cons (pv 2) pa_nil)) (pg_name (i := 5) sc.nd rfl (by first | exact Or.inl rfl | exact Or.inr rfl)) (pss_one (ps_if (pt_val (pv 4)) (pss_cons (ps_expr (pe_bm PySem.F.plainAttrs_list PySem.F.slot_list_append PySem.F.type_list_append mt_append (pv 3) (pa_cons (pe_op op_modN (pe_callTy (T := "int") call_int1 (by rfl) m_int (by decide +kernel) (pa_cons (pv 0) pa_nil)) (pv 1)) pa_nil)))
      (pss_one (ps_set (i := 0) sc.nd rfl (by first | exact Or.inl rfl | exact Or.inr rfl) (pe_op op_fdivZ (pv 0) (pv 1))))) (pss_one (ps_expr (pe_bm PySem.F.plainAttrs_list PySem.F.slot_list_append PySem.F.type_list_append mt_append (pv 3) (pa_cons (pe_op op_modN (pe_op op_modN (pe_callTy (T := "int") call_int1 (by rfl) m_int (by decide +kernel) (pa_cons (pe_op op_add (pe_op op_add (pe_op op_mulX (pv 0) pe_int) (pe_op op_mulX (pe_op op_mulX (pe_op op_add (pv 5) pe_int) (pe_op op_add (pv 5) pe_int)) pe_int)) (pe_op op_mulX (pe_op op_fdivZ (pv 0) pe_int) (pv 5))) pa_nil)) pe_int) (pv 1)) pa_nil)))))))
      (pss_one (ps_ret (pv 3)))))), fun a ha => ?_⟩
  obtain ⟨c, b, n⟩ := a
  have hc : 0 ≤ c := ha.c
  have hb : 0 < b ∧ b ≤ 1000000 := ha.b
  have hn : n ≤ 1000 := ha.n
  refine run_seq (run_setN (en_lst (ds := []) ea_nil)) ?_
  refine run_seq (run_set ((ed_B0 (ed_var 0 rfl) (ed_pw (y := 1000000000000000000) (by decide) (by decide))).is (d' := .bool (largeF c)) rfl)) ?_
  show Run K E _ _ (.rn ((digF c b n).map PyData.int))
  generalize hL : largeF c = L
  have hds : digF c b n = (List.range n).map (gdig L b c) := by unfold digF; rw [hL]
  rw [hds]
  refine run_seq (run_for (ts := [5]) (ds := (List.range n).map fun k : Nat => PyData.int (k : Int)) (fun i => [.dat (.int (gcel L b c i)), .dat (.int b), .dat (.int (n : Int)), .ml (((List.range i).map (gdig L b c)).map PyData.int), .dat (.bool L), .un]) (ei_is (ei_rng1 (ed_var 2 rfl) (by show -(2 ^ 62) ≤ (n : Int) ∧ (n : Int) < 2 ^ 62; omega)) (by show rngD 0 1 (n : Int).toNat = _; rw [Int.toNat_natCast]; exact rng_map n)) (Less.refl _) (fun i d hi hd => ⟨_, eg_name (by decide), ?_⟩)) ?_
  · rw [List.length_map, List.length_range] at hi
    obtain rfl : d = .int (i : Int) := by rw [List.getElem?_map, List.getElem?_range hi] at hd; exact (Option.some.inj hd).symm
    rw [List.range_succ, List.map_append, List.map_append, List.map_singleton, List.map_singleton]
    have hlen : (((List.range i).map (gdig L b c)).map PyData.int).length < 10000000 := by rw [List.length_map, List.length_map, List.length_range]; omega
    cases L with
    | true =>
      have e : gdig true b c i = (gcel true b c i).fmod b := rfl
      have e2 : gcel true b c (i + 1) = (gcel true b c i).fdiv b := rfl
      rw [e, e2]
      exact .n (run_ifT (et_B (ed_var 4 rfl)) (run_seq (run_append (i := 3) rfl (ed_I (ed_int1 (ed_var 0 rfl)) (ed_var 1 rfl) (by omega)) hlen) (run_set (ed_I (ed_var 0 rfl) (ed_var 1 rfl) ⟨by omega, PySem.Flt.log2_lt_of (by decide) (Bt.mono (n := 21) (bt_range (by omega) (by omega)) (by decide : 21 ≤ 9000))⟩)))) (.eq (.eq (.eq (.eq (.eq (.un .nil))))))
    | false =>
      have hc2 : c < 1000000000000000000 := by
        have := of_decide_eq_false hL; omega
      have e : gdig false b c i = ((c * 48271 + ((i : Int) + 1) * ((i : Int) + 5) * 69621 + c.fdiv 97 * (i : Int)).fmod 2147483647).fmod b := rfl
      rw [e, gcel_small, gcel_small]
      have b0 : Bt 60 c := bt_range (by omega) (by omega)
      have bi : Bt 20 (i : Int) := bt_range (by omega) (by omega)
      have bi1 : Bt 20 ((i : Int) + 1) := bt_range (by omega) (by omega)
      have bi5 : Bt 20 ((i : Int) + 5) := bt_range (by omega) (by omega)
      have bd : Bt 60 (c.fdiv 97) := by
        rw [Int.fdiv_eq_ediv_of_nonneg _ (by decide)]
        exact bt_range (by omega) (by omega)
      exact .n (run_ifF (et_B (ed_var 4 rfl)) (run_append (i := 3) rfl (ed_I (ed_I (ed_int1 (ed_I0 (ed_I0 (ed_I (ed_var 0 rfl) (ed_int 48271) (b0.mulx (m := 20) (by decide) (by decide))) (ed_I (ed_I (ed_I0 (ed_var 5 rfl) (ed_int 1)) (ed_I0 (ed_var 5 rfl) (ed_int 5)) (bi1.mulx bi5 (by decide))) (ed_int 69621) ((bi1.mul bi5).mulx (m := 20) (by decide) (by decide)))) (ed_I (ed_I (ed_var 0 rfl) (ed_int 97) ⟨by decide, by decide⟩) (ed_var 5 rfl) (bd.mulx bi (by decide))))) (ed_int 2147483647) (by decide)) (ed_var 1 rfl) (by omega)) hlen)) (.eq (.eq (.eq (.eq (.eq (.un .nil))))))
  · rw [List.length_map, List.length_range]
    exact run_retM 3 rfl
theorem sc__law_fraction : FnScope ["top", "low", "a", "b", "step"] ["top", "low"] (defScope s__law_fraction) := ⟨rfl, rfl, rfl, by decide +kernel, rfl, by decide +kernel, by decide +kernel⟩
structure FrOk (a : Int × Int) : Prop where
  l : 0 < a.2
  bl : Bt 1900 a.2
  bt : Bt 1900 a.1
def sp__law_fraction (K : PySem.W.Frag) : Sp := SpD K (fun a : Int × Int => [.dat (.int a.1), .dat (.int a.2)]) FrOk (fun a => encQ (Rat.divInt a.1 a.2))
theorem ok__law_fraction {f : Addr} {fd : FuncData} (F : Fun K "_law_fraction" "_law_fraction" s__law_fraction f fd) (m_abs : mg "abs" = none) (m_int : mg "int" = none) (m_range : mg "range" = none) : FnOk P w K mg base CX0 1 f fd ["top", "low"] (sp__law_fraction K) := by
  have sc := sc__law_fraction
  refine fn_D F sc (fun _ => rfl) fun cdv A outer s H E hr => ?_
  refine ⟨_, (pss_cons (ps_set (i := 2) sc.nd rfl (by first | exact Or.inl rfl | exact Or.inr rfl) (pe_callB (id := "abs") call_abs (by rfl) m_abs (by decide +kernel) (pa_cons (pv 0) pa_nil)))
      (pss_cons (ps_set (i := 3) sc.nd rfl (by first | exact Or.inl rfl | exact Or.inr rfl) (pv 1))
      (pss_cons (ps_for PassesOwn.never rfl (pi_range1 (by rfl) m_range (pa_cons pe_int pa_nil)) (pg_name (i := 4) sc.nd rfl (by first | exact Or.inl rfl | exact Or.inr rfl)) (pss_cons (ps_if (pt_cmpR op_eq (pv 3) pe_int (nomark _)) (pss_one ps_break) pss_nil)
      (pss_one (ps_par (i := 2) (j := 3) (by rfl) sc.nd rfl rfl (by decide) rfl rfl (pa_cons (pv 3) (pa_cons (pe_op op_modN (pe_callTy (T := "int") call_int1 (by rfl) m_int (by decide +kernel) (pa_cons (pv 2) pa_nil)) (pv 3)) pa_nil)) (by rfl)))))
      (pss_one (ps_ret (pe_tup (pa_cons (pe_op op_fdivZ (pv 0) (pv 2)) (pa_cons (pe_op op_fdivZ (pv 1) (pv 2)) pa_nil)))))))), fun a ha => ?_⟩
  obtain ⟨t, l⟩ := a
  have hl : 0 < l := ha.l
  have hbl : Bt 1900 l := ha.bl
  have hbt : Bt 1900 t := ha.bt
  have st : sz t.natAbs ≤ 1900 := by rw [← bits_sz]; exact PyProof.Rows.intBits_le hbt
  have sl : sz l.natAbs ≤ 1900 := by rw [← bits_sz]; exact PyProof.Rows.intBits_le hbl
  refine run_seq (run_set ((ed_abs (ed_var 0 rfl)).is (congrArg PyData.int (absI_eq t)))) ?_
  refine run_seq (run_set ((ed_var 1 rfl).is (d' := .int ((l.natAbs : Nat) : Int)) (congrArg PyData.int (by omega)))) ?_
  obtain ⟨k, h1, h2, h3, h4⟩ := eu_first t.natAbs l.natAbs
  refine run_seq (run_forX (ts := [4]) (ds := rngD 0 1 4000) (r := .nx [.dat (.int t), .dat (.int l), .dat (.int ((eu t.natAbs l.natAbs k).1 : Int)), .dat (.int ((eu t.natAbs l.natAbs k).2 : Int)), .dat (.int (0 + (k : Int) * 1))]) (fun i => [.dat (.int t), .dat (.int l), .dat (.int ((eu t.natAbs l.natAbs i).1 : Int)), .dat (.int ((eu t.natAbs l.natAbs i).2 : Int)), .un]) k (ei_rng1 (ed_int 4000) (by decide)) (.eq (.eq (.eq (.eq (.un .nil))))) (fun i d hi hd => ⟨_, (eg_name (by decide)), ?_⟩) (.inr ⟨_, _, rngD_at (by omega), (eg_name (by decide)), .inr ⟨_, rfl, ?_⟩⟩)) ?_
  · refine .n (run_seq (run_ifF ((et_test (ed_eqI (ed_var 3 rfl) (ed_int 0))).is (decide_eq_false (by have := h3 i hi; omega))) run_next) (run_par (d := .int ((eu t.natAbs l.natAbs i).2 : Int)) (e := .int (((eu t.natAbs l.natAbs i).1 : Int).fmod ((eu t.natAbs l.natAbs i).2 : Int))) (ed_var 3 rfl) (ed_I (ed_int1 (ed_var 2 rfl)) (ed_var 3 rfl) (by have := h3 i hi; omega)))) ?_
    have e : ((eu t.natAbs l.natAbs i).1 : Int).fmod ((eu t.natAbs l.natAbs i).2 : Int) = (((eu t.natAbs l.natAbs i).1 % (eu t.natAbs l.natAbs i).2 : Nat) : Int) := by
      rw [Int.fmod_eq_emod_of_nonneg _ (by omega)]; rfl
    rw [e]
    exact (.eq (.eq (.eq (.eq (.un .nil)))))
  · exact run_seqX (run_ifT ((et_test (ed_eqI (ed_var 3 rfl) (ed_int 0))).is (decide_eq_true (by rw [h2]; rfl))) run_break) (fun _ z => nomatch z)
  obtain ⟨e1, e2⟩ := divInt_parts (t := t) (l := l) (by omega)
  have hg : sgcd t l = ((eu t.natAbs l.natAbs k).1 : Int) := by unfold sgcd; rw [if_neg (by omega), h4]
  show Run K E _ _ (.rt (.tuple [.int (Rat.divInt t l).num, .int ((Rat.divInt t l).den : Int)]))
  rw [e1, e2, ← hg]
  have hd : ∀ x, CDivZ x (sgcd t l) := fun x => sgcd_div (by omega) (hbl.mono (by decide))
  exact run_ret (ed_tup (ds := [.int _, .int _]) (ea_d (ed_I (ed_var 0 rfl) (ed_var 2 rfl) (hd _)) (ea_d (ed_I (ed_var 1 rfl) (ed_var 2 rfl) (hd _)) ea_nil)))
theorem sc__law_spread : FnScope ["draw", "values", "parts", "k"] ["draw", "values"] (defScope s__law_spread) := ⟨rfl, rfl, rfl, by decide +kernel, rfl, by decide +kernel, by decide +kernel⟩
def sp__law_spread (K : PySem.W.Frag) : Sp := SpN K (fun a : Int × List Int => [.dat (.int a.1), .dat (.list (a.2.map PyData.int))]) (fun a => a.2.length ≤ 100) (fun a => (spD a.1 a.2).map encI)
theorem ok__law_spread {f : Addr} {fd : FuncData} (F : Fun K "_law_spread" "_law_spread" s__law_spread f fd) (m_len : mg "len" = none) (m_range : mg "range" = none) (m_sum : mg "sum" = none) (C__law_fraction : Callee P w K mg base CX0 1 "_law_fraction" ["top", "low"] (sp__law_fraction K)) : FnOk P w K mg base CX0 2 f fd ["draw", "values"] (sp__law_spread K) := by
  have sc := sc__law_spread
  refine fn_N F sc (fun _ => rfl) fun cdv A outer s H E hr => ?_
  refine ⟨_, (pss_cons (ps_set (i := 2) sc.nd rfl (by first | exact Or.inl rfl | exact Or.inr rfl) (pe_lc (own := [("k", 3)]) rfl sc.nd (pi_range1 (by rfl) m_range (pa_cons (pe_callB (id := "len") (r := rLenS K) call_len_seq (by rfl) m_len PySem.boot_len (pa_cons (pv 1) pa_nil)) pa_nil)) (blkOk_by (own := [("k", 3)]) (N := ["draw", "values", "parts", "k"]) (sc := defScope s__law_spread) (by decide +kernel)) (fun _ _ _ _ _ => (pg_name (i := 3) sc.nd rfl (Or.inl rfl))) (fun _ _ _ _ _ => pts_nil) (fun _ _ _ _ _ => (pe_op op_add pe_int (pe_op op_modN (pe_op op_fdivZ (pv 0) (pe_op op_add (pe_op op_mulX pe_int (pv 3)) pe_int)) pe_int)))))
      (pss_one (ps_ret (pe_lc (own := [("k", 3)]) rfl sc.nd (pi_range1 (by rfl) m_range (pa_cons (pe_callB (id := "len") (r := rLenS K) call_len_seq (by rfl) m_len PySem.boot_len (pa_cons (pv 1) pa_nil)) pa_nil)) (blkOk_by (own := [("k", 3)]) (N := ["draw", "values", "parts", "k"]) (sc := defScope s__law_spread) (by decide +kernel)) (fun _ _ _ _ _ => (pg_name (i := 3) sc.nd rfl (Or.inl rfl))) (fun _ _ _ _ _ => pts_nil) (fun _ _ _ _ _ => (pe_tup (pa_cons (pe_ix (r := rIxL K) ix_list (pv 1) (pv 3) (fun _ _ => rfl)) (pa_cons (pe_c C__law_fraction (hr.mono (by decide)) pass0 (pa_cons (pe_ix (r := rIxL K) ix_list (pv 2) (pv 3) (fun _ _ => rfl)) (pa_cons (pe_callB (id := "sum") (r := rSum K) (cr_sum rfl) (by rfl) m_sum (by decide +kernel) (pa_cons (pv 2) pa_nil)) pa_nil))) pa_nil)))))))), fun a ha => ?_⟩
  obtain ⟨d, vs⟩ := a
  have hn : vs.length ≤ 100 := ha
  have hr1 : ∀ ev : EnvD, ev[1]? = some (.dat (.list (vs.map PyData.int))) → EvI K (iRng1 (tCons (tCB (rLenS K) (tCons (tVar 1) tNil)) tNil)) ev ((List.range vs.length).map fun k : Nat => PyData.int (k : Int)) := fun ev h => ei_is (ei_rng1 (ed_lenl (ed_var 1 h).l) (by rw [List.length_map]; omega)) (by rw [List.length_map, Int.toNat_natCast]; exact rng_map vs.length)
  refine run_seq (run_setN ((en_lc (hr1 _ rfl) (ts := [3]) (by decide) (lc_map (fun k : Nat => PyData.int (k : Int)) (fun k => PyData.int (partD d k)) fun k hk => ⟨_, eg_name (by decide), et_yes, ed_I0 (ed_int 1) (ed_I (ed_I (ed_var 0 rfl) (ed_I0 (ed_I (ed_int 3) (ed_var 3 rfl) (Bt.mulx (n := 20) (m := 20) (by decide) (bt_range (by omega) (by have := List.mem_range.mp hk; omega)) (by decide))) (ed_int 2)) ⟨by omega, PySem.Flt.log2_lt_of (by decide) (Bt.mono (n := 20) (bt_range (by omega) (by have := List.mem_range.mp hk; omega)) (by decide : 20 ≤ 9000))⟩) (ed_int 4) (by decide))⟩) (by rw [List.length_map, List.length_range]; omega)).is (d' := (partsD d vs.length).map PyData.int) (by unfold partsD; rw [List.map_map]; rfl))) ?_
  have hs := psum_bd d vs.length
  show Run K E _ _ (.rn (((List.range vs.length).map fun k => (vs.getD k 0, Rat.divInt (partD d k) (partsD d vs.length).sum)).map encI))
  rw [List.map_map]
  refine run_retN (en_lc (hr1 _ rfl) (ts := [3]) (by decide) (lc_map (fun k : Nat => PyData.int (k : Int)) (fun k => encI (vs.getD k 0, Rat.divInt (partD d k) (partsD d vs.length).sum)) fun k hk => ⟨_, eg_name (by decide), et_yes, ?_⟩) (by rw [List.length_map, List.length_range]; omega))
  have hk := List.mem_range.mp hk
  have hp := partD_bd d k
  have hv : vs[k]? = some (vs.getD k 0) := by rw [List.getD_eq_getElem?_getD, List.getElem?_eq_getElem hk]; rfl
  have hpk : (partsD d vs.length)[k]? = some (partD d k) := by unfold partsD; rw [List.getElem?_map, List.getElem?_range hk]; rfl
  exact ed_tup (ds := [.int (vs.getD k 0), encQ (Rat.divInt (partD d k) (partsD d vs.length).sum)]) (ea_d (ed_ixl (ed_var 1 rfl).l (ed_var 3 rfl) (atI_d rfl hv)) (ea_d (ed_call (x := (partD d k, (partsD d vs.length).sum)) (ea_d (ed_ixl (el_var 2 rfl) (ed_var 3 rfl) (atI_d rfl hpk)) (ea_d (ed_sum (el_var 2 rfl)) ea_nil)) rfl ⟨by show 0 < (partsD d vs.length).sum; omega, Bt.mono (n := 20) (bt_range (by show _ < (partsD d vs.length).sum; omega) (by show (partsD d vs.length).sum < _; omega)) (by decide), Bt.mono (n := 20) (bt_range (by show _ < partD d k; omega) (by show partD d k < _; omega)) (by decide)⟩) ea_nil))

end
end KP

namespace KP
open PySem L2 DL MX
section
variable {P : Program} {w : World} {K : PySem.W.Frag} {mg : Str → Option Value} {base : Heap}
/-! ### the law's house (second kind) -/
theorem sc__law_house : FnScope ["first", "second", "sizes", "draws", "full", "great", "count", "weathers", "k", "lines", "j", "draw", "low", "values", "others", "premium", "treaties", "layers"] ["first", "second"] (defScope s__law_house) := ⟨rfl, rfl, rfl, by decide +kernel, rfl, by decide +kernel, by decide +kernel⟩
def sp__law_house (K : PySem.W.Frag) : Sp := SpD K (fun a : Int × Int => [.dat (.int a.1), .dat (.int a.2)]) (fun a => 0 ≤ a.1 ∧ 0 ≤ a.2) (fun a => encH (houseG a.1 a.2))
theorem cdk (x : Int) {n : Nat} (h : n ≤ 100000) : CDivZ x ((n : Int) + 1) := ⟨by omega, PySem.Flt.log2_lt_of (by decide) (Bt.mono (n := 20) (bt_range (by omega) (by omega)) (by decide : 20 ≤ 9000))⟩
theorem mod16 (x : Nat) : ((x : Nat) : Int).fmod 16 = ((x % 16 : Nat) : Int) := by rw [Int.fmod_eq_emod_of_nonneg _ (by decide)]; rfl
theorem ok__law_house {f : Addr} {fd : FuncData} (F : Fun K "_law_house" "_law_house" s__law_house f fd) (m_range : mg "range" = none) (C__law_digits : Callee P w K mg base CX0 1 "_law_digits" ["cell", "base", "most"] (sp__law_digits K)) (C__law_fraction : Callee P w K mg base CX0 1 "_law_fraction" ["top", "low"] (sp__law_fraction K)) (C__law_spread : Callee P w K mg base CX0 2 "_law_spread" ["draw", "values"] (sp__law_spread K)) :
    FnOk P w K mg base CX0 3 f fd ["first", "second"] (sp__law_house K) := by
  have sc := sc__law_house
  refine fn_D F sc (fun _ => rfl) fun cdv A outer s H E hr => ?_
  refine ⟨_, (pss_cons (ps_set (i := 2) sc.nd rfl (by first | exact Or.inl rfl | exact Or.inr rfl) (pe_c C__law_digits (hr.mono (by decide)) pass0 (pa_cons (pv 0) (pa_cons pe_int (pa_cons pe_int pa_nil)))))
      (pss_cons (ps_set (i := 3) sc.nd rfl (by first | exact Or.inl rfl | exact Or.inr rfl) (pe_c C__law_digits (hr.mono (by decide)) pass0 (pa_cons (pv 1) (pa_cons pe_int (pa_cons pe_int pa_nil)))))
      (pss_cons (ps_set (i := 4) sc.nd rfl (by first | exact Or.inl rfl | exact Or.inr rfl) (pe_cmpR op_eq (pe_op op_modN (pe_ix (r := rIxL K) ix_list (pv 2) pe_int (fun _ _ => rfl)) pe_int) pe_int (nomark _)))
      (pss_cons (ps_set (i := 5) sc.nd rfl (by first | exact Or.inl rfl | exact Or.inr rfl) (pe_cmpR op_eq (pe_op op_modN (pe_ix (r := rIxL K) ix_list (pv 2) pe_int (fun _ _ => rfl)) pe_int) pe_int (nomark _)))
      (pss_cons (ps_set (i := 6) sc.nd rfl (by first | exact Or.inl rfl | exact Or.inr rfl) (pe_ifExp (pt_val (pv 4)) pe_int (pe_op op_add pe_int (pe_op op_modN (pe_ix (r := rIxL K) ix_list (pv 2) pe_int (fun _ _ => rfl)) pe_int))))
      (pss_cons (ps_if (pt_val (pv 5)) (pss_one (ps_set (i := 6) sc.nd rfl (by first | exact Or.inl rfl | exact Or.inr rfl) pe_int)) pss_nil)
      (pss_cons (ps_set (i := 7) sc.nd rfl (by first | exact Or.inl rfl | exact Or.inr rfl) (pe_lst pa_nil))
      (pss_cons (ps_for PassesOwn.never rfl (pi_range1 (by rfl) m_range (pa_cons (pv 6) pa_nil)) (pg_name (i := 8) sc.nd rfl (by first | exact Or.inl rfl | exact Or.inr rfl)) (pss_cons (ps_set (i := 9) sc.nd rfl (by first | exact Or.inl rfl | exact Or.inr rfl) (pe_lst pa_nil))
      (pss_cons (ps_for PassesOwn.never rfl (pi_range1 (by rfl) m_range (pa_cons (pe_ifExp (pt_val (pv 4)) (pe_op op_sub pe_int (pe_op op_modN (pv 8) pe_int)) (pe_op op_modN (pe_op op_fdivZ (pe_ix (r := rIxL K) ix_list (pv 2) pe_int (fun _ _ => rfl)) (pe_op op_add (pv 8) pe_int)) pe_int)) pa_nil)) (pg_name (i := 10) sc.nd rfl (by first | exact Or.inl rfl | exact Or.inr rfl)) (pss_cons (ps_set (i := 11) sc.nd rfl (by first | exact Or.inl rfl | exact Or.inr rfl) (pe_ix (r := rIxL K) ix_list (pv 3) (pe_op op_modN (pe_op op_add (pe_op op_mulX pe_int (pv 8)) (pv 10)) pe_int) (fun _ _ => rfl)))
      (pss_cons (ps_set (i := 12) sc.nd rfl (by first | exact Or.inl rfl | exact Or.inr rfl) (pe_op op_modN (pv 11) pe_int))
      (pss_cons (ps_set (i := 13) sc.nd rfl (by first | exact Or.inl rfl | exact Or.inr rfl) (pe_lst (pa_cons (pv 12) (pa_cons (pe_op op_add (pe_op op_add (pv 12) pe_int) (pe_op op_modN (pe_op op_fdivZ (pv 11) pe_int) pe_int)) pa_nil))))
      (pss_cons (ps_if (PW.pt (pw_and (pt_cmpR op_eq (pe_op op_modN (pe_op op_fdivZ (pv 11) pe_int) pe_int) pe_int (nomark _)) (pw_and1 (pt_not (pt_val (pv 4)))))) (pss_one (ps_expr (pe_bm PySem.F.plainAttrs_list PySem.F.slot_list_append PySem.F.type_list_append mt_append (pv 13) (pa_cons (pe_op op_add (pe_op op_add (pe_ix (r := rIxL K) ix_list (pv 13) pe_int (fun _ _ => rfl)) pe_int) (pe_op op_modN (pe_op op_fdivZ (pv 11) pe_int) pe_int)) pa_nil)))) pss_nil)
      (pss_cons (ps_if (PW.pt (pw_and (pt_val (pv 5)) (pw_and1 (pt_cmpR op_eq (pv 10) pe_int (nomark _))))) (pss_one (ps_expr (pe_bm PySem.F.plainAttrs_list PySem.F.slot_list_append PySem.F.type_list_append mt_append (pv 13) (pa_cons (pe_op op_add pe_int (pe_op op_modN (pv 11) pe_int)) pa_nil)))) pss_nil)
      (pss_one (ps_expr (pe_bm PySem.F.plainAttrs_list PySem.F.slot_list_append PySem.F.type_list_append mt_append (pv 9) (pa_cons (pe_c C__law_spread (hr.mono (by decide)) pass0 (pa_cons (pv 11) (pa_cons (pv 13) pa_nil))) pa_nil))))))))))
      (pss_cons (ps_setLc (i := 14) (own := [("j", 10)]) rfl sc.nd rfl rfl (sw_true rfl rfl rfl (by decide +kernel)) (pi_range1 (by rfl) m_range (pa_cons (pv 6) pa_nil)) (blkOk_by (own := [("j", 10)]) (N := ["first", "second", "sizes", "draws", "full", "great", "count", "weathers", "k", "lines", "j", "draw", "low", "values", "others", "premium", "treaties", "layers"]) (sc := defScope s__law_house) (by decide +kernel)) (fun _ _ _ _ _ => (pg_name (i := 10) sc.nd rfl (Or.inl rfl))) (fun _ _ _ _ _ => (pts_one (PW.pt (pw_or (pt_cmpR op_gt (pe_op op_modN (pe_op op_fdivZ (pe_ix (r := rIxL K) ix_list (pv 3) (pe_op op_add pe_int (pv 8)) (fun _ _ => rfl)) (pe_op op_add (pv 10) pe_int)) pe_int) pe_int (nomark _)) (pw_or1 (pt_cmpR op_eq (pv 10) (pe_op op_modN (pe_ix (r := rIxL K) ix_list (pv 3) (pe_op op_add pe_int (pv 8)) (fun _ _ => rfl)) (pv 6)) (nomark _))))))) (fun _ _ _ _ _ => (pv 10)))
      (pss_cons (ps_set (i := 15) sc.nd rfl (by first | exact Or.inl rfl | exact Or.inr rfl) (pe_op op_modN (pe_op op_fdivZ (pe_ix (r := rIxL K) ix_list (pv 2) pe_int (fun _ _ => rfl)) (pe_op op_add (pv 8) pe_int)) pe_int))
      (pss_cons (ps_if (pt_cmpR op_eq (pe_op op_modN (pe_ix (r := rIxL K) ix_list (pv 2) pe_int (fun _ _ => rfl)) pe_int) pe_int (nomark _)) (pss_one (ps_set (i := 15) sc.nd rfl (by first | exact Or.inl rfl | exact Or.inr rfl) (pe_op op_modN (pe_op op_fdivZ (pe_ix (r := rIxL K) ix_list (pv 2) pe_int (fun _ _ => rfl)) (pe_op op_add (pv 8) pe_int)) pe_int))) pss_nil)
      (pss_one (ps_expr (pe_bm PySem.F.plainAttrs_list PySem.F.slot_list_append PySem.F.type_list_append mt_append (pv 7) (pa_cons (pe_tup (pa_cons (pv 15) (pa_cons (pv 9) (pa_cons (pe_c C__law_spread (hr.mono (by decide)) pass0 (pa_cons (pe_ix (r := rIxL K) ix_list (pv 3) (pe_op op_add pe_int (pv 8)) (fun _ _ => rfl)) (pa_cons (pv 14) pa_nil))) pa_nil)))) pa_nil))))))))))
      (pss_cons (ps_set (i := 16) sc.nd rfl (by first | exact Or.inl rfl | exact Or.inr rfl) (pe_lst pa_nil))
      (pss_cons (ps_for PassesOwn.never rfl (pi_range1 (by rfl) m_range (pa_cons (pe_ifExp (pt_val (pv 4)) pe_int (pe_op op_add pe_int (pe_op op_modN (pe_ix (r := rIxL K) ix_list (pv 2) pe_int (fun _ _ => rfl)) pe_int))) pa_nil)) (pg_name (i := 8) sc.nd rfl (by first | exact Or.inl rfl | exact Or.inr rfl)) (pss_cons (ps_set (i := 11) sc.nd rfl (by first | exact Or.inl rfl | exact Or.inr rfl) (pe_ix (r := rIxL K) ix_list (pv 3) (pe_op op_modN (pe_op op_add pe_int (pv 8)) pe_int) (fun _ _ => rfl)))
      (pss_cons (ps_set (i := 17) sc.nd rfl (by first | exact Or.inl rfl | exact Or.inr rfl) (pe_lst pa_nil))
      (pss_cons (ps_for PassesOwn.never rfl (pi_range1 (by rfl) m_range (pa_cons (pe_ifExp (PW.pt (pw_and (pt_val (pv 4)) (pw_and1 (pt_cmpR op_eq (pv 8) pe_int (nomark _))))) pe_int pe_int) pa_nil)) (pg_name (i := 10) sc.nd rfl (by first | exact Or.inl rfl | exact Or.inr rfl)) (pss_cons (ps_set (i := 11) sc.nd rfl (by first | exact Or.inl rfl | exact Or.inr rfl) (pe_op op_add (pv 11) (pe_op op_mulX pe_int (pv 10))))
      (pss_one (ps_if (pt_cmpR op_eq (pe_op op_modN (pv 11) pe_int) pe_int (nomark _)) (pss_one (ps_expr (pe_bm PySem.F.plainAttrs_list PySem.F.slot_list_append PySem.F.type_list_append mt_append (pv 17) (pa_cons (pe_tup (pa_cons pe_str (pa_cons (pe_op op_modN (pe_op op_fdivZ (pv 11) pe_int) pe_int) pa_nil))) pa_nil)))) (pss_one (ps_if (pt_cmpR op_eq (pe_op op_modN (pv 11) pe_int) pe_int (nomark _)) (pss_one (ps_expr (pe_bm PySem.F.plainAttrs_list PySem.F.slot_list_append PySem.F.type_list_append mt_append (pv 17) (pa_cons (pe_tup (pa_cons pe_str (pa_cons (pe_c C__law_fraction (hr.mono (by decide)) pass0 (pa_cons (pe_op op_modN (pe_op op_fdivZ (pv 11) pe_int) pe_int) (pa_cons pe_int pa_nil))) pa_nil))) pa_nil)))) (pss_one (ps_if (pt_cmpR op_eq (pe_op op_modN (pv 11) pe_int) pe_int (nomark _)) (pss_one (ps_expr (pe_bm PySem.F.plainAttrs_list PySem.F.slot_list_append PySem.F.type_list_append mt_append (pv 17) (pa_cons (pe_tup (pa_cons pe_str (pa_cons (pe_op op_modN (pe_op op_fdivZ (pv 11) pe_int) pe_int) (pa_cons (pe_op op_add (pe_op op_modN (pe_op op_fdivZ (pv 11) pe_int) pe_int) (pe_op op_modN (pe_op op_fdivZ (pv 11) pe_int) pe_int)) pa_nil)))) pa_nil)))) pss_nil))))))))
      (pss_one (ps_expr (pe_bm PySem.F.plainAttrs_list PySem.F.slot_list_append PySem.F.type_list_append mt_append (pv 16) (pa_cons (pe_tup (pa_cons (pe_op op_modN (pe_op op_fdivZ (pv 11) pe_int) pe_int) (pa_cons (pv 17) pa_nil))) pa_nil))))))))
      (pss_cons (ps_if (pt_val (pv 4)) (pss_one (ps_asg (pe_tup (pa_cons pe_int (pa_cons (pe_ix (r := rIxT K) ix_tup (pe_ix (r := rIxL K) ix_list (pv 16) pe_int (fun _ _ => rfl)) pe_int (fun _ _ => rfl)) pa_nil))) (pg_sub (pv 16) pe_int set_list))) pss_nil)
      (pss_one (ps_ret (pe_tup (pa_cons (pv 7) (pa_cons (pv 16) pa_nil)))))))))))))))), fun ac hac => ?_⟩
  obtain ⟨a, c⟩ := ac
  have ha : 0 ≤ a := hac.1
  have hc : 0 ≤ c := hac.2
  refine run_seq (run_setN (en_call (x := ((a, 2520, 8) : Int × Int × Nat)) (ea_d (ed_var 0 rfl) (ea_d (ed_int 2520) (ea_d (ed_int 8) ea_nil))) rfl ⟨ha, ⟨by show (0 : Int) < 2520; decide, by show (2520 : Int) ≤ 1000000; decide⟩, by show 8 ≤ 1000; decide⟩)) (run_pub 2 rfl ?_)
  refine run_seq (run_setN (en_call (x := ((c, 27720, 16) : Int × Int × Nat)) (ea_d (ed_var 1 rfl) (ea_d (ed_int 27720) (ea_d (ed_int 16) ea_nil))) rfl ⟨hc, ⟨by show (0 : Int) < 27720; decide, by show (27720 : Int) ≤ 1000000; decide⟩, by show 16 ≤ 1000; decide⟩)) (run_pub 3 rfl ?_)
  show Run K E _ [.dat (.int a), .dat (.int c), .dat (.list ((digF a 2520 8).map PyData.int)), .dat (.list ((digF c 27720 16).map PyData.int)), .un, .un, .un, .un, .un, .un, .un, .un, .un, .un, .un, .un, .un, .un] (.rt (encH (hsG (digF a 2520 8) (digF c 27720 16))))
  have hS := dig_of (base := 2520) (by decide) a 8
  have hD := dig_of (base := 27720) (by decide) c 16
  generalize digF a 2520 8 = S at hS ⊢
  generalize digF c 27720 16 = D at hD ⊢
  refine run_seq (run_set ((ed_eqI (ed_I (ed_ixl (ed_var 2 rfl).l (ed_int 4) (hS.ix 4 rfl (by decide))) (ed_int 10) (by decide)) (ed_int 9)).is (d' := .bool (fullG S)) rfl)) ?_
  refine run_seq (run_set ((ed_eqI (ed_I (ed_ixl (ed_var 2 rfl).l (ed_int 4) (hS.ix 4 rfl (by decide))) (ed_int 10) (by decide)) (ed_int 8)).is (d' := .bool (greatG S)) rfl)) ?_
  refine run_seq (run_set (d := .int (count0 S)) (ed_if (et_B (ed_var 4 rfl)) (fun hb => (ed_int 4).is (by unfold count0; rw [if_pos hb])) (fun hb => (ed_I0 (ed_int 1) (ed_I (ed_ixl (ed_var 2 rfl).l (ed_int 0) (hS.ix 0 rfl (by decide))) (ed_int 3) (by decide))).is (by unfold count0; rw [if_neg (by rw [hb]; decide)])))) ?_
  refine run_seq (e1 := [.dat (.int a), .dat (.int c), .dat (.list (S.map PyData.int)), .dat (.list (D.map PyData.int)), .dat (.bool (fullG S)), .dat (.bool (greatG S)), .dat (.int (countG S)), .un, .un, .un, .un, .un, .un, .un, .un, .un, .un, .un]) (run_if (et_B (ed_var 5 rfl)) (fun hb => ?_) (fun hb => ?_)) ?_
  · rw [show countG S = 1 by unfold countG; rw [if_pos hb]]
    exact run_set (ed_int 1)
  · rw [show countG S = count0 S by unfold countG; rw [if_neg (by rw [hb]; decide)]]
    exact run_next
  have hcb := countG_bd S
  refine run_seq (run_setN (en_lst (ds := []) ea_nil)) ?_
  refine run_seq (run_for (ts := [8]) (ds := (List.range (countG S).toNat).map fun k : Nat => PyData.int (k : Int)) (fun i => [.dat (.int a), .dat (.int c), .dat (.list (S.map PyData.int)), .dat (.list (D.map PyData.int)), .dat (.bool (fullG S)), .dat (.bool (greatG S)), .dat (.int (countG S)), .ml (((List.range i).map (wtG S D)).map encW), .un, .un, .un, .un, .un, .un, .un, .un, .un, .un]) (ei_is (ei_rng1 (ed_var 6 rfl) (by omega)) (rng_map _)) (Less.refl _) (fun i d hi hd => ⟨_, eg_name (by decide), ?_⟩)) ?_
  · rw [List.length_map, List.length_range] at hi
    obtain rfl : d = .int (i : Int) := by rw [List.getElem?_map, List.getElem?_range hi] at hd; exact (Option.some.inj hd).symm
    have hi4 : i < 4 := by omega
    have hnl := nlG_bd S i
    rw [List.range_succ, List.map_append, List.map_append, List.map_singleton, List.map_singleton]
    refine Turn1.n (e1 := [.dat (.int a), .dat (.int c), .dat (.list (S.map PyData.int)), .dat (.list (D.map PyData.int)), .dat (.bool (fullG S)), .dat (.bool (greatG S)), .dat (.int (countG S)), .ml (((List.range i).map (wtG S D)).map encW ++ [encW (wtG S D i)]), .dat (.int (i : Int)), .dat (.list (((List.range (nlG S i).toNat).map (lineG S D i)).map encS)), .un, .un, .un, .un, .dat (.list ((othersG (countG S) (D.getD (10 + i) 0)).map PyData.int)), .dat (.int (premG S i)), .un, .un]) ?_ (.eq (.eq (.eq (.eq (.eq (.eq (.eq (.eq (.un (.un (.un (.un (.un (.un (.un (.un (.un (.un .nil))))))))))))))))))
    refine run_seq (run_setN (en_lst (ds := []) ea_nil)) ?_
    refine run_seq (run_for (ts := [10]) (ds := (List.range (nlG S i).toNat).map fun k : Nat => PyData.int (k : Int)) (fun j => [.dat (.int a), .dat (.int c), .dat (.list (S.map PyData.int)), .dat (.list (D.map PyData.int)), .dat (.bool (fullG S)), .dat (.bool (greatG S)), .dat (.int (countG S)), .ml (((List.range i).map (wtG S D)).map encW), .dat (.int (i : Int)), .ml (((List.range j).map (lineG S D i)).map encS), .un, .un, .un, .un, .un, .un, .un, .un]) (ei_is (ei_rng1 (j := nlG S i) (ed_if (et_B (ed_var 4 rfl)) (fun hb => (ed_I0 (ed_int 3) (ed_I (ed_var 8 rfl) (ed_int 2) (by decide))).is (by unfold nlG; rw [if_pos hb])) (fun hb => (ed_I (ed_I (ed_ixl (ed_var 2 rfl).l (ed_int 1) (hS.ix 1 rfl (by decide))) (ed_I0 (ed_var 8 rfl) (ed_int 1)) (cdk _ (by omega))) (ed_int 3) (by decide)).is (by unfold nlG; rw [if_neg (by rw [hb]; decide)]))) (by omega)) (rng_map _)) (Less.refl _) (fun j d hj hd => ⟨_, eg_name (by decide), ?_⟩)) ?_
    · rw [List.length_map, List.length_range] at hj
      obtain rfl : d = .int (j : Int) := by rw [List.getElem?_map, List.getElem?_range hj] at hd; exact (Option.some.inj hd).symm
      rw [List.range_succ, List.map_append, List.map_append, List.map_singleton, List.map_singleton]
      have hlen : (((List.range j).map (lineG S D i)).map encS).length < 10000000 := by rw [List.length_map, List.length_map, List.length_range]; omega
      have hx : (3 * (i : Int) + (j : Int)).fmod 16 = (((3 * i + j) % 16 : Nat) : Int) := by rw [← mod16]; congr 1
      have hat := hD.ix ((3 * i + j) % 16) hx (by omega)
      have hlg : lineG S D i j = spD (D.getD ((3 * i + j) % 16) 0) (dvC (fullG S) (greatG S) (D.getD ((3 * i + j) % 16) 0) j) := rfl
      rw [hlg]
      generalize D.getD ((3 * i + j) % 16) 0 = d at hat ⊢
      have hv2 := dvB_len (fullG S) d
      have hv3 := dvC_len (fullG S) (greatG S) d j
      refine Turn1.n (e1 := [.dat (.int a), .dat (.int c), .dat (.list (S.map PyData.int)), .dat (.list (D.map PyData.int)), .dat (.bool (fullG S)), .dat (.bool (greatG S)), .dat (.int (countG S)), .ml (((List.range i).map (wtG S D)).map encW), .dat (.int (i : Int)), .ml (((List.range j).map (lineG S D i)).map encS ++ [encS (spD d (dvC (fullG S) (greatG S) d j))]), .dat (.int (j : Int)), .dat (.int d), .dat (.int (d.fmod 2)), .dat (.list ((dvC (fullG S) (greatG S) d j).map PyData.int)), .un, .un, .un, .un]) ?_ (.eq (.eq (.eq (.eq (.eq (.eq (.eq (.eq (.eq (.eq (.un (.un (.un (.un (.un (.un (.un (.un .nil))))))))))))))))))
      refine run_seq (run_set (ed_ixl (ed_var 3 rfl).l (ed_I (ed_I0 (ed_I (ed_int 3) (ed_var 8 rfl) (Bt.mulx (n := 20) (m := 20) (by decide) (bt_range (by omega) (by omega)) (by decide))) (ed_var 10 rfl)) (ed_int 16) (by decide)) hat)) ?_
      refine run_seq (run_set (ed_I (ed_var 11 rfl) (ed_int 2) (by decide))) ?_
      refine run_seq (run_setN (en_lst (ds := [.int (d.fmod 2), .int (d.fmod 2 + 1 + (d.fdiv 2).fmod 3)]) (ea_d (ed_var 12 rfl) (ea_d (ed_I0 (ed_I0 (ed_var 12 rfl) (ed_int 1)) (ed_I (ed_I (ed_var 11 rfl) (ed_int 2) ⟨by decide, by decide⟩) (ed_int 3) (by decide))) ea_nil)))) ?_
      refine run_seq (e1 := [.dat (.int a), .dat (.int c), .dat (.list (S.map PyData.int)), .dat (.list (D.map PyData.int)), .dat (.bool (fullG S)), .dat (.bool (greatG S)), .dat (.int (countG S)), .ml (((List.range i).map (wtG S D)).map encW), .dat (.int (i : Int)), .ml (((List.range j).map (lineG S D i)).map encS), .dat (.int (j : Int)), .dat (.int d), .dat (.int (d.fmod 2)), .ml ((dvB (fullG S) d).map PyData.int), .un, .un, .un, .un]) (run_if (b := decide ((d.fdiv 6).fmod 2 = 1) && !fullG S) (et_and (et_test (ed_eqI (ed_I (ed_I (ed_var 11 rfl) (ed_int 6) ⟨by decide, by decide⟩) (ed_int 2) (by decide)) (ed_int 1))) (fun _ => et_not (et_B (ed_var 4 rfl)))) (fun hb => ?_) (fun hb => ?_)) ?_
      · rw [show dvB (fullG S) d = dvA d ++ [d.fmod 2 + 1 + (d.fdiv 2).fmod 3 + 1 + (d.fdiv 12).fmod 4] by unfold dvB; rw [if_pos hb]]
        exact run_append (i := 13) (ds := (dvA d).map PyData.int) (d := .int (d.fmod 2 + 1 + (d.fdiv 2).fmod 3 + 1 + (d.fdiv 12).fmod 4)) rfl (ed_I0 (ed_I0 (ed_ixl (z := .int (d.fmod 2 + 1 + (d.fdiv 2).fmod 3)) (el_var (ds := (dvA d).map PyData.int) 13 rfl) (ed_int 1) rfl) (ed_int 1)) (ed_I (ed_I (ed_var 11 rfl) (ed_int 12) ⟨by decide, by decide⟩) (ed_int 4) (by decide))) (by show 2 < 10000000; decide)
      · rw [show dvB (fullG S) d = dvA d by unfold dvB; rw [if_neg (by rw [hb]; decide)]]
        exact run_next
      refine run_seq (e1 := [.dat (.int a), .dat (.int c), .dat (.list (S.map PyData.int)), .dat (.list (D.map PyData.int)), .dat (.bool (fullG S)), .dat (.bool (greatG S)), .dat (.int (countG S)), .ml (((List.range i).map (wtG S D)).map encW), .dat (.int (i : Int)), .ml (((List.range j).map (lineG S D i)).map encS), .dat (.int (j : Int)), .dat (.int d), .dat (.int (d.fmod 2)), .ml ((dvC (fullG S) (greatG S) d j).map PyData.int), .un, .un, .un, .un]) (run_if (b := greatG S && decide ((j : Int) = 0)) (et_and (et_B (ed_var 5 rfl)) (fun _ => et_test (ed_eqI (ed_var 10 rfl) (ed_int 0)))) (fun hb => ?_) (fun hb => ?_)) ?_
      · rw [show dvC (fullG S) (greatG S) d j = dvB (fullG S) d ++ [20 + d.fmod 41] by unfold dvC; rw [if_pos hb], List.map_append]
        exact run_append (i := 13) rfl (ed_I0 (ed_int 20) (ed_I (ed_var 11 rfl) (ed_int 41) (by decide))) (by rw [List.length_map]; omega)
      · rw [show dvC (fullG S) (greatG S) d j = dvB (fullG S) d by unfold dvC; rw [if_neg (by rw [hb]; decide)]]
        exact run_next
      refine run_pub 13 rfl ?_
      exact run_append (i := 9) rfl (EvN.d (en_call (x := ((d, dvC (fullG S) (greatG S) d j) : Int × List Int)) (ea_d (ed_var 11 rfl) (ea_d (ed_var 13 rfl) ea_nil)) rfl (by show (dvC (fullG S) (greatG S) d j).length ≤ 100; omega))) hlen
    rw [List.length_map, List.length_range]
    refine run_pub 9 rfl ?_
    have hat := hD.ix (i := 10 + (i : Int)) (10 + i) (by omega) (by omega)
    have hwt : wtG S D i = ⟨premG S i, (List.range (nlG S i).toNat).map (lineG S D i), spD (D.getD (10 + i) 0) (othersG (countG S) (D.getD (10 + i) 0))⟩ := rfl
    rw [hwt]
    generalize D.getD (10 + i) 0 = d at hat ⊢
    have hol := othersG_len (countG S) d hcb.2
    refine run_seq (run_setN ((en_lc (ei_is (ei_rng1 (ed_var 6 rfl) (by omega)) (rng_map _)) (ts := [10]) (by decide) (lc_filter (fun k : Nat => PyData.int (k : Int)) (fun k => if otherB (countG S) d k = true then some (PyData.int (k : Int)) else none) fun k hk => ⟨_, eg_name (by decide), ?_⟩) (by rw [List.length_map, List.length_range]; omega)).is (d' := (othersG (countG S) d).map PyData.int) (by unfold othersG; rw [List.map_filterMap]; congr 1; funext k; split <;> rfl))) (run_pub 14 rfl ?_)
    · have hk := List.mem_range.mp hk
      by_cases ho : otherB (countG S) d k = true
      · exact .inl ⟨_, if_pos ho, (et_or (et_test (ed_B0 (ed_I (ed_I (ed_ixl (ed_var 3 rfl).l (ed_I0 (ed_int 10) (ed_var 8 rfl)) hat) (ed_I0 (ed_var 10 rfl) (ed_int 1)) (cdk _ (by omega))) (ed_int 3) (by decide)) (ed_int 0))) (fun _ => et_test (ed_eqI (ed_var 10 rfl) (ed_I (ed_ixl (ed_var 3 rfl).l (ed_I0 (ed_int 10) (ed_var 8 rfl)) hat) (ed_var 6 rfl) (by omega))))).is ho, ed_var 10 rfl⟩
      · exact .inr ⟨if_neg ho, (et_or (et_test (ed_B0 (ed_I (ed_I (ed_ixl (ed_var 3 rfl).l (ed_I0 (ed_int 10) (ed_var 8 rfl)) hat) (ed_I0 (ed_var 10 rfl) (ed_int 1)) (cdk _ (by omega))) (ed_int 3) (by decide)) (ed_int 0))) (fun _ => et_test (ed_eqI (ed_var 10 rfl) (ed_I (ed_ixl (ed_var 3 rfl).l (ed_I0 (ed_int 10) (ed_var 8 rfl)) hat) (ed_var 6 rfl) (by omega))))).is (show otherB (countG S) d k = false by simpa using ho)⟩
    have hs2 := hS.ix (i := 2) 2 rfl (by decide)
    refine run_seq (run_set (d := .int (prem1 S i)) (ed_I (ed_I (ed_ixl (ed_var 2 rfl).l (ed_int 2) hs2) (ed_I0 (ed_var 8 rfl) (ed_int 1)) (cdk _ (by omega))) (ed_int 4) (by decide))) ?_
    refine run_seq (e1 := [.dat (.int a), .dat (.int c), .dat (.list (S.map PyData.int)), .dat (.list (D.map PyData.int)), .dat (.bool (fullG S)), .dat (.bool (greatG S)), .dat (.int (countG S)), .ml (((List.range i).map (wtG S D)).map encW), .dat (.int (i : Int)), .dat (.list (((List.range (nlG S i).toNat).map (lineG S D i)).map encS)), .un, .un, .un, .un, .dat (.list ((othersG (countG S) d).map PyData.int)), .dat (.int (premG S i)), .un, .un]) (run_if (b := decide ((S.getD 5 0).fmod 4 = 3)) (et_test (ed_eqI (ed_I (ed_ixl (ed_var 2 rfl).l (ed_int 5) (hS.ix 5 rfl (by decide))) (ed_int 4) (by decide)) (ed_int 3))) (fun hb => ?_) (fun hb => ?_)) ?_
    · rw [show premG S i = ((S.getD 2 0).fdiv ((i : Int) + 1)).fmod 25 by unfold premG; rw [if_pos (of_decide_eq_true hb)]]
      exact run_set (ed_I (ed_I (ed_ixl (ed_var 2 rfl).l (ed_int 2) hs2) (ed_I0 (ed_var 8 rfl) (ed_int 1)) (cdk _ (by omega))) (ed_int 25) (by decide))
    · rw [show premG S i = prem1 S i by unfold premG; rw [if_neg (of_decide_eq_false hb)]]
      exact run_next
    exact run_append (i := 7) (d := .tuple [.int (premG S i), .list (((List.range (nlG S i).toNat).map (lineG S D i)).map encS), encS (spD d (othersG (countG S) d))]) rfl (ed_tup (ds := [.int (premG S i), .list (((List.range (nlG S i).toNat).map (lineG S D i)).map encS), encS (spD d (othersG (countG S) d))]) (ea_d (ed_var 15 rfl) (ea_d (ed_var 9 rfl) (ea_d (EvN.d (en_call (x := ((d, othersG (countG S) d) : Int × List Int)) (ea_d (ed_ixl (ed_var 3 rfl).l (ed_I0 (ed_int 10) (ed_var 8 rfl)) hat) (ea_d (ed_var 14 rfl) ea_nil)) rfl (by show (othersG (countG S) d).length ≤ 100; omega))) ea_nil)))) (by rw [List.length_map, List.length_map, List.length_range]; omega)
  rw [List.length_map, List.length_range]
  refine run_pub 7 rfl ?_
  have hnt := ntG_bd S
  refine run_seq (run_setN (en_lst (ds := []) ea_nil)) ?_
  refine run_seq (run_for (ts := [8]) (ds := (List.range (ntG S).toNat).map fun k : Nat => PyData.int (k : Int)) (fun i => [.dat (.int a), .dat (.int c), .dat (.list (S.map PyData.int)), .dat (.list (D.map PyData.int)), .dat (.bool (fullG S)), .dat (.bool (greatG S)), .dat (.int (countG S)), .dat (.list (((List.range (countG S).toNat).map (wtG S D)).map encW)), .un, .un, .un, .un, .un, .un, .un, .un, .ml (((List.range i).map fun k => trG (fullG S) (D.getD ((13 + k) % 16) 0) k).map encT), .un]) (ei_is (ei_rng1 (j := ntG S) (ed_if (et_B (ed_var 4 rfl)) (fun hb => (ed_int 4).is (by unfold ntG; rw [if_pos hb])) (fun hb => (ed_I0 (ed_int 1) (ed_I (ed_ixl (ed_var 2 rfl).l (ed_int 3) (hS.ix 3 rfl (by decide))) (ed_int 3) (by decide))).is (by unfold ntG; rw [if_neg (by rw [hb]; decide)]))) (by omega)) (rng_map _)) (Less.refl _) (fun i d hi hd => ⟨_, eg_name (by decide), ?_⟩)) ?_
  · rw [List.length_map, List.length_range] at hi
    obtain rfl : d = .int (i : Int) := by rw [List.getElem?_map, List.getElem?_range hi] at hd; exact (Option.some.inj hd).symm
    rw [List.range_succ, List.map_append, List.map_append, List.map_singleton, List.map_singleton]
    have hx : (13 + (i : Int)).fmod 16 = (((13 + i) % 16 : Nat) : Int) := by rw [← mod16]; congr 1
    have hat := hD.ix ((13 + i) % 16) hx (by omega)
    generalize D.getD ((13 + i) % 16) 0 = d at hat ⊢
    have hny := nyG_bd (fullG S) i
    refine Turn1.n (e1 := [.dat (.int a), .dat (.int c), .dat (.list (S.map PyData.int)), .dat (.list (D.map PyData.int)), .dat (.bool (fullG S)), .dat (.bool (greatG S)), .dat (.int (countG S)), .dat (.list (((List.range (countG S).toNat).map (wtG S D)).map encW)), .dat (.int (i : Int)), .un, .un, .dat (.int (drG d (nyG (fullG S) i).toNat)), .un, .un, .un, .un, .ml (((List.range i).map fun k => trG (fullG S) (D.getD ((13 + k) % 16) 0) k).map encT ++ [encT (trG (fullG S) d i)]), .dat (.list ((laysG d (nyG (fullG S) i).toNat).map encL))]) ?_ (.eq (.eq (.eq (.eq (.eq (.eq (.eq (.eq (.un (.un (.un (.un (.un (.un (.un (.un (.eq (.un .nil))))))))))))))))))
    refine run_seq (run_set (ed_ixl (ed_var 3 rfl).l (ed_I (ed_I0 (ed_int 13) (ed_var 8 rfl)) (ed_int 16) (by decide)) hat)) ?_
    refine run_seq (run_setN (en_lst (ds := []) ea_nil)) ?_
    refine run_seq (run_for (ts := [10]) (ds := (List.range (nyG (fullG S) i).toNat).map fun k : Nat => PyData.int (k : Int)) (fun j => [.dat (.int a), .dat (.int c), .dat (.list (S.map PyData.int)), .dat (.list (D.map PyData.int)), .dat (.bool (fullG S)), .dat (.bool (greatG S)), .dat (.int (countG S)), .dat (.list (((List.range (countG S).toNat).map (wtG S D)).map encW)), .dat (.int (i : Int)), .un, .un, .dat (.int (drG d j)), .un, .un, .un, .un, .ml (((List.range i).map fun k => trG (fullG S) (D.getD ((13 + k) % 16) 0) k).map encT), .ml ((laysG d j).map encL)]) (ei_is (ei_rng1 (j := nyG (fullG S) i) (ed_if (b := fullG S && decide ((i : Int) = 1)) (et_and (et_B (ed_var 4 rfl)) (fun _ => et_test (ed_eqI (ed_var 8 rfl) (ed_int 1)))) (fun hb => (ed_int 4).is (by unfold nyG; rw [if_pos hb])) (fun hb => (ed_int 1).is (by unfold nyG; rw [if_neg (by rw [hb]; decide)]))) (by omega)) (rng_map _)) (Less.refl _) (fun j d' hj hd => ⟨_, eg_name (by decide), ?_⟩)) ?_
    · rw [List.length_map, List.length_range] at hj
      obtain rfl : d' = .int (j : Int) := by rw [List.getElem?_map, List.getElem?_range hj] at hd; exact (Option.some.inj hd).symm
      have hll : ((laysG d j).map encL).length < 10000000 := by rw [List.length_map]; have := laysG_len d j; omega
      refine Turn1.n (e1 := [.dat (.int a), .dat (.int c), .dat (.list (S.map PyData.int)), .dat (.list (D.map PyData.int)), .dat (.bool (fullG S)), .dat (.bool (greatG S)), .dat (.int (countG S)), .dat (.list (((List.range (countG S).toNat).map (wtG S D)).map encW)), .dat (.int (i : Int)), .un, .dat (.int (j : Int)), .dat (.int (drG d (j + 1))), .un, .un, .un, .un, .ml (((List.range i).map fun k => trG (fullG S) (D.getD ((13 + k) % 16) 0) k).map encT), .ml ((laysG d (j + 1)).map encL)]) ?_ (.eq (.eq (.eq (.eq (.eq (.eq (.eq (.eq (.eq (.eq (.un (.eq (.un (.un (.un (.un (.eq (.eq .nil))))))))))))))))))
      refine run_seq (run_set (d := .int (drG d (j + 1))) (ed_I0 (ed_var 11 rfl) (ed_I (ed_int 7) (ed_var 10 rfl) (Bt.mulx (n := 20) (m := 20) (by decide) (bt_range (by omega) (by omega)) (by decide))))) ?_
      have hly : laysG d (j + 1) = laysG d j ++ layG (drG d (j + 1)) := rfl
      rw [hly, List.map_append]
      generalize laysG d j = L at hll ⊢
      generalize drG d (j + 1) = x
      refine run_if (b := decide (x.fmod 4 = 1)) (et_test (ed_eqI (ed_I (ed_var 11 rfl) (ed_int 4) (by decide)) (ed_int 1))) (fun hb => ?_) (fun hb => ?_)
      · have h1 := of_decide_eq_true hb
        rw [show layG x = [.limit ((x.fdiv 4).fmod 4)] by unfold layG; rw [if_pos h1]]
        exact run_append (i := 17) rfl (ed_tup (ds := [.str "limit", .int ((x.fdiv 4).fmod 4)]) (ea_d (ed_str "limit") (ea_d (ed_I (ed_I (ed_var 11 rfl) (ed_int 4) ⟨by decide, by decide⟩) (ed_int 4) (by decide)) ea_nil))) hll
      have h1 := of_decide_eq_false hb
      refine run_if (b := decide (x.fmod 4 = 2)) (et_test (ed_eqI (ed_I (ed_var 11 rfl) (ed_int 4) (by decide)) (ed_int 2))) (fun hb => ?_) (fun hb => ?_)
      · have h2 := of_decide_eq_true hb
        rw [show layG x = [.share (Rat.divInt ((x.fdiv 4).fmod 4) 3)] by unfold layG; rw [if_neg h1, if_pos h2]]
        have hm := fm2 (x := x.fdiv 4) (m := 4) (by decide)
        exact run_append (i := 17) rfl (ed_tup (ds := [.str "share", encQ (Rat.divInt ((x.fdiv 4).fmod 4) 3)]) (ea_d (ed_str "share") (ea_d (ed_call (x := (((x.fdiv 4).fmod 4, 3) : Int × Int)) (ea_d (ed_I (ed_I (ed_var 11 rfl) (ed_int 4) ⟨by decide, by decide⟩) (ed_int 4) (by decide)) (ea_d (ed_int 3) ea_nil)) rfl ⟨by show (0 : Int) < 3; decide, Bt.mono (n := 20) (by show Bt 20 3; decide) (by decide), Bt.mono (n := 20) (bt_range (by show _ < (x.fdiv 4).fmod 4; omega) (by show (x.fdiv 4).fmod 4 < _; omega)) (by decide)⟩) ea_nil))) hll
      have h2 := of_decide_eq_false hb
      refine run_if (b := decide (x.fmod 4 = 3)) (et_test (ed_eqI (ed_I (ed_var 11 rfl) (ed_int 4) (by decide)) (ed_int 3))) (fun hb => ?_) (fun hb => ?_)
      · have h3 := of_decide_eq_true hb
        rw [show layG x = [.band ((x.fdiv 4).fmod 3) ((x.fdiv 4).fmod 3 + (x.fdiv 12).fmod 4)] by unfold layG; rw [if_neg h1, if_neg h2, if_pos h3]]
        exact run_append (i := 17) rfl (ed_tup (ds := [.str "band", .int ((x.fdiv 4).fmod 3), .int ((x.fdiv 4).fmod 3 + (x.fdiv 12).fmod 4)]) (ea_d (ed_str "band") (ea_d (ed_I (ed_I (ed_var 11 rfl) (ed_int 4) ⟨by decide, by decide⟩) (ed_int 3) (by decide)) (ea_d (ed_I0 (ed_I (ed_I (ed_var 11 rfl) (ed_int 4) ⟨by decide, by decide⟩) (ed_int 3) (by decide)) (ed_I (ed_I (ed_var 11 rfl) (ed_int 12) ⟨by decide, by decide⟩) (ed_int 4) (by decide))) ea_nil)))) hll
      · have h3 := of_decide_eq_false hb
        rw [show layG x = [] by unfold layG; rw [if_neg h1, if_neg h2, if_neg h3], List.map_nil, List.append_nil]
        exact run_next
    rw [List.length_map, List.length_range]
    refine run_pub 17 rfl ?_
    exact run_append (i := 16) (d := .tuple [.int (((drG d (nyG (fullG S) i).toNat).fdiv 48).fmod 3), .list ((laysG d (nyG (fullG S) i).toNat).map encL)]) rfl (ed_tup (ds := [.int (((drG d (nyG (fullG S) i).toNat).fdiv 48).fmod 3), .list ((laysG d (nyG (fullG S) i).toNat).map encL)]) (ea_d (ed_I (ed_I (ed_var 11 rfl) (ed_int 48) ⟨by decide, by decide⟩) (ed_int 3) (by decide)) (ea_d (ed_var 17 rfl) ea_nil))) (by rw [List.length_map, List.length_map, List.length_range]; omega)
  rw [List.length_map, List.length_range]
  refine run_seq (e1 := [.dat (.int a), .dat (.int c), .dat (.list (S.map PyData.int)), .dat (.list (D.map PyData.int)), .dat (.bool (fullG S)), .dat (.bool (greatG S)), .dat (.int (countG S)), .dat (.list (((List.range (countG S).toNat).map (wtG S D)).map encW)), .un, .un, .un, .un, .un, .un, .un, .un, .ml ((trs2 S D).map encT), .un]) (run_if (et_B (ed_var 4 rfl)) (fun hb => ?_) (fun hb => ?_)) (run_pub 16 rfl (run_ret (ed_tup (ds := [.list (((List.range (countG S).toNat).map (wtG S D)).map encW), .list ((trs2 S D).map encT)]) (ea_d (ed_var 7 rfl) (ea_d (ed_var 16 rfl) ea_nil)))))
  · have e4 : (ntG S).toNat = 4 := by unfold ntG; rw [if_pos hb]; rfl
    rw [show trs2 S D = (trs1 S D).set 3 ⟨0, (trG true (D.getD 0 0) 3).ls⟩ by unfold trs2; rw [if_pos hb], List.map_set]
    have hl4 : ((trs1 S D).map encT).length = 4 := by unfold trs1; rw [List.length_map, List.length_map, List.length_range, e4]
    refine run_store (i := 16) rfl (ed_tup (ds := [.int 0, .list ((trG true (D.getD 0 0) 3).ls.map encL)]) (ea_d (ed_int 0) (ea_d (ed_ixT (ed_ixl (z := encT (trG true (D.getD 0 0) 3)) (el_var 16 rfl) (ed_int 3) ?_) (ed_int 1) rfl) ea_nil))) (ed_int 3) ?_
    · rw [e4, hb]; rfl
    · rw [hl4]; rfl
  · rw [show trs2 S D = trs1 S D by unfold trs2; rw [if_neg (by rw [hb]; decide)]]
    exact run_next

end
end KP

namespace KP
open PySem L2 DL MX
section
variable {P : Program} {w : World} {K : PySem.W.Frag} {mg : Str → Option Value} {base : Heap}
/-! ### the mean after a year: what it is -/
theorem topZ_cast {N : Int} {r : Rat} (hN : 0 < N) (hd : (r.den : Int) ∣ N) : (topZ N r : Rat) = r * (N : Rat) := by
  have hp : 0 < (r.den : Int) := by have := r.den_pos; omega
  obtain ⟨c, hc⟩ := hd
  unfold topZ
  rw [hc, Int.mul_fdiv_cancel_left _ (by omega), Rat.intCast_mul, Rat.intCast_mul]
  have h := num_is r
  have hd : ((r.den : Int) : Rat) ≠ 0 := fun z => den_ne r (Rat.intCast_inj.mp z)
  generalize (r.num : Rat) = A at *
  generalize ((r.den : Int) : Rat) = B at *
  generalize (c : Rat) = C at *
  rw [h]; grind
theorem sum_addF {α : Type} (f g : α → Rat) : ∀ l : List α, (l.map fun x => f x + g x).sum = (l.map f).sum + (l.map g).sum
  | [] => by simp only [List.map_nil, List.sum_nil]; grind
  | x :: l => by rw [List.map_cons, List.map_cons, List.map_cons, List.sum_cons, List.sum_cons, List.sum_cons, sum_addF f g l]; grind
theorem sum_mulF {α : Type} (f : α → Rat) (c : Rat) : ∀ l : List α, (l.map fun x => f x * c).sum = (l.map f).sum * c
  | [] => by simp only [List.map_nil, List.sum_nil]; grind
  | x :: l => by rw [List.map_cons, List.map_cons, List.sum_cons, List.sum_cons, sum_mulF f c l]; grind
theorem sum_zeroF {α : Type} (f : α → Rat) : ∀ l : List α, (∀ x ∈ l, f x = 0) → (l.map f).sum = 0
  | [], _ => by simp only [List.map_nil, List.sum_nil]
  | x :: l, h => by rw [List.map_cons, List.sum_cons, h x List.mem_cons_self, sum_zeroF f l fun y hy => h y (List.mem_cons_of_mem _ hy)]; grind
theorem sum_oneF {v : Int} : ∀ {P : List (Int × Int)}, (P.map (·.1)).Nodup → (P.map fun p => if p.1 = v then (p.2 : Rat) else 0).sum = (lkZ P v : Rat)
  | [], _ => by simp only [List.map_nil, List.sum_nil]; rfl
  | p :: P, h => by
    rw [List.map_cons, List.nodup_cons] at h
    have ih := sum_oneF (v := v) h.2
    rw [List.map_cons, List.sum_cons, ih]
    by_cases e : p.1 = v
    · rw [if_pos e, lkZ_none (by rw [← e]; exact h.1)]
      have : lkZ (p :: P) v = p.2 := by unfold lkZ; rw [List.find?_cons_of_pos (by simpa using e)]; rfl
      rw [this]; have : ((0 : Int) : Rat) = 0 := rfl; grind
    · rw [if_neg e]
      have : lkZ (p :: P) v = lkZ P v := by unfold lkZ; rw [List.find?_cons_of_neg (by simpa using e)]
      rw [this]; grind
theorem fall_sumF (m : Int) : ∀ P : List (Int × Int), ((fallZ P m : Int) : Rat) = (P.map fun p => if p.1 < -m then (p.2 : Rat) else 0).sum
  | [] => rfl
  | p :: P => by
    have ih := fall_sumF m P
    rw [List.map_cons, List.sum_cons, ← ih]
    unfold fallZ
    rw [List.filter_cons]
    by_cases c : p.1 < -m
    · rw [decide_eq_true c, if_pos rfl, if_pos c, List.map_cons, List.sum_cons, Rat.intCast_add]
    · rw [decide_eq_false c, if_neg (by decide), if_neg c]; grind
theorem lkZ_nn {P : List (Int × Int)} (h : ∀ p ∈ P, 0 ≤ p.2) (v : Int) : 0 ≤ lkZ P v := by
  unfold lkZ
  cases e : P.find? fun p => decide (p.1 = v) with
  | none => exact Int.le_refl 0
  | some p => exact h p (List.mem_of_find?_eq_some e)
theorem tl_val {P : List (Int × Int)} {q : Rat} {size a : Int} (hn : (P.map (·.1)).Nodup) (h0 : ∀ p ∈ P, 0 ≤ p.2) (hq : 0 ≤ q.num) : ∀ i : Nat, 0 ≤ (tlF P q size a i).1 ∧ 0 < (tlF P q size a i).2 ∧ valP (tlF P q size a i) = (P.map fun p => if a ≤ size - p.1 ∧ size - p.1 < a + (i : Int) then (p.2 : Rat) * q ^ (a + (i : Int) - 1 - (size - p.1)).toNat else 0).sum
  | 0 => by
    refine ⟨Int.le_refl 0, by show (0 : Int) < 1; decide, ?_⟩
    rw [sum_zeroF _ _ fun p _ => if_neg (by omega)]
    show valP (0, 1) = 0
    decide +kernel
  | i + 1 => by
    obtain ⟨t0, l0, e⟩ := tl_val hn h0 hq i
    have es : (P.map fun p => if a ≤ size - p.1 ∧ size - p.1 < a + ((i + 1 : Nat) : Int) then (p.2 : Rat) * q ^ (a + ((i + 1 : Nat) : Int) - 1 - (size - p.1)).toNat else 0).sum = (P.map fun p => if a ≤ size - p.1 ∧ size - p.1 < a + (i : Int) then (p.2 : Rat) * q ^ (a + (i : Int) - 1 - (size - p.1)).toNat else 0).sum * q + (lkZ P (size - (a + (i : Int))) : Rat) := by
      rw [← sum_oneF hn, ← sum_mulF, ← sum_addF]
      congr 1
      refine List.map_congr_left fun p _ => ?_
      by_cases c : p.1 = size - (a + (i : Int))
      · rw [if_pos (by omega), if_neg (by omega), if_pos c, show (a + ((i + 1 : Nat) : Int) - 1 - (size - p.1)).toNat = 0 by omega, Rat.pow_zero]; grind
      · rw [if_neg c]
        by_cases c2 : a ≤ size - p.1 ∧ size - p.1 < a + (i : Int)
        · rw [if_pos (by omega), if_pos c2, show (a + ((i + 1 : Nat) : Int) - 1 - (size - p.1)).toNat = (a + (i : Int) - 1 - (size - p.1)).toNat + 1 by omega, Rat.pow_succ]; grind
        · rw [if_neg (by omega), if_neg c2]; grind
    rw [es, ← e]
    have hlk := lkZ_nn h0 (size - (a + (i : Int)))
    have hd : 0 < (q.den : Int) := by have := q.den_pos; omega
    obtain ⟨T, hT⟩ : ∃ T, tlF P q size a i = T := ⟨_, rfl⟩
    have ed : tlF P q size a (i + 1) = ((if 0 < T.1 then T.1 * q.num else T.1) + lkZ P (size - (a + (i : Int))) * (if 0 < T.1 then T.2 * (q.den : Int) else T.2), if 0 < T.1 then T.2 * (q.den : Int) else T.2) := by rw [← hT]; rfl
    rw [ed]
    rw [hT] at t0 l0 ⊢
    clear ed es e hT
    generalize lkZ P (size - (a + (i : Int))) = K0 at *
    obtain ⟨t, l⟩ := T
    have t0 : 0 ≤ t := t0
    have l0 : 0 < l := l0
    show 0 ≤ (if 0 < t then t * q.num else t) + K0 * (if 0 < t then l * (q.den : Int) else l) ∧ 0 < (if 0 < t then l * (q.den : Int) else l) ∧ valP ((if 0 < t then t * q.num else t) + K0 * (if 0 < t then l * (q.den : Int) else l), if 0 < t then l * (q.den : Int) else l) = valP (t, l) * q + (K0 : Rat)
    have l0r : (l : Rat) ≠ 0 := fun z => by have h0 : l = 0 := Rat.intCast_inj.mp z; omega
    by_cases c : 0 < t
    · rw [if_pos c, if_pos c]
      have p1 : 0 ≤ t * q.num := Int.mul_nonneg t0 hq
      have p2 : 0 < l * (q.den : Int) := Int.mul_pos l0 hd
      have p3 : 0 ≤ K0 * (l * (q.den : Int)) := Int.mul_nonneg hlk (by omega)
      refine ⟨by omega, p2, ?_⟩
      unfold valP
      have h := num_is q
      have hdr : ((q.den : Int) : Rat) ≠ 0 := fun z => den_ne q (Rat.intCast_inj.mp z)
      show ((t * q.num + K0 * (l * (q.den : Int)) : Int) : Rat) / ((l * (q.den : Int) : Int) : Rat) = (t : Rat) / (l : Rat) * q + (K0 : Rat)
      rw [Rat.intCast_add, Rat.intCast_mul, Rat.intCast_mul, Rat.intCast_mul]
      generalize (q.num : Rat) = A at *
      generalize ((q.den : Int) : Rat) = B at *
      generalize (t : Rat) = T at *
      generalize (l : Rat) = L at *
      generalize (K0 : Rat) = KK at *
      rw [h]; grind
    · rw [if_neg c, if_neg c]
      have : t = 0 := by omega
      subst this
      have p3 : 0 ≤ K0 * l := Int.mul_nonneg hlk (by omega)
      refine ⟨by omega, l0, ?_⟩
      unfold valP
      show ((0 + K0 * l : Int) : Rat) / (l : Rat) = ((0 : Int) : Rat) / (l : Rat) * q + (K0 : Rat)
      rw [Int.zero_add, Rat.intCast_mul]
      have z : ((0 : Int) : Rat) = 0 := rfl
      rw [z]
      generalize (l : Rat) = L at *
      generalize (K0 : Rat) = KK at *
      grind
theorem last_max {P : List (Int × Int)} (h : FaP P) : ∀ p ∈ P, p.1 ≤ (lastP P).1 := by
  have key : ∀ (P : List (Int × Int)), (P.map (·.1)).Pairwise (· < ·) → ∀ d, ∀ p ∈ P, p.1 ≤ (P.getLastD d).1 := by
    intro P
    induction P with
    | nil => intro _ _ p hp; cases hp
    | cons a r ih =>
      intro hs d p hp
      rw [List.map_cons, List.pairwise_cons] at hs
      rw [List.getLastD_cons]
      rcases List.mem_cons.mp hp with e | hp
      · subst e
        cases r with
        | nil => exact Int.le_refl _
        | cons b r2 =>
          have h1 := ih hs.2 p b List.mem_cons_self
          have h2 := hs.1 b.1 (by rw [List.map_cons]; exact List.mem_cons_self)
          omega
      · exact ih hs.2 a p hp
  exact key P h.asc (0, 0)
theorem fa_nodup {P : List (Int × Int)} (h : FaP P) : (P.map (·.1)).Nodup := h.asc.imp fun h => by omega
/-! the mean at a reserve -/
def gX (a : MaA) (x : Int) : Rat := if x < 0 then 1 else if x < (maZ a : Int) then maW a x.toNat else maV a * a.t.q ^ (x.toNat - maZ a)
structure MeQ (a : MaA) : Prop where
  fa : FaP (maP a)
  su : ∃ N : Int, SuP N (mtP (maM a))
  h0 : ∀ p ∈ maP a, 0 ≤ p.2
  l0 : 0 < maL a
  tp : ∀ p ∈ maS a, (p.2.den : Int) ∣ maL a
  q : 0 ≤ a.t.q.num
theorem row_lk {a : MaA} {p : Int × Int} (hp : p ∈ maP a) : lkA (maRow a) ((maR a : Int) + p.1) = if 0 ≤ (maR a : Int) + p.1 ∧ (maR a : Int) + p.1 < (maZ a : Int) then some (maW a ((maR a : Int) + p.1).toNat) else none := by
  have hall : ∀ e ∈ maRow a, 0 ≤ e.1 ∧ e.1 < (maZ a : Int) ∧ e.2 = maW a e.1.toNat := fun e he => by
    obtain ⟨r, _, hr⟩ := List.mem_filterMap.mp he
    unfold maI at hr
    split at hr
    · rename_i c
      cases hr; exact ⟨c.1, c.2, rfl⟩
    · cases hr
  unfold lkA
  by_cases c : 0 ≤ (maR a : Int) + p.1 ∧ (maR a : Int) + p.1 < (maZ a : Int)
  · rw [if_pos c]
    have hm : ((maR a : Int) + p.1, maW a ((maR a : Int) + p.1).toNat) ∈ maRow a := List.mem_filterMap.mpr ⟨p, hp, if_pos c⟩
    cases e : (maRow a).find? fun r => decide (r.1 = (maR a : Int) + p.1) with
    | none => exact absurd (decide_eq_true rfl) (List.find?_eq_none.mp e _ hm)
    | some r =>
      have h1 := List.find?_some e
      have h2 := hall r (List.mem_of_find?_eq_some e)
      have h1 : r.1 = (maR a : Int) + p.1 := by simpa using h1
      show some r.2 = _
      rw [h2.2.2, h1]
  · rw [if_neg c, List.find?_eq_none.mpr fun r hr => ?_]
    · rfl
    · have := hall r hr
      simp only [decide_eq_true_eq]
      omega
theorem sum_fmF {α : Type} (f : α → Option (Int × Int)) (g : α → Rat) : ∀ l : List α, (∀ x ∈ l, g x = match f x with | some p => valP p | none => 0) → ((l.filterMap f).map valP).sum = (l.map g).sum
  | [], _ => rfl
  | x :: l, h => by
    have hx := h x List.mem_cons_self
    rw [List.filterMap_cons, List.map_cons, List.sum_cons, hx, ← sum_fmF f g l fun y hy => h y (List.mem_cons_of_mem _ hy)]
    cases f x with
    | none => show _ = 0 + _; grind
    | some p => rw [List.map_cons, List.sum_cons]
theorem valP_pair {x y z w : Int} (hy : y ≠ 0) (hw : w ≠ 0) : valP (x * z, y * w) = valP (x, y) * valP (z, w) := by
  unfold valP
  show ((x * z : Int) : Rat) / ((y * w : Int) : Rat) = (x : Rat) / (y : Rat) * ((z : Rat) / (w : Rat))
  rw [Rat.intCast_mul, Rat.intCast_mul]
  have h1 : (y : Rat) ≠ 0 := fun z => hy (Rat.intCast_inj.mp z)
  have h2 : (w : Rat) ≠ 0 := fun z => hw (Rat.intCast_inj.mp z)
  generalize (x : Rat) = X at *
  generalize (y : Rat) = Y at *
  generalize (z : Rat) = Z at *
  generalize (w : Rat) = W at *
  grind
theorem valP_self (c : Rat) : valP (c.num, (c.den : Int)) = c := by
  have h := num_is c
  unfold valP
  exact h.symm
theorem maT_val {a : MaA} (h : MeQ a) : 0 < (maT a).2 ∧ valP (maT a) = ((maP a).map fun p => if (maZ a : Int) ≤ (maR a : Int) + p.1 then (p.2 : Rat) * a.t.q ^ (((maR a : Int) + p.1).toNat - maZ a) else 0).sum := by
  obtain ⟨_, v2, v3⟩ := tl_val (q := a.t.q) (size := (maZ a : Int)) (a := taA (maTA a)) (fa_nodup h.fa) h.h0 h.q (taN (maTA a))
  refine ⟨v2, ?_⟩
  have v3 : valP (maT a) = _ := v3
  rw [v3]
  congr 1
  refine List.map_congr_left fun p hp => ?_
  have hl := last_max h.fa p hp
  have eA : taA (maTA a) = if (maZ a : Int) - (lastP (maP a)).1 < (maR a : Int) then (maZ a : Int) - (lastP (maP a)).1 else (maR a : Int) := rfl
  have eN : taN (maTA a) = ((maR a : Int) + 1 - taA (maTA a)).toNat := rfl
  have hA : taA (maTA a) ≤ (maZ a : Int) - (lastP (maP a)).1 ∨ taA (maTA a) = (maR a : Int) := by rw [eA]; split <;> omega
  have hA2 : taA (maTA a) ≤ (maR a : Int) := by rw [eA]; split <;> omega
  have hA3 : taA (maTA a) ≤ (maZ a : Int) - (lastP (maP a)).1 := by rw [eA]; split <;> omega
  generalize taA (maTA a) = A at *
  generalize taN (maTA a) = n at *
  by_cases c : (maZ a : Int) ≤ (maR a : Int) + p.1
  · rw [if_pos c, if_pos (by omega), show (A + (n : Int) - 1 - ((maZ a : Int) - p.1)).toNat = ((maR a : Int) + p.1).toNat - maZ a by omega]
  · rw [if_neg c, if_neg (by omega)]
theorem maX_is {a : MaA} (h : MeQ a) : maX a = Ex (maS a) fun v => gX a ((maR a : Int) + v) := by
  obtain ⟨N, hN⟩ := h.su
  obtain ⟨t0, tv⟩ := maT_val h
  have hl := h.l0
  have hlr : (maL a : Rat) ≠ 0 := fun z => by have h0 : maL a = 0 := Rat.intCast_inj.mp z; omega
  have hV : ((maV a).den : Int) ≠ 0 := by have := (maV a).den_pos; omega
  have e1 : maX a = ((mtP (maM a)).map valP).sum / (maL a : Rat) := by
    obtain ⟨s1, _, s3⟩ := sumd_ok hN
    unfold maX
    rw [Rat.divInt_eq_div, Rat.intCast_mul, ← s3]
    unfold valP
    have : ((sumdF (mtP (maM a))).2 : Rat) ≠ 0 := fun z => by have h0 : (sumdF (mtP (maM a))).2 = 0 := Rat.intCast_inj.mp z; omega
    generalize ((sumdF (mtP (maM a))).1 : Rat) = X at *
    generalize ((sumdF (mtP (maM a))).2 : Rat) = Y at *
    generalize (maL a : Rat) = L at *
    grind
  have e2 : ((mtP (maM a)).map valP).sum = ((maP a).map fun p => (p.2 : Rat) * gX a ((maR a : Int) + p.1)).sum := by
    have e0 : mtP (maM a) = [(fallZ (maP a) (maR a : Int), 1)] ++ (maP a).filterMap (mtI (maRow a) (maR a)) ++ [maTl a] := rfl
    have ef : valP (fallZ (maP a) (maR a : Int), 1) = ((maP a).map fun p => if p.1 < -(maR a : Int) then (p.2 : Rat) else 0).sum := by
      rw [← fall_sumF]; unfold valP; show _ / ((1 : Int) : Rat) = _; have : ((1 : Int) : Rat) = 1 := rfl; rw [this]; grind
    have et : valP (maTl a) = ((maP a).map fun p => if (maZ a : Int) ≤ (maR a : Int) + p.1 then (p.2 : Rat) * (maV a * a.t.q ^ (((maR a : Int) + p.1).toNat - maZ a)) else 0).sum := by
      have : valP (maTl a) = valP ((maV a).num, ((maV a).den : Int)) * valP ((maT a).1, (maT a).2) := valP_pair hV (by omega)
      rw [this, valP_self, show ((maT a).1, (maT a).2) = maT a from rfl, tv, Rat.mul_comm, ← sum_mulF]
      congr 1
      refine List.map_congr_left fun p _ => ?_
      split <;> grind
    have er : (((maP a).filterMap (mtI (maRow a) (maR a))).map valP).sum = ((maP a).map fun p => if 0 ≤ (maR a : Int) + p.1 ∧ (maR a : Int) + p.1 < (maZ a : Int) then (p.2 : Rat) * maW a ((maR a : Int) + p.1).toNat else 0).sum := by
      refine sum_fmF _ _ _ fun p hp => ?_
      unfold mtI
      rw [row_lk hp]
      by_cases c : 0 ≤ (maR a : Int) + p.1 ∧ (maR a : Int) + p.1 < (maZ a : Int)
      · rw [if_pos c, if_pos c]
        show _ = valP (p.2 * (maW a ((maR a : Int) + p.1).toNat).num, ((maW a ((maR a : Int) + p.1).toNat).den : Int))
        have := valP_pair (x := p.2) (y := 1) (z := (maW a ((maR a : Int) + p.1).toNat).num) (w := ((maW a ((maR a : Int) + p.1).toNat).den : Int)) (by decide) (by have := (maW a ((maR a : Int) + p.1).toNat).den_pos; omega)
        rw [Int.one_mul, valP_self] at this
        rw [this]
        have e3 : valP (p.2, 1) = (p.2 : Rat) := by unfold valP; show _ / ((1 : Int) : Rat) = _; have : ((1 : Int) : Rat) = 1 := rfl; rw [this]; grind
        rw [e3]
      · rw [if_neg c, if_neg c]; rfl
    rw [e0, List.map_append, List.map_append, List.sum_append, List.sum_append, er]
    simp only [List.map_cons, List.map_nil, List.sum_cons, List.sum_nil]
    rw [ef, et]
    have z : ∀ x : Rat, x + 0 = x := fun x => by grind
    rw [z, z, ← sum_addF, ← sum_addF]
    congr 1
    refine List.map_congr_left fun p _ => ?_
    unfold gX
    by_cases c1 : (maR a : Int) + p.1 < 0
    · rw [if_pos (by omega), if_neg (by omega), if_neg (by omega), if_pos c1]; grind
    · rw [if_neg (by omega), if_neg c1]
      by_cases c2 : (maR a : Int) + p.1 < (maZ a : Int)
      · rw [if_pos (by omega), if_neg (by omega), if_pos c2]; grind
      · rw [if_neg (by omega), if_pos (by omega), if_neg c2]; grind
  rw [e1, e2]
  unfold maP partsZ Ex
  rw [List.map_map]
  have hs : ∀ l : Spr, (∀ p ∈ l, (p.2.den : Int) ∣ maL a) → (l.map ((fun p : Int × Int => (p.2 : Rat) * gX a ((maR a : Int) + p.1)) ∘ fun p : Int × Rat => (p.1, topZ (maL a) p.2))).sum = (l.map fun p => p.2 * gX a ((maR a : Int) + p.1)).sum * (maL a : Rat) := fun l hl2 => by
    rw [← sum_mulF]
    congr 1
    refine List.map_congr_left fun p hp => ?_
    show (topZ (maL a) p.2 : Rat) * gX a ((maR a : Int) + p.1) = _
    rw [topZ_cast hl (hl2 p hp)]; grind
  rw [hs _ h.tp]
  generalize (maL a : Rat) = L at *
  grind
theorem qpow_add (q : Rat) (m : Nat) : ∀ n, q ^ (m + n) = q ^ m * q ^ n
  | 0 => by rw [Nat.add_zero, Rat.pow_zero]; grind
  | n + 1 => by rw [← Nat.add_assoc, Rat.pow_succ, Rat.pow_succ, qpow_add q m n]; grind
theorem maF_gX {a : MaA} (h : MeQ a) : maF a = Ex (maS a) fun v => gX a ((a.r : Int) + v) := by
  unfold maF
  rw [maX_is h]
  have hR : maR a = min a.r (maZ a + lossN (maP a)) := rfl
  have hm : (Ex (maS a) fun v => gX a ((maR a : Int) + v)) * a.t.q ^ (a.r - maR a) = Ex (maS a) fun v => a.t.q ^ (a.r - maR a) * gX a ((maR a : Int) + v) := by rw [ex_mul, Rat.mul_comm]
  rw [hm]
  refine ex_congr fun p hp => ?_
  by_cases c : maR a = a.r
  · rw [c, Nat.sub_self, Rat.pow_zero, Rat.one_mul]
  · obtain ⟨_, _, hh⟩ := h.fa.head
    have hpp : (p.1, topZ (maL a) p.2) ∈ maP a := List.mem_map.mpr ⟨p, hp, rfl⟩
    have h1 := hh _ hpp
    have h1 : ((maP a).headD (0, 0)).1 ≤ p.1 := h1
    have hln : lossN (maP a) = (-((maP a).headD (0, 0)).1).toNat := rfl
    unfold gX
    rw [if_neg (by omega), if_neg (by omega), if_neg (by omega), if_neg (by omega)]
    have e : ((a.r : Int) + p.1).toNat - maZ a = (a.r - maR a) + (((maR a : Int) + p.1).toNat - maZ a) := by omega
    rw [e, qpow_add]; grind
structure RwQ (a : MaA) : Prop where
  eq : ∀ row ∈ a.t.rows, row.length = maZ a
  ix : ∀ p ∈ maU a, 0 ≤ p.1 ∧ p.1 < (a.t.rows.length : Int)
  sc : a.t.rows.length = a.t.sc.length
  one : Ex (maU a) (fun _ => 1) = 1
theorem gX_is {a : MaA} (h : RwQ a) (x : Int) : gX a x = Ex (maU a) fun w => valF a.t x w.toNat := by
  unfold gX
  have hrow : ∀ p ∈ maU a, rowF a.t p.1.toNat ∈ a.t.rows := fun p hp => by
    have := h.ix p hp
    unfold rowF
    rw [List.getD_eq_getElem?_getD, List.getElem?_eq_getElem (show p.1.toNat < a.t.rows.length by omega)]
    exact List.getElem_mem _
  by_cases c1 : x < 0
  · rw [if_pos c1, ← h.one]
    exact ex_congr fun p _ => by unfold valF; rw [if_pos c1]
  · rw [if_neg c1]
    by_cases c2 : x < (maZ a : Int)
    · rw [if_pos c2]
      refine Eq.trans (show maW a x.toNat = Ex (maU a) fun w => (a.t.rows.map fun r => r.getD x.toNat 0).getD w.toNat 0 from rfl) (ex_congr fun p hp => ?_)
      have hi := h.ix p hp
      unfold valF
      rw [if_neg c1, h.eq _ (hrow p hp), if_pos c2]
      unfold rowF
      rw [List.getD_eq_getElem?_getD, List.getElem?_map, List.getD_eq_getElem?_getD (l := a.t.rows), List.getElem?_eq_getElem (show p.1.toNat < a.t.rows.length by omega)]
      rfl
    · rw [if_neg c2]
      have e : maV a * a.t.q ^ (x.toNat - maZ a) = Ex (maU a) fun w => a.t.q ^ (x.toNat - maZ a) * a.t.sc.getD w.toNat 0 := by
        rw [ex_mul, Rat.mul_comm]; rfl
      rw [e]
      refine ex_congr fun p hp => ?_
      unfold valF
      rw [if_neg c1, h.eq _ (hrow p hp), if_neg c2, Rat.mul_comm]
theorem mean_is {a : MaA} (h : MeQ a) (h2 : RwQ a) : maF a = Ex (maS a) fun v => Ex (maU a) fun w => valF a.t ((a.r : Int) + v) w.toNat := by
  rw [maF_gX h]
  exact ex_congr fun p _ => gX_is h2 _

end
end KP

/-! Sizes of chances and changes of houses whose spreads have small parts. -/
namespace MX
open PySem L2 DL
structure Pq (D : Int) (s : Spr) : Prop where
  pos : ∀ p ∈ s, 0 < p.2
  one : Ex s (fun _ => 1) = 1
  dn : ∀ p ∈ s, Dn D p.2
theorem ex_mem_le {s : Spr} (h : ∀ p ∈ s, 0 < p.2) : 0 ≤ Ex s (fun _ => 1) ∧ ∀ p ∈ s, p.2 ≤ Ex s (fun _ => 1) := by
  induction s with
  | nil => exact ⟨by rw [ex_nil]; exact Rat.le_refl, fun p hp => (List.not_mem_nil hp).elim⟩
  | cons a s ih =>
    obtain ⟨h0, h1⟩ := ih fun p hp => h p (List.mem_cons_of_mem _ hp)
    have ha := h a List.mem_cons_self
    rw [ex_cons]
    refine ⟨by grind, fun p hp => ?_⟩
    rcases List.mem_cons.mp hp with e | hp
    · rw [e]; grind
    · have := h1 p hp; grind
theorem Pq.le {D : Int} {s : Spr} (h : Pq D s) : ∀ p ∈ s, p.2 ≤ 1 := fun p hp => by
  have := (ex_mem_le h.pos).2 p hp
  rw [h.one] at this; exact this
theorem Pq.ne {D : Int} {s : Spr} (h : Pq D s) : s ≠ [] := fun e => by
  have := h.one
  rw [e, ex_nil] at this
  exact absurd this (by decide)
theorem gat_wtm {s : Spr} {p : Int × Rat} (hp : p ∈ gatF s) : p.2 = wt s p.1 := by
  unfold gatF at hp
  obtain ⟨v, _, e⟩ := List.mem_filterMap.mp hp
  split at e
  · cases e
  · cases e; rfl
theorem dn_wt {D : Int} {s : Spr} (h : ∀ p ∈ s, Dn D p.2) (v : Int) : Dn D (wt s v) := by
  unfold wt
  refine dn_ex fun p hp => ?_
  split
  · rw [Rat.mul_one]; exact h p hp
  · rw [Rat.mul_zero]; exact Dn.zero D
theorem Pq.gat {D : Int} {s : Spr} (h : Pq D s) : Pq D (gatF s) := ⟨gat_pos fun p hp => by have := h.pos p hp; grind, by rw [ex_gat]; exact h.one, fun p hp => by rw [gat_wtm hp]; exact dn_wt h.dn _⟩
theorem Pq.sum {D E : Int} {s t : Spr} (h : Pq D s) (g : Pq E t) : Pq (D * E) (sumF s t) := by
  have hm : ∀ p ∈ sumF s t, ∃ a ∈ s, ∃ b ∈ t, p = (a.1 + b.1, a.2 * b.2) := fun p hp => by
    obtain ⟨a, ha, hb⟩ := List.mem_flatMap.mp hp
    obtain ⟨b, hb2, rfl⟩ := List.mem_map.mp hb
    exact ⟨a, ha, b, hb2, rfl⟩
  refine ⟨fun p hp => ?_, ?_, fun p hp => ?_⟩
  · obtain ⟨a, ha, b, hb, rfl⟩ := hm p hp
    exact Rat.mul_pos (h.pos a ha) (g.pos b hb)
  · rw [ex_sum, g.one, h.one]
  · obtain ⟨a, ha, b, hb, rfl⟩ := hm p hp
    exact (h.dn a ha).mul (g.dn b hb)
theorem Pq.map {D : Int} {s : Spr} (h : Pq D s) (g : Int → Int) : Pq D (s.map fun p => (g p.1, p.2)) := by
  refine ⟨fun p hp => ?_, by rw [ex_map]; exact h.one, fun p hp => ?_⟩
  · obtain ⟨q, hq, rfl⟩ := List.mem_map.mp hp; exact h.pos q hq
  · obtain ⟨q, hq, rfl⟩ := List.mem_map.mp hp; exact h.dn q hq
theorem SpK.pq {hi : Int} {s : Spr} (h : SpK hi s) : ∃ N : Int, 0 < N ∧ N ≤ 16 ∧ Pq N s := by
  obtain ⟨N, h1, h2, h3⟩ := h.low
  exact ⟨N, h1, h2, h.g.pos, h.g.mass, h3⟩
theorem dmg_pq {ls : List Spr} (h : ∀ s ∈ ls, SpK 1001 s) : ∀ i, i ≤ ls.length → ∃ D : Int, 0 < D ∧ D ≤ 16 ^ i ∧ Pq D (dmgF (ls.take i))
  | 0, _ => ⟨1, by decide, by decide, fun p hp => by
      have hp : p ∈ [((0 : Int), (1 : Rat))] := hp
      rw [List.mem_singleton] at hp; rw [hp]; show (0 : Rat) < 1; decide, by show Ex [((0 : Int), (1 : Rat))] (fun _ => 1) = 1; decide +kernel, fun p hp => by
      have hp : p ∈ [((0 : Int), (1 : Rat))] := hp
      rw [List.mem_singleton] at hp; rw [hp]; exact ⟨1, by decide +kernel⟩⟩
  | i + 1, hi => by
    obtain ⟨D, d1, d2, d3⟩ := dmg_pq h i (by omega)
    obtain ⟨N, n1, n2, n3⟩ := (h _ (List.getElem_mem (show i < ls.length by omega))).pq
    rw [dmg_step (show i < ls.length by omega)]
    refine ⟨D * N, Int.mul_pos d1 n1, ?_, (d3.sum n3).gat⟩
    rw [Int.pow_succ]
    exact Int.le_trans (Int.mul_le_mul_of_nonneg_right d2 (by omega)) (Int.mul_le_mul_of_nonneg_left n2 (Int.le_of_lt (Int.pow_pos (by decide))))
structure WtK (n : Int) (w : Wt) : Prop where
  q : WtQ n w
  prem : w.prem ≤ 100
  lines : ∀ s ∈ w.lines, SpK 1001 s
  turns : SpK n w.turns
structure HsK (h : Hs) : Prop where
  q : HsQ h
  ws : ∀ w ∈ h.ws, WtK h.ws.length w
structure ChK (D : Int) (s : Spr) : Prop where
  pq : Pq D s
  can : Can s
  val : ∀ p ∈ s, -4000 ≤ p.1 ∧ p.1 ≤ 100
  len : s.length ≤ 27
theorem chg_k {n : Int} {w : Wt} {t : Tr} (h : WtK n w) (ht : TrOk t ∧ TrV t) : ∃ D : Int, 0 < D ∧ D ≤ 4096 ∧ ChK D (chgF w.prem t (dmgF w.lines)) := by
  have hE := dmgEQ h.q.lines h.q.few h.q.prod
  obtain ⟨D, d1, d2, d3⟩ := dmg_pq h.lines w.lines.length (Nat.le_refl _)
  rw [List.take_length] at d3
  have d4 : D ≤ 4096 := by
    have h1 : (16 : Int) ^ w.lines.length ≤ 16 ^ 3 := by
      have : (16 : Nat) ^ w.lines.length ≤ 16 ^ 3 := Nat.pow_le_pow_right (by decide) h.q.few
      have := Int.ofNat_le.mpr this
      rw [Int.natCast_pow, Int.natCast_pow] at this
      exact this
    have : (16 : Int) ^ 3 = 4096 := by decide
    omega
  refine ⟨D, d1, d4, ?_⟩
  rw [← chg_is]
  have hm : ∀ p ∈ gatF (chgL w.prem t (dmgF w.lines)), -4000 ≤ p.1 ∧ p.1 ≤ 100 := fun p hp => by
    obtain ⟨r, hr, e⟩ := List.mem_map.mp (gat_mem hp).1
    obtain ⟨q, hq, rfl⟩ := List.mem_map.mp hr
    have h1 := hE.val q hq
    have h2 := remF_bd ht.1.ok h1.1
    have h3 := ht.2.prem
    have h4 := h.q.prem
    have h5 := h.prem
    have e : w.prem - t.prem - remF t.ls q.1 = p.1 := e
    omega
  refine ⟨?_, gat_can _, hm, ?_⟩
  · have := (d3.map fun x => w.prem - t.prem - remF t.ls x).gat
    exact this
  · have h1 := gat_len (chgL w.prem t (dmgF w.lines))
    have h2 : (chgL w.prem t (dmgF w.lines)).length = (dmgF w.lines).length := by unfold chgL; rw [List.length_map]
    have := hE.len
    omega
/-! bounds of means -/
theorem Pq.ex_bd {D : Int} {s : Spr} (h : Pq D s) {f : Int → Rat} {B : Rat} (hf : ∀ p ∈ s, -B ≤ f p.1 ∧ f p.1 ≤ B) : -B ≤ Ex s f ∧ Ex s f ≤ B := by
  have h0 : ∀ p ∈ s, 0 ≤ p.2 := fun p hp => by have := h.pos p hp; grind
  have e1 : Ex s (fun _ => B) = B := by
    have := ex_mul s B (fun _ => 1)
    rw [h.one] at this
    rw [← show Ex s (fun x => B * (fun _ => (1 : Rat)) x) = Ex s (fun _ => B) by congr 1; funext x; show B * 1 = B; grind, this]; grind
  have e2 : Ex s (fun _ => -B) = -B := by
    have := ex_mul s (-B) (fun _ => 1)
    rw [h.one] at this
    rw [← show Ex s (fun x => (-B) * (fun _ => (1 : Rat)) x) = Ex s (fun _ => -B) by congr 1; funext x; show -B * 1 = -B; grind, this]; grind
  exact ⟨by rw [← e2]; exact ex_le h0 fun p hp => (hf p hp).1, by
    have := ex_le (f := f) (g := fun _ => B) h0 fun p hp => (hf p hp).2
    rw [e1] at this; exact this⟩
theorem Pq.ex_dn {D E : Int} {s : Spr} (h : Pq D s) {f : Int → Rat} (hf : ∀ p ∈ s, Dn E (f p.1)) : Dn (D * E) (Ex s f) := dn_ex fun p hp => (h.dn p hp).mul (hf p hp)
/-! values of tables -/
def lam : Int := 5342931457063200
theorem lam_dvd : ∀ k : Nat, k < 41 → 0 < k → (k : Int) ∣ lam := by decide
theorem lam_bt : Bt 53 lam := by decide
theorem lam_pos : 0 < lam := by decide
structure Vk (x : Rat) : Prop where
  dn : Dn lam x
  lo : -64 ≤ x
  hi : x ≤ 64
theorem vk_zero : Vk 0 := ⟨Dn.zero _, by decide, by decide⟩
theorem vk_of {t l : Int} (hl : 0 < l ∧ l ≤ 40) (h1 : -64 ≤ t) (h2 : t ≤ 64) : Vk (Rat.divInt t l) := by
  have hlr : (0 : Rat) < (l : Rat) := by exact_mod_cast hl.1
  have h1r : (-64 : Rat) ≤ (t : Rat) := by have : ((-64 : Int) : Rat) ≤ (t : Rat) := by exact_mod_cast h1
                                           exact this
  have h2r : (t : Rat) ≤ 64 := by have : (t : Rat) ≤ ((64 : Int) : Rat) := by exact_mod_cast h2
                                  exact this
  have hge : (1 : Rat) ≤ (l : Rat) := by have : ((1 : Int) : Rat) ≤ (l : Rat) := by exact_mod_cast hl.1
                                         exact this
  have e : Rat.divInt t l * (l : Rat) = (t : Rat) := by rw [Rat.divInt_eq_div]; generalize (t : Rat) = T at *; generalize (l : Rat) = L at *; grind
  refine ⟨?_, ?_, ?_⟩
  · obtain ⟨c, hc⟩ := lam_dvd l.toNat (by omega) (by omega)
    rw [Int.toNat_of_nonneg (by omega)] at hc
    exact ⟨t * c, by rw [hc, Rat.intCast_mul, Rat.intCast_mul, ← e]; grind⟩
  · generalize Rat.divInt t l = x at *
    by_cases c : -64 ≤ x
    · exact c
    · exfalso
      have := Rat.mul_lt_mul_of_pos_right (show x < -64 by grind) hlr
      grind
  · generalize Rat.divInt t l = x at *
    by_cases c : x ≤ 64
    · exact c
    · exfalso
      have := Rat.mul_lt_mul_of_pos_right (show 64 < x by grind) hlr
      grind
structure Qk (q : Rat) : Prop where
  dn : Dn 8 q
  pos : 0 < q
  le : q ≤ 1
theorem q_pow {q : Rat} (h : Qk q) : ∀ e : Nat, 0 ≤ q ^ e ∧ q ^ e ≤ 1 ∧ Dn (8 ^ e) (q ^ e)
  | 0 => by rw [Rat.pow_zero]; exact ⟨by decide, by decide, ⟨1, by decide +kernel⟩⟩
  | e + 1 => by
    obtain ⟨a, b, c⟩ := q_pow h e
    have h1 := h.pos
    have h2 := h.le
    rw [Rat.pow_succ, Int.pow_succ]
    refine ⟨Rat.mul_nonneg a (by grind), ?_, c.mul h.dn⟩
    have := Rat.mul_le_mul_of_nonneg_right b (show 0 ≤ q by grind)
    grind
theorem mul_bd {x y B : Rat} (hx : -B ≤ x ∧ x ≤ B) (hy : 0 ≤ y ∧ y ≤ 1) (hB : 0 ≤ B) : -B ≤ x * y ∧ x * y ≤ B := by
  have h1 := Rat.mul_le_mul_of_nonneg_right hx.1 hy.1
  have h2 := Rat.mul_le_mul_of_nonneg_right hx.2 hy.1
  have h3 := Rat.mul_le_mul_of_nonneg_left hy.2 hB
  grind
theorem Dn.pow_up {A : Int} {p : Rat} {e E : Nat} (h : Dn (A * 8 ^ e) p) (he : e ≤ E) : Dn (A * 8 ^ E) p := by
  have : (8 : Int) ^ E = 8 ^ e * 8 ^ (E - e) := by rw [← Int.pow_add]; congr 1; omega
  rw [this, ← Int.mul_assoc]
  exact h.up
theorem bt_8 : ∀ n : Nat, Bt (3 * n + 1) (8 ^ n)
  | 0 => by decide
  | n + 1 => by
    rw [Int.pow_succ]
    have h : (8 : Int).natAbs < 2 ^ 4 := by decide
    have := bt_8 n
    unfold Bt at *
    rw [Int.natAbs_mul, show 3 * (n + 1) + 1 = 3 * n + 1 + 3 by omega, Nat.pow_add]
    exact Nat.mul_lt_mul_of_lt_of_le this (by decide) (by decide)
theorem Qk.q40 {q : Rat} (h : Qk q) : Qb 40 q := (qb_01 (D := 8) (n := 4) (by decide) (by decide) h.dn (by have := h.pos; grind) h.le).mono (by decide)
theorem Qk.num {q : Rat} (h : Qk q) : 0 ≤ q.num := Rat.num_nonneg.mpr (by have := h.pos; grind)
theorem Vk.qb {x : Rat} (h : Vk x) : Qb 60 x := (qb_dn (B := 64) (m := 7) lam_pos lam_bt (by decide) h.dn (by exact h.lo) (by exact h.hi)).mono (by decide)
end MX

namespace KP
open PySem L2 DL MX
section
variable {P : Program} {w : World} {K : PySem.W.Frag} {mg : Str → Option Value} {base : Heap}
/-! ### k40: what mean_after asks -/
structure TbK (n : Nat) (t : Tq) : Prop where
  r : t.rows.length = n
  s : t.sc.length = n
  n4 : n ≤ 4
  eq : ∃ z, z ≤ 40 ∧ ∀ row ∈ t.rows, row.length = z
  item : ∀ row ∈ t.rows, ∀ x ∈ row, Vk x
  scv : ∀ x ∈ t.sc, Vk x
  q : Qk t.q
structure FitK (a : MaA) : Prop where
  h : HsK a.h
  t : TbK a.h.ws.length a.t
  w : a.w < a.h.ws.length
  tr : 0 ≤ a.tr ∧ a.tr < (a.h.ts.length : Int)
  small : maR a ≤ 100
structure FitF (a : MaA) (D N : Int) : Prop where
  d0 : 0 < D
  d1 : D ≤ 4096
  n0 : 0 < N
  n1 : N ≤ 16
  s : ChK D (maS a)
  u : Pq N (maU a)
  ix : ∀ p ∈ maU a, 0 ≤ p.1 ∧ p.1 < (a.h.ws.length : Int)
  ul : (maU a).length ≤ 4
  z : maZ a ≤ 40
  eq : ∀ row ∈ a.t.rows, row.length = maZ a
theorem rowF_mem {t : Tq} {w : Nat} (h : w < t.rows.length) : rowF t w ∈ t.rows := by
  unfold rowF
  rw [List.getD_eq_getElem?_getD, List.getElem?_eq_getElem h]
  exact List.getElem_mem h
theorem fit_f {a : MaA} (h : FitK a) : ∃ D N : Int, FitF a D N := by
  have hw := h.h.ws _ (List.mem_of_getElem? (wAt_at (h := a.h) (v := (a.w : Int)) (by omega) (by have := h.w; omega)))
  have ht := h.h.q.ts _ (List.mem_of_getElem? (tAt_at (h := a.h) h.tr.1 h.tr.2))
  obtain ⟨D, d1, d2, d3⟩ := chg_k hw ht
  obtain ⟨N, n1, n2, n3⟩ := hw.turns.pq
  obtain ⟨z, z1, z2⟩ := h.t.eq
  have ez : maZ a = z := z2 _ (rowF_mem (by rw [h.t.r]; exact h.w))
  exact ⟨D, N, d1, d2, n1, n2, d3, n3, hw.turns.g.val, hw.turns.g.len, by omega, fun row hr => by rw [ez]; exact z2 row hr⟩
theorem vk_getD {l : List Rat} (h : ∀ x ∈ l, Vk x) (k : Nat) : Vk (l.getD k 0) := by
  rw [List.getD_eq_getElem?_getD]
  cases e : l[k]? with
  | none => exact vk_zero
  | some x => exact h x (List.mem_of_getElem? e)
theorem mn_vk {N : Int} {U : Spr} {ws : List Rat} (hU : Pq N U) (hw : ∀ x ∈ ws, Vk x) : Dn (N * lam) (mnF U ws) ∧ -64 ≤ mnF U ws ∧ mnF U ws ≤ 64 := by
  have e : mnF U ws = Ex U (fun w => ws.getD w.toNat 0) := rfl
  rw [e]
  exact ⟨hU.ex_dn fun p _ => (vk_getD hw _).dn, hU.ex_bd fun p _ => ⟨(vk_getD hw _).lo, (vk_getD hw _).hi⟩⟩
theorem fit_L {a : MaA} {D N : Int} (f : FitF a D N) : 0 < maL a ∧ maL a ≤ 4096 ∧ ∀ p ∈ maS a, (p.2.den : Int) ∣ maL a := by
  have e : maL a = ((lcmF (chsF [maS a]) : Nat) : Int) := rfl
  have hc : ∀ r, r ∈ chsF [maS a] ↔ r ∈ (maS a).map (·.2) := fun r => by unfold chsF; rw [List.flatMap_cons, List.flatMap_nil, List.append_nil]
  have h0 := lcmF_pos (chsF [maS a])
  have h1 : lcmF (chsF [maS a]) ∣ D.toNat := lcmF_least fun r hr => by
    obtain ⟨p, hp, rfl⟩ := List.mem_map.mp ((hc r).mp hr)
    have := dn_den f.d0 (f.s.pq.dn p hp)
    have hD := f.d0
    have e2 : ((D.toNat : Nat) : Int) = D := by omega
    rw [← e2] at this
    exact Int.natCast_dvd_natCast.mp this
  have h2 := Nat.le_of_dvd (by have := f.d0; omega) h1
  have h3 := f.d1
  refine ⟨by omega, by omega, fun p hp => ?_⟩
  rw [e]
  exact Int.natCast_dvd_natCast.mpr (lcmF_dvd ((hc _).mpr (List.mem_map.mpr ⟨p, hp, rfl⟩)))
theorem fit_P {a : MaA} {D N : Int} (f : FitF a D N) : ∀ p ∈ maP a, -4000 ≤ p.1 ∧ p.1 ≤ 100 ∧ 0 ≤ p.2 ∧ p.2 ≤ 4096 := fun p hp => by
  obtain ⟨r, hr, rfl⟩ := List.mem_map.mp hp
  obtain ⟨l0, l1, l2⟩ := fit_L f
  have hv := f.s.val r hr
  have e := topZ_cast l0 (l2 r hr)
  have h0 := f.s.pq.pos r hr
  have h1 := f.s.pq.le r hr
  have hL : (0 : Rat) < (maL a : Rat) := by exact_mod_cast l0
  have a1 : (0 : Rat) ≤ (topZ (maL a) r.2 : Rat) := by rw [e]; exact Rat.mul_nonneg (by grind) (by grind)
  have a2 : (topZ (maL a) r.2 : Rat) ≤ (maL a : Rat) := by
    rw [e]
    have := Rat.mul_le_mul_of_nonneg_right h1 (show 0 ≤ (maL a : Rat) by grind)
    grind
  have b1 : 0 ≤ topZ (maL a) r.2 := by have : ((0 : Int) : Rat) ≤ (topZ (maL a) r.2 : Rat) := a1
                                       exact_mod_cast this
  have b2 : topZ (maL a) r.2 ≤ maL a := by exact_mod_cast a2
  exact ⟨hv.1, hv.2, b1, by show topZ (maL a) r.2 ≤ 4096; omega⟩
theorem fit_fa {a : MaA} {D N : Int} (f : FitF a D N) : FaP (maP a) ∧ (maP a).length ≤ 27 := by
  have e : (maP a).map (·.1) = (maS a).map (·.1) := by unfold maP partsZ; rw [List.map_map]; rfl
  refine ⟨⟨by rw [e]; exact f.s.can.asc, fun z => f.s.pq.ne (by have := congrArg (List.map (·.1)) z; rw [e] at this; exact List.map_eq_nil_iff.mp this), fun p hp => by have := fit_P f p hp; omega⟩, ?_⟩
  have := congrArg List.length e
  rw [List.length_map, List.length_map] at this
  rw [this]; exact f.s.len
theorem nd_fm {c : Int} {fn : Int × Int → Option (Int × Rat)} (hf : ∀ p e, fn p = some e → e.1 = c + p.1) : ∀ {P : List (Int × Int)}, (P.map (·.1)).Pairwise (· < ·) → ((P.filterMap fn).map (·.1)).Pairwise (· < ·)
  | [], _ => List.Pairwise.nil
  | p :: P, h => by
    rw [List.map_cons, List.pairwise_cons] at h
    have ih := nd_fm hf h.2
    rw [List.filterMap_cons]
    cases e : fn p with
    | none => exact ih
    | some x =>
      rw [List.map_cons, List.pairwise_cons]
      refine ⟨fun y hy => ?_, ih⟩
      obtain ⟨z, hz, rfl⟩ := List.mem_map.mp hy
      obtain ⟨r, hr, e2⟩ := List.mem_filterMap.mp hz
      have h1 := hf _ _ e
      have h2 := hf _ _ e2
      have h3 := h.1 r.1 (List.mem_map.mpr ⟨r, hr, rfl⟩)
      omega
theorem tl_den {P : List (Int × Int)} {q : Rat} {size a : Int} (hq : (q.den : Int) ∣ 8) : ∀ i, (tlF P q size a i).2 ∣ 8 ^ i
  | 0 => Int.one_dvd _
  | i + 1 => by
    have ih := tl_den (P := P) (size := size) (a := a) hq i
    show (if 0 < (tlF P q size a i).1 then (tlF P q size a i).2 * (q.den : Int) else (tlF P q size a i).2) ∣ _
    rw [Int.pow_succ]
    split
    · exact Int.mul_dvd_mul ih hq
    · exact Int.dvd_mul_of_dvd_left ih
theorem fall_bd {B : Int} : ∀ {P : List (Int × Int)} (m : Int), (∀ p ∈ P, 0 ≤ p.2 ∧ p.2 ≤ B) → 0 ≤ fallZ P m ∧ fallZ P m ≤ (P.length : Int) * B
  | [], _, _ => by unfold fallZ; simp
  | p :: P, m, h => by
    obtain ⟨h0, h1⟩ := fall_bd m fun q hq => h q (List.mem_cons_of_mem _ hq)
    have hp := h p List.mem_cons_self
    have e : ((p :: P).length : Int) * B = (P.length : Int) * B + B := by rw [List.length_cons, Int.natCast_succ, Int.add_mul, Int.one_mul]
    rw [e]
    unfold fallZ at *
    rw [List.filter_cons]
    split
    · rw [List.map_cons, List.sum_cons]; omega
    · omega
theorem lastD_mem {α : Type} : ∀ {P : List α} {d : α}, P ≠ [] → P.getLastD d ∈ P
  | [], _, h => absurd rfl h
  | a :: r, d, _ => by
    rw [List.getLastD_cons]
    cases r with
    | nil => exact List.mem_cons_self
    | cons b r2 => exact List.mem_cons_of_mem _ (lastD_mem (List.cons_ne_nil _ _))
theorem fit_n {a : MaA} {D N : Int} (f : FitF a D N) (hs : maR a ≤ 100) : taN (maTA a) ≤ 300 ∧ -100000 ≤ (lastP (maP a)).1 ∧ (lastP (maP a)).1 ≤ 100000 := by
  obtain ⟨fa, _⟩ := fit_fa f
  have hm : lastP (maP a) ∈ maP a := lastD_mem fa.ne
  have h1 := fit_P f _ hm
  have hz := f.z
  have eA : taA (maTA a) = if (maZ a : Int) - (lastP (maP a)).1 < (maR a : Int) then (maZ a : Int) - (lastP (maP a)).1 else (maR a : Int) := rfl
  have eN : taN (maTA a) = ((maR a : Int) + 1 - taA (maTA a)).toNat := rfl
  refine ⟨?_, by omega, by omega⟩
  rw [eN, eA]
  split <;> omega
theorem fit_me {a : MaA} {D N : Int} (h : FitK a) (f : FitF a D N) : MeQ a ∧ (∃ M : Int, Bt 1500 M ∧ SuP M (mtP (maM a))) ∧ (Dn (N * lam) (maV a) ∧ -64 ≤ maV a ∧ maV a ≤ 64) ∧ (∀ k, Dn (N * lam) (maW a k) ∧ -64 ≤ maW a k ∧ maW a k ≤ 64) := by
  obtain ⟨l0, l1, l2⟩ := fit_L f
  obtain ⟨fa, fl⟩ := fit_fa f
  obtain ⟨n1, _, _⟩ := fit_n f h.small
  have hV : Dn (N * lam) (maV a) ∧ -64 ≤ maV a ∧ maV a ≤ 64 := mn_vk f.u h.t.scv
  have hW : ∀ k, Dn (N * lam) (maW a k) ∧ -64 ≤ maW a k ∧ maW a k ≤ 64 := fun k => mn_vk f.u fun x hx => by
    obtain ⟨row, hr, rfl⟩ := List.mem_map.mp hx
    exact vk_getD (h.t.item row hr) k
  have hNl : 0 < N * lam := Int.mul_pos f.n0 lam_pos
  have h8 : (0 : Int) < 8 ^ taN (maTA a) := Int.pow_pos (by decide)
  have hden : (a.t.q.den : Int) ∣ 8 := dn_den (by decide) h.t.q.dn
  have hbt : Bt 1500 (N * lam * 8 ^ taN (maTA a)) := by
    have b1 : Bt 5 N := by
      have := f.n0; have := f.n1
      have e : (2 : Int) ^ 5 = 32 := by decide
      exact bt_range (by omega) (by omega)
    exact ((b1.mul lam_bt).mul (bt_8 _)).mono (by omega)
  have hS : SuP (N * lam * 8 ^ taN (maTA a)) (mtP (maM a)) := by
    refine ⟨Int.mul_pos hNl h8, fun q hq => ?_⟩
    have e0 : mtP (maM a) = [(fallZ (maP a) (maR a : Int), 1)] ++ (maP a).filterMap (mtI (maRow a) (maR a)) ++ [maTl a] := rfl
    rw [e0] at hq
    rcases List.mem_append.mp hq with hq | hq
    · rcases List.mem_append.mp hq with hq | hq
      · rw [List.mem_singleton] at hq; rw [hq]; exact ⟨by show (0 : Int) < 1; decide, Int.one_dvd _⟩
      · obtain ⟨p, hp, e⟩ := List.mem_filterMap.mp hq
        unfold mtI at e
        rw [row_lk hp] at e
        split at e
        · cases e
          exact ⟨by show 0 < ((maW a ((maR a : Int) + p.1).toNat).den : Int); have := (maW a ((maR a : Int) + p.1).toNat).den_pos; omega, Int.dvd_mul_of_dvd_left (dn_den hNl (hW _).1)⟩
        · cases e
    · rw [List.mem_singleton] at hq; rw [hq]
      have t2 : 0 < (maT a).2 := (tl_val (q := a.t.q) (size := (maZ a : Int)) (a := taA (maTA a)) (fa_nodup fa) (fun p hp => (fit_P f p hp).2.2.1) h.t.q.num (taN (maTA a))).2.1
      have t3 : (maT a).2 ∣ 8 ^ taN (maTA a) := tl_den hden _
      have v2 : 0 < ((maV a).den : Int) := by have := (maV a).den_pos; omega
      exact ⟨Int.mul_pos v2 t2, Int.mul_dvd_mul (dn_den hNl hV.1) t3⟩
  exact ⟨⟨fa, ⟨_, hS⟩, fun p hp => (fit_P f p hp).2.2.1, l0, l2, h.t.q.num⟩, ⟨_, hbt, hS⟩, hV, hW⟩
theorem fit_X {a : MaA} {D N : Int} (h : FitK a) (f : FitF a D N) : Qb 1000 (maX a) := by
  obtain ⟨me, _, hV, hW⟩ := fit_me h f
  have hz := f.z
  have hs := h.small
  have hNl : 0 < N * lam := Int.mul_pos f.n0 lam_pos
  have hg : ∀ x : Int, x ≤ 200 → Dn (N * lam * 8 ^ 200) (gX a x) ∧ -64 ≤ gX a x ∧ gX a x ≤ 64 := fun x hx => by
    unfold gX
    split
    · exact ⟨Dn.int _ 1, by decide, by decide⟩
    · split
      · exact ⟨(hW _).1.up, (hW _).2⟩
      · obtain ⟨q1, q2, q3⟩ := q_pow h.t.q (x.toNat - maZ a)
        exact ⟨(hV.1.mul q3).pow_up (by omega), mul_bd hV.2 ⟨q1, q2⟩ (by decide)⟩
  rw [maX_is me]
  have h1 := f.s.pq.ex_dn (E := N * lam * 8 ^ 200) (f := fun v => gX a ((maR a : Int) + v)) fun p hp => (hg _ (by have := f.s.val p hp; omega)).1
  have h2 := f.s.pq.ex_bd (B := 64) (f := fun v => gX a ((maR a : Int) + v)) fun p hp => (hg _ (by have := f.s.val p hp; omega)).2
  have b1 : Bt 5 N := by
    have := f.n0; have := f.n1
    have e : (2 : Int) ^ 5 = 32 := by decide
    exact bt_range (by omega) (by omega)
  have b2 : Bt 13 D := by
    have := f.d0; have := f.d1
    have e : (2 : Int) ^ 13 = 8192 := by decide
    exact bt_range (by omega) (by omega)
  have hb : Bt 800 (D * (N * lam * 8 ^ 200)) := (b2.mul ((b1.mul lam_bt).mul (bt_8 200))).mono (by decide)
  exact (qb_dn (B := 64) (m := 7) (Int.mul_pos f.d0 (Int.mul_pos hNl (Int.pow_pos (by decide)))) hb (by decide) h1 h2.1 h2.2).mono (by decide)
theorem bt_dn {N : Int} {x : Rat} (h0 : 0 < N) (h1 : N ≤ 16) (h : Dn (N * lam) x ∧ -64 ≤ x ∧ x ≤ 64) : Qb 100 x := by
  have b1 : Bt 5 N := by
    have e : (2 : Int) ^ 5 = 32 := by decide
    exact bt_range (by omega) (by omega)
  exact (qb_dn (B := 64) (m := 7) (Int.mul_pos h0 lam_pos) (b1.mul lam_bt) (by decide) h.1 h.2.1 h.2.2).mono (by decide)
theorem fit_mn {n : Nat} {N : Int} {U : Spr} {ws : List Rat} (h0 : 0 < N) (h1 : N ≤ 16) (hU : Pq N U) (hw : ∀ x ∈ ws, Vk x) (hix : ∀ p ∈ U, 0 ≤ p.1 ∧ p.1 < (n : Int)) (hl : ws.length = n) (hul : U.length ≤ 4) : MnP ⟨U, ws⟩ := by
  have b1 : Bt 5 N := by
    have e : (2 : Int) ^ 5 = 32 := by decide
    exact bt_range (by omega) (by omega)
  refine ⟨fun p hp => by rw [hl]; exact hix p hp, ⟨N * lam, (b1.mul lam_bt).mono (by decide), Int.mul_pos h0 lam_pos, fun p hp => Int.mul_dvd_mul (dn_den h0 (hU.dn p hp)) (dn_den lam_pos (vk_getD hw _).dn)⟩, fun p hp => ?_, fun c hc => (hw c hc).qb.mono (by decide), by show U.length ≤ 1000; omega⟩
  exact (qb_01 (n := 5) h0 b1 (hU.dn p hp) (by have := hU.pos p hp; grind) (hU.le p hp)).mono (by decide)
theorem fit_maq {a : MaA} (h : FitK a) : MaQ a ∧ MeQ a ∧ RwQ a := by
  obtain ⟨D, N, f⟩ := fit_f h
  obtain ⟨me, ⟨M, hM, hS⟩, hV, hW⟩ := fit_me h f
  obtain ⟨l0, l1, l2⟩ := fit_L f
  obtain ⟨fa, fl⟩ := fit_fa f
  obtain ⟨n1, n2, n3⟩ := fit_n f h.small
  have hz := f.z
  have hs := h.small
  have hsl := f.s.len
  have hr := h.t.r
  have hn4 := h.t.n4
  have hPl : maP a = partsZ (maL a) (maS a) := rfl
  have p13 : (2 : Int) ^ 13 = 8192 := by decide
  have bP : ∀ p ∈ maP a, Bt 13 p.2 := fun p hp => by have := fit_P f p hp; exact bt_range (by omega) (by omega)
  have hsum := sumd_ok hS
  have hd : Bt 1500 (sumdF (mtP (maM a))).2 := bt_leq hM (by have := hsum.1; omega) (Int.le_of_dvd hS.n0 hsum.2.1)
  have bL : Bt 13 (maL a) := bt_range (by omega) (by omega)
  have qc : ∀ p ∈ maS a, Qb 14 p.2 := fun p hp => by
    have b2 : Bt 13 D := by have := f.d0; have := f.d1; exact bt_range (by omega) (by omega)
    exact qb_01 f.d0 b2 (f.s.pq.dn p hp) (by have := f.s.pq.pos p hp; grind) (f.s.pq.le p hp)
  have hVq := bt_dn f.n0 f.n1 hV
  have bT := tlF_bt (P := maP a) (q := a.t.q) (size := (maZ a : Int)) (a := taA (maTA a)) h.t.q.q40 (fun v => by
    unfold lkZ
    cases e : (maP a).find? fun p => decide (p.1 = v) with
    | none => exact Bt.zero _
    | some p => exact (bP p (List.mem_of_find?_eq_some e)).mono (by decide)) (taN (maTA a))
  have rowW : ∀ p ∈ maRow a, Qb 100 p.2 := fun p hp => by
    obtain ⟨r, _, e⟩ := List.mem_filterMap.mp hp
    unfold maI at e
    split at e
    · cases e; exact bt_dn f.n0 f.n1 (hW _)
    · cases e
  refine ⟨?_, me, ⟨f.eq, fun p hp => by rw [hr]; exact f.ix p hp, by rw [hr, h.t.s], f.u.one⟩⟩
  refine ⟨h.h.q, h.w, h.tr, by rw [hr]; exact h.w, ⟨?_, ?_⟩, ⟨⟨fun p hp => (qc p hp).mono (by decide), ⟨by show 0 ≤ maL a; omega, bL.mono (by decide)⟩, by show (maS a).length ≤ 1000000; omega⟩, fa⟩, by omega, f.eq, fun k hk => ?_, ?_, ?_, ?_, ?_, ?_, ?_, ?_, ⟨fit_X h f, h.t.q.q40⟩, by omega⟩
  · have e : maL a = ((lcmF (chsF [maS a]) : Nat) : Int) := rfl
    exact Nat.lt_of_lt_of_le (show lcmF (chsF [maS a]) < 2 ^ 13 by omega) (Nat.pow_le_pow_right (by decide) (by decide))
  · unfold chsF
    rw [List.flatMap_cons, List.flatMap_nil, List.append_nil, List.length_map]; omega
  · exact fit_mn f.n0 f.n1 f.u (fun x hx => by
      obtain ⟨row, hr2, rfl⟩ := List.mem_map.mp hx
      exact vk_getD (h.t.item row hr2) k) f.ix (by rw [List.length_map]; exact hr) f.ul
  · exact fit_mn f.n0 f.n1 f.u h.t.scv f.ix h.t.s f.ul
  · refine ⟨fa.ne, fa_nodup fa, h.t.q.q40, fun v => ?_, ⟨?_, ?_⟩, ⟨?_, ?_⟩, ⟨n2, n3⟩, by omega⟩
    · show Bt 4000 (lkZ (maP a) v)
      unfold lkZ
      cases e : (maP a).find? fun p => decide (p.1 = v) with
      | none => exact Bt.zero _
      | some p => exact (bP p (List.mem_of_find?_eq_some e)).mono (by decide)
    · show -100000 ≤ (maZ a : Int); omega
    · show (maZ a : Int) ≤ 100000; omega
    · show -100000 ≤ (maR a : Int); omega
    · show (maR a : Int) ≤ 100000; omega
  · exact ⟨⟨hVq.num.mono (by decide), hVq.den.mono (by decide)⟩, bT.1.mono (by omega), bT.2.mono (by omega)⟩
  · refine ⟨⟨⟨M, hM.mono (by decide), hS⟩, fun q hq => ?_, ?_⟩, fa, fun p hp => (bP p hp).mono (by decide), fun p hp => (rowW p hp).mono (by decide), by show (maP a).length ≤ 1000; omega⟩
    · have e0 : mtP (maM a) = [(fallZ (maP a) (maR a : Int), 1)] ++ (maP a).filterMap (mtI (maRow a) (maR a)) ++ [maTl a] := rfl
      rw [e0] at hq
      rcases List.mem_append.mp hq with hq | hq
      · rcases List.mem_append.mp hq with hq | hq
        · rw [List.mem_singleton] at hq; rw [hq]
          have hb := fall_bd (B := 4096) (P := maP a) (maR a : Int) fun p hp => (fit_P f p hp).2.2
          have p20 : (2 : Int) ^ 20 = 1048576 := by decide
          exact Bt.mono (n := 20) (bt_range (by show _ < fallZ (maP a) (maR a : Int); omega) (by show fallZ (maP a) (maR a : Int) < _; omega)) (by decide)
        · obtain ⟨p, hp, e⟩ := List.mem_filterMap.mp hq
          unfold mtI at e
          rw [row_lk hp] at e
          split at e
          · cases e
            exact ((bP p hp).mul (bt_dn f.n0 f.n1 (hW _)).num).mono (by decide)
          · cases e
      · rw [List.mem_singleton] at hq; rw [hq]
        exact (hVq.num.mul bT.1).mono (by omega)
    · show ([(fallZ (maP a) (maR a : Int), 1)] ++ (maP a).filterMap (mtI (maRow a) (maR a)) ++ [maTl a]).length ≤ 1000
      rw [List.length_append, List.length_append]
      have := List.length_filterMap_le (mtI (maRow a) (maR a)) (maP a)
      simp only [List.length_cons, List.length_nil]
      omega
  · have := nd_fm (c := (maR a : Int)) (fn := maI a) (fun p e he => by
      unfold maI at he
      split at he
      · cases he; rfl
      · cases he) fa.asc
    exact this.imp fun h => by omega
  · exact frP_low (Int.mul_pos hsum.1 l0) ((hd.mul bL).mono (by decide))
  · exact ⟨hd.mono (by decide), bL.mono (by decide)⟩

end
end KP

namespace KP
open PySem L2 DL MX
section
variable {P : Program} {w : World} {K : PySem.W.Frag} {mg : Str → Option Value} {base : Heap}
/-! ### k40: the law's own mean -/
theorem sc__law_plus : FnScope ["first", "second"] ["first", "second"] (defScope s__law_plus) := ⟨rfl, rfl, rfl, by decide +kernel, rfl, by decide +kernel, by decide +kernel⟩
def sp__law_plus (K : PySem.W.Frag) : Sp := SpD K fsQQ (fun a => Qb 900 a.1 ∧ Qb 900 a.2) (fun a => encQ (a.1 + a.2))
theorem ok__law_plus {f : Addr} {fd : FuncData} (F : Fun K "_law_plus" "_law_plus" s__law_plus f fd) (C__law_fraction : Callee P w K mg base CX0 1 "_law_fraction" ["top", "low"] (sp__law_fraction K)) :
    FnOk P w K mg base CX0 2 f fd ["first", "second"] (sp__law_plus K) := by
  have sc := sc__law_plus
  refine fn_D F sc (fun _ => rfl) fun cdv A outer s H E hr => ?_
  refine ⟨_, (pss_one (ps_ret (pe_c C__law_fraction (hr.mono (by decide)) pass0 (pa_cons (pe_op op_add (pe_op op_mulX (pe_ix (r := rIxT K) ix_tup (pv 0) pe_int (fun _ _ => rfl)) (pe_ix (r := rIxT K) ix_tup (pv 1) pe_int (fun _ _ => rfl))) (pe_op op_mulX (pe_ix (r := rIxT K) ix_tup (pv 1) pe_int (fun _ _ => rfl)) (pe_ix (r := rIxT K) ix_tup (pv 0) pe_int (fun _ _ => rfl)))) (pa_cons (pe_op op_mulX (pe_ix (r := rIxT K) ix_tup (pv 0) pe_int (fun _ _ => rfl)) (pe_ix (r := rIxT K) ix_tup (pv 1) pe_int (fun _ _ => rfl))) pa_nil))))), fun a ha => ?_⟩
  obtain ⟨p, q⟩ := a
  obtain ⟨hp, hq⟩ := ha
  have hp : Qb 900 p := hp
  have hq : Qb 900 q := hq
  rw [← add_is]
  exact run_ret (ed_call (x := (p.num * q.den + q.num * p.den, (p.den : Int) * q.den)) (ea_d (ed_I0 (ed_I (ed_ixT (ed_var 0 rfl) (ed_int 0) rfl) (ed_ixT (ed_var 1 rfl) (ed_int 1) rfl) (hp.num.mulx hq.den (by decide))) (ed_I (ed_ixT (ed_var 1 rfl) (ed_int 0) rfl) (ed_ixT (ed_var 0 rfl) (ed_int 1) rfl) (hq.num.mulx hp.den (by decide)))) (ea_d (ed_I (ed_ixT (ed_var 0 rfl) (ed_int 1) rfl) (ed_ixT (ed_var 1 rfl) (ed_int 1) rfl) (hp.den.mulx hq.den (by decide))) ea_nil)) rfl ⟨by show 0 < (p.den : Int) * q.den; exact Int.mul_pos (by have := p.den_pos; omega) (by have := q.den_pos; omega), (hp.den.mul hq.den).mono (by decide), (Bt.add (hp.num.mul hq.den) (hq.num.mul hp.den)).mono (by decide)⟩)
theorem sc__law_times : FnScope ["first", "second"] ["first", "second"] (defScope s__law_times) := ⟨rfl, rfl, rfl, by decide +kernel, rfl, by decide +kernel, by decide +kernel⟩
def sp__law_times (K : PySem.W.Frag) : Sp := SpD K fsQQ (fun a => Qb 900 a.1 ∧ Qb 900 a.2) (fun a => encQ (a.1 * a.2))
theorem ok__law_times {f : Addr} {fd : FuncData} (F : Fun K "_law_times" "_law_times" s__law_times f fd) (C__law_fraction : Callee P w K mg base CX0 1 "_law_fraction" ["top", "low"] (sp__law_fraction K)) :
    FnOk P w K mg base CX0 2 f fd ["first", "second"] (sp__law_times K) := by
  have sc := sc__law_times
  refine fn_D F sc (fun _ => rfl) fun cdv A outer s H E hr => ?_
  refine ⟨_, (pss_one (ps_ret (pe_c C__law_fraction (hr.mono (by decide)) pass0 (pa_cons (pe_op op_mulX (pe_ix (r := rIxT K) ix_tup (pv 0) pe_int (fun _ _ => rfl)) (pe_ix (r := rIxT K) ix_tup (pv 1) pe_int (fun _ _ => rfl))) (pa_cons (pe_op op_mulX (pe_ix (r := rIxT K) ix_tup (pv 0) pe_int (fun _ _ => rfl)) (pe_ix (r := rIxT K) ix_tup (pv 1) pe_int (fun _ _ => rfl))) pa_nil))))), fun a ha => ?_⟩
  obtain ⟨p, q⟩ := a
  obtain ⟨hp, hq⟩ := ha
  have hp : Qb 900 p := hp
  have hq : Qb 900 q := hq
  rw [← mul_is]
  exact run_ret (ed_call (x := (p.num * q.num, (p.den : Int) * q.den)) (ea_d (ed_I (ed_ixT (ed_var 0 rfl) (ed_int 0) rfl) (ed_ixT (ed_var 1 rfl) (ed_int 0) rfl) (hp.num.mulx hq.num (by decide))) (ea_d (ed_I (ed_ixT (ed_var 0 rfl) (ed_int 1) rfl) (ed_ixT (ed_var 1 rfl) (ed_int 1) rfl) (hp.den.mulx hq.den (by decide))) ea_nil)) rfl ⟨by show 0 < (p.den : Int) * q.den; exact Int.mul_pos (by have := p.den_pos; omega) (by have := q.den_pos; omega), (hp.den.mul hq.den).mono (by decide), (hp.num.mul hq.num).mono (by decide)⟩)
theorem sc__law_remaining : FnScope ["treaty", "amount", "layer"] ["treaty", "amount"] (defScope s__law_remaining) := ⟨rfl, rfl, rfl, by decide +kernel, rfl, by decide +kernel, by decide +kernel⟩
def sp__law_remaining (K : PySem.W.Frag) : Sp := SpD K (fun a : Tr × Int => [.dat (encT a.1), .dat (.int a.2)]) (fun a => TrOk a.1 ∧ 0 ≤ a.2 ∧ Bt 60 a.2) (fun a => .int (remF a.1.ls a.2))
theorem sub_band (a c b : Int) : a - c + b = a - (c - b) := by omega
theorem ok__law_remaining {f : Addr} {fd : FuncData} (F : Fun K "_law_remaining" "_law_remaining" s__law_remaining f fd) (m_min : mg "min" = none) : FnOk P w K mg base CX0 1 f fd ["treaty", "amount"] (sp__law_remaining K) := by
  have sc := sc__law_remaining
  refine fn_D F sc (fun _ => rfl) fun cdv A outer s H E hr => ?_
  refine ⟨_, (pss_cons (ps_for PassesOwn.never rfl (pi_list (pe_ix (r := rIxT K) ix_tup (pv 0) pe_int (fun _ _ => rfl))) (pg_name (i := 2) sc.nd rfl (by first | exact Or.inl rfl | exact Or.inr rfl)) (pss_one (ps_if (pt_cmpR op_eq (pe_ix (r := rIxT K) ix_tup (pv 2) pe_int (fun _ _ => rfl)) pe_str (nomark _)) (pss_one (ps_set (i := 1) sc.nd rfl (by first | exact Or.inl rfl | exact Or.inr rfl) (pe_op op_sub pe_int (pe_op op_fdivZ (pe_op op_sub pe_int (pe_op op_mulX (pv 1) (pe_ix (r := rIxT K) ix_tup (pe_ix (r := rIxT K) ix_tup (pv 2) pe_int (fun _ _ => rfl)) pe_int (fun _ _ => rfl)))) (pe_ix (r := rIxT K) ix_tup (pe_ix (r := rIxT K) ix_tup (pv 2) pe_int (fun _ _ => rfl)) pe_int (fun _ _ => rfl)))))) (pss_one (ps_if (pt_cmpR op_eq (pe_ix (r := rIxT K) ix_tup (pv 2) pe_int (fun _ _ => rfl)) pe_str (nomark _)) (pss_one (ps_set (i := 1) sc.nd rfl (by first | exact Or.inl rfl | exact Or.inr rfl) (pe_callB (id := "min") (call_min2 rfl) (by rfl) m_min (by decide +kernel) (pa_cons (pv 1) (pa_cons (pe_ix (r := rIxT K) ix_tup (pv 2) pe_int (fun _ _ => rfl)) pa_nil))))) (pss_one (ps_set (i := 1) sc.nd rfl (by first | exact Or.inl rfl | exact Or.inr rfl) (pe_op op_add (pe_op op_sub (pv 1) (pe_callB (id := "min") (call_min2 rfl) (by rfl) m_min (by decide +kernel) (pa_cons (pv 1) (pa_cons (pe_ix (r := rIxT K) ix_tup (pv 2) pe_int (fun _ _ => rfl)) pa_nil)))) (pe_callB (id := "min") (call_min2 rfl) (by rfl) m_min (by decide +kernel) (pa_cons (pv 1) (pa_cons (pe_ix (r := rIxT K) ix_tup (pv 2) pe_int (fun _ _ => rfl)) pa_nil)))))))))))
      (pss_one (ps_ret (pv 1)))), fun a ha => ?_⟩
  obtain ⟨t, x⟩ := a
  obtain ⟨ht, hx, hb⟩ := ha
  have ht : TrOk t := ht
  have hb : Bt 60 x := hb
  refine run_seq (run_for (ts := [2]) (fun i => [.dat (encT t), .dat (.int (remF (t.ls.take i) x)), .un]) (ei_list (ed_ixT (ed_var 0 rfl) (ed_int 1) rfl)) (.eq (.eq (.un .nil))) (fun i d hi hd => ⟨_, eg_name (by decide), ?_⟩)) ?_
  · rw [List.length_map] at hi
    obtain rfl : d = encL t.ls[i] := by rw [List.getElem?_map, List.getElem?_eq_getElem hi] at hd; exact (Option.some.inj hd).symm
    have h2 := remF_bd (ht.take i) hx
    have hl := ht.ok _ (List.getElem_mem hi)
    have hy := bt_le hb h2.1 h2.2
    rw [remF_snoc hi]
    generalize remF (t.ls.take i) x = y at h2 hy ⊢
    generalize t.ls[i] = l at hl ⊢
    cases l with
    | share r =>
      obtain ⟨h3, h4, hq⟩ := hl
      exact .n (run_ifT ((et_test (ed_eqS (ed_ixT (ed_var 2 rfl) (ed_int 0) rfl) (ed_str _))).is (decide_eq_true rfl)) (run_set (d := .int (layF (.share r) y)) ((ed_I0 (g := fun i j => i - j) (ed_int 0) (ed_I (g := fun i j => i.fdiv j) (ed_I0 (g := fun i j => i - j) (ed_int 0) (ed_I (ed_var 1 rfl) (ed_ixT (ed_ixT (ed_var 2 rfl) (ed_int 1) rfl) (ed_int 0) rfl) (hy.mulx hq.num (by decide)))) (ed_ixT (ed_ixT (ed_var 2 rfl) (ed_int 1) rfl) (ed_int 1) rfl) ⟨by have := r.den_nz; omega, PySem.Flt.log2_lt_of (by decide) (hq.den.mono (by decide : 60 ≤ 9000))⟩)).is (by show PyData.int _ = PyData.int (-((-y * r.num).fdiv r.den)); rw [Int.neg_mul, Int.zero_sub, Int.zero_sub])))) (.eq (.eq (.un .nil)))
    | limit c =>
      exact .n (run_ifF ((et_test (ed_eqS (ed_ixT (ed_var 2 rfl) (ed_int 0) rfl) (ed_str _))).is (decide_eq_false (by decide +kernel))) (run_ifT ((et_test (ed_eqS (ed_ixT (ed_var 2 rfl) (ed_int 0) rfl) (ed_str _))).is (decide_eq_true rfl)) (run_set (d := .int (layF (.limit c) y)) (ed_min2 (ed_var 1 rfl) (ed_ixT (ed_var 2 rfl) (ed_int 1) rfl))))) (.eq (.eq (.un .nil)))
    | band b c =>
      exact .n (run_ifF ((et_test (ed_eqS (ed_ixT (ed_var 2 rfl) (ed_int 0) rfl) (ed_str _))).is (decide_eq_false (by decide +kernel))) (run_ifF ((et_test (ed_eqS (ed_ixT (ed_var 2 rfl) (ed_int 0) rfl) (ed_str _))).is (decide_eq_false (by decide +kernel))) (run_set (d := .int (layF (.band b c) y)) ((ed_I0 (ed_I0 (ed_var 1 rfl) (ed_min2 (ed_var 1 rfl) (ed_ixT (ed_var 2 rfl) (ed_int 2) rfl))) (ed_min2 (ed_var 1 rfl) (ed_ixT (ed_var 2 rfl) (ed_int 1) rfl))).is (congrArg PyData.int (sub_band _ _ _)))))) (.eq (.eq (.un .nil)))
  · rw [List.length_map, List.take_length]
    exact run_ret (ed_var 1 rfl)
/-! the changes, each way by itself -/
def totF (ls : List Spr) : Spr := ls.foldl sumF [(0, 1)]
theorem tot_step {ls : List Spr} {i : Nat} (hi : i < ls.length) : totF (ls.take (i + 1)) = sumF (totF (ls.take i)) ls[i] := by
  unfold totF
  rw [List.take_add_one, List.getElem?_eq_getElem hi, Option.toList_some, List.foldl_append]; rfl
theorem tot_ex {ls : List Spr} : ∀ i, i ≤ ls.length → ∀ f : Int → Rat, Ex (totF (ls.take i)) f = Ex (dmgF (ls.take i)) f
  | 0, _, f => by rw [List.take_zero]; rfl
  | i + 1, hi, f => by rw [tot_step (show i < ls.length by omega), dmg_step (show i < ls.length by omega), ex_gat, ex_sum, ex_sum, tot_ex i (by omega)]
theorem tot_all (ls : List Spr) (f : Int → Rat) : Ex (totF ls) f = Ex (dmgF ls) f := by
  have := tot_ex (ls := ls) ls.length (Nat.le_refl _) f
  rwa [List.take_length] at this
theorem chgL_ex (prem : Int) (t : Tr) (ls : List Spr) (f : Int → Rat) : Ex (chgL prem t (totF ls)) f = Ex (chgF prem t (dmgF ls)) f := by
  rw [← chg_is, ex_gat]
  unfold chgL
  rw [ex_map (totF ls) (fun x => prem - t.prem - remF t.ls x), ex_map (dmgF ls) (fun x => prem - t.prem - remF t.ls x), tot_all]
structure TotK (i n : Nat) (s : Spr) : Prop where
  pq : ∃ D : Int, 0 < D ∧ D ≤ 16 ^ i ∧ Pq D s
  len : s.length ≤ n
  val : ∀ p ∈ s, 0 ≤ p.1 ∧ p.1 ≤ 1000 * (i : Int)
theorem tot_k {ls : List Spr} (h : ∀ s ∈ ls, SpK 1001 s) : ∀ i, i ≤ ls.length → TotK i (lenF (ls.take i)) (totF (ls.take i))
  | 0, _ => ⟨⟨1, by decide, by decide, by
      have m1 : ∀ {q : Rat → Prop}, q 1 → ∀ p ∈ totF (ls.take 0), q p.2 := fun h p hp => by
        have hp : p ∈ [((0 : Int), (1 : Rat))] := hp
        rw [List.mem_singleton] at hp; rw [hp]; exact h
      exact ⟨m1 (q := fun c => 0 < c) (by decide), by show Ex [((0 : Int), (1 : Rat))] (fun _ => 1) = 1; decide +kernel, m1 (q := fun c => Dn 1 c) ⟨1, by decide +kernel⟩⟩⟩, by show 1 ≤ 1; decide, fun p hp => by
        have hp : p ∈ [((0 : Int), (1 : Rat))] := hp
        rw [List.mem_singleton] at hp; rw [hp]; show (0 : Int) ≤ 0 ∧ (0 : Int) ≤ 1000 * ((0 : Nat) : Int); decide⟩
  | i + 1, hi => by
    obtain ⟨⟨D, d1, d2, d3⟩, hl, hv⟩ := tot_k h i (by omega)
    have hs := h _ (List.getElem_mem (show i < ls.length by omega))
    obtain ⟨N, n1, n2, n3⟩ := hs.pq
    rw [tot_step (show i < ls.length by omega), lenF_step (show i < ls.length by omega)]
    refine ⟨⟨D * N, Int.mul_pos d1 n1, ?_, d3.sum n3⟩, Nat.le_trans (sum_len _ _) (Nat.mul_le_mul_right _ hl), fun p hp => ?_⟩
    · rw [Int.pow_succ]
      exact Int.le_trans (Int.mul_le_mul_of_nonneg_right d2 (by omega)) (Int.mul_le_mul_of_nonneg_left n2 (Int.le_of_lt (Int.pow_pos (by decide))))
    · obtain ⟨a, ha, hb⟩ := List.mem_flatMap.mp hp
      obtain ⟨b, hb2, rfl⟩ := List.mem_map.mp hb
      have h1 := hv a ha
      have h2 := hs.g.val b hb2
      show 0 ≤ a.1 + b.1 ∧ a.1 + b.1 ≤ 1000 * ((i + 1 : Nat) : Int)
      omega
theorem p16 {i : Nat} (h : i ≤ 3) : (16 : Int) ^ i ≤ 4096 := by
  have : i = 0 ∨ i = 1 ∨ i = 2 ∨ i = 3 := by omega
  rcases this with rfl | rfl | rfl | rfl <;> decide
theorem bt_small {x : Int} (h0 : 0 < x) (h1 : x ≤ 4096) : Bt 13 x := by
  have p13 : (2 : Int) ^ 13 = 8192 := by decide
  exact bt_range (by omega) (by omega)
theorem TotK.qb {i n : Nat} {s : Spr} (h : TotK i n s) (hi : i ≤ 3) : ∀ p ∈ s, Qb 14 p.2 := fun p hp => by
  obtain ⟨D, d1, d2, d3⟩ := h.pq
  have := p16 hi
  exact qb_01 d1 (bt_small d1 (by omega)) (d3.dn p hp) (by have := d3.pos p hp; grind) (d3.le p hp)
theorem SpK.qb {hi : Int} {s : Spr} (h : SpK hi s) : ∀ p ∈ s, Qb 14 p.2 := fun p hp => by
  obtain ⟨N, n1, n2, n3⟩ := h.pq
  exact qb_01 n1 (bt_small n1 (by omega)) (n3.dn p hp) (by have := n3.pos p hp; grind) (n3.le p hp)
theorem flat_stepG {α β : Type} (f : α → List β) {l : List α} {i : Nat} (hi : i < l.length) : (l.take (i + 1)).flatMap f = (l.take i).flatMap f ++ f l[i] := by
  rw [List.take_add_one, List.getElem?_eq_getElem hi, Option.toList_some, List.flatMap_append]; simp
theorem app_stepG {α β γ : Type} (e : β → γ) (f : α → β) (R : List β) {t : List α} {j : Nat} (hj : j < t.length) : (R ++ (t.take (j + 1)).map f).map e = (R ++ (t.take j).map f).map e ++ [e (f t[j])] := by
  rw [List.take_add_one, List.getElem?_eq_getElem hj, Option.toList_some]
  simp only [List.map_append, List.map_cons, List.map_nil, List.append_assoc]
structure CoP (a : CoA) : Prop where
  h : HsK a.h
  v : 0 ≤ a.v ∧ a.v < (a.h.ws.length : Int)
  t : 0 ≤ a.t ∧ a.t < (a.h.ts.length : Int)
theorem sc__law_changes : FnScope ["house", "weather", "treaty", "premium", "lines", "turns", "totals", "line", "longer", "amount", "chance", "more", "other", "price"] ["house", "weather", "treaty"] (defScope s__law_changes) := ⟨rfl, rfl, rfl, by decide +kernel, rfl, by decide +kernel, by decide +kernel⟩
def lchF (a : CoA) : Spr := chgL (wAt a.h a.v).prem (tAt a.h a.t) (totF (wAt a.h a.v).lines)
def sp__law_changes (K : PySem.W.Frag) : Sp := SpN K (fun a : CoA => [.dat (encH a.h), .dat (.int a.v), .dat (.int a.t)]) CoP (fun a => (lchF a).map encI)
theorem ok__law_changes {f : Addr} {fd : FuncData} (F : Fun K "_law_changes" "_law_changes" s__law_changes f fd) (C__law_remaining : Callee P w K mg base CX0 1 "_law_remaining" ["treaty", "amount"] (sp__law_remaining K)) (C__law_times : Callee P w K mg base CX0 2 "_law_times" ["first", "second"] (sp__law_times K)) :
    FnOk P w K mg base CX0 3 f fd ["house", "weather", "treaty"] (sp__law_changes K) := by
  have sc := sc__law_changes
  refine fn_N F sc (fun _ => rfl) fun cdv A outer s H E hr => ?_
  refine ⟨_, (pss_cons (ps_asg (pe_ix (r := rIxL K) ix_list (pe_ix (r := rIxT K) ix_tup (pv 0) pe_int (fun _ _ => rfl)) (pv 1) (fun _ _ => rfl)) (pg_tup rfl (pgs_cons (pg_name (i := 3) sc.nd rfl (by first | exact Or.inl rfl | exact Or.inr rfl)) (pgs_cons (pg_name (i := 4) sc.nd rfl (by first | exact Or.inl rfl | exact Or.inr rfl)) (pgs_cons (pg_name (i := 5) sc.nd rfl (by first | exact Or.inl rfl | exact Or.inr rfl)) pgs_nil)))))
      (pss_cons (ps_set (i := 6) sc.nd rfl (by first | exact Or.inl rfl | exact Or.inr rfl) (pe_lst (pa_cons (pe_tup (pa_cons pe_int (pa_cons (pe_tup (pa_cons pe_int (pa_cons pe_int pa_nil))) pa_nil))) pa_nil)))
      (pss_cons (ps_for PassesOwn.never rfl (pi_list (pv 4)) (pg_name (i := 7) sc.nd rfl (by first | exact Or.inl rfl | exact Or.inr rfl)) (pss_cons (ps_set (i := 8) sc.nd rfl (by first | exact Or.inl rfl | exact Or.inr rfl) (pe_lst pa_nil))
      (pss_cons (ps_for PassesOwn.never rfl (pi_list (pv 6)) (pg_tup rfl (pgs_cons (pg_name (i := 9) sc.nd rfl (by first | exact Or.inl rfl | exact Or.inr rfl)) (pgs_cons (pg_name (i := 10) sc.nd rfl (by first | exact Or.inl rfl | exact Or.inr rfl)) pgs_nil))) (pss_one (ps_for PassesOwn.never rfl (pi_list (pv 7)) (pg_tup rfl (pgs_cons (pg_name (i := 11) sc.nd rfl (by first | exact Or.inl rfl | exact Or.inr rfl)) (pgs_cons (pg_name (i := 12) sc.nd rfl (by first | exact Or.inl rfl | exact Or.inr rfl)) pgs_nil))) (pss_one (ps_expr (pe_bm PySem.F.plainAttrs_list PySem.F.slot_list_append PySem.F.type_list_append mt_append (pv 8) (pa_cons (pe_tup (pa_cons (pe_op op_add (pv 9) (pv 11)) (pa_cons (pe_c C__law_times (hr.mono (by decide)) pass0 (pa_cons (pv 10) (pa_cons (pv 12) pa_nil))) pa_nil))) pa_nil)))))))
      (pss_one (ps_set (i := 6) sc.nd rfl (by first | exact Or.inl rfl | exact Or.inr rfl) (pv 8))))))
      (pss_cons (ps_set (i := 13) sc.nd rfl (by first | exact Or.inl rfl | exact Or.inr rfl) (pe_ix (r := rIxT K) ix_tup (pe_ix (r := rIxL K) ix_list (pe_ix (r := rIxT K) ix_tup (pv 0) pe_int (fun _ _ => rfl)) (pv 2) (fun _ _ => rfl)) pe_int (fun _ _ => rfl)))
      (pss_one (ps_ret (pe_lc (g := (gTup K 2 (gCons (gName 9) (gCons (gName 10) gNil)))) (own := [("amount", 9), ("chance", 10)]) rfl sc.nd (pi_list (pv 6)) (blkOk_by (own := [("amount", 9), ("chance", 10)]) (N := ["house", "weather", "treaty", "premium", "lines", "turns", "totals", "line", "longer", "amount", "chance", "more", "other", "price"]) (sc := defScope s__law_changes) (by decide +kernel)) (fun _ _ _ _ _ => (pg_tup rfl (pgs_cons (pg_name (i := 9) sc.nd rfl (Or.inl rfl)) (pgs_cons (pg_name (i := 10) sc.nd rfl (Or.inl rfl)) pgs_nil)))) (fun _ _ _ _ _ => pts_nil) (fun _ _ _ _ _ => (pe_tup (pa_cons (pe_op op_sub (pe_op op_sub (pv 3) (pv 13)) (pe_c C__law_remaining (hr.mono (by decide)) pass0 (pa_cons (pe_ix (r := rIxL K) ix_list (pe_ix (r := rIxT K) ix_tup (pv 0) pe_int (fun _ _ => rfl)) (pv 2) (fun _ _ => rfl)) (pa_cons (pv 9) pa_nil)))) (pa_cons (pv 10) pa_nil))))))))))), fun a ha => ?_⟩
  obtain ⟨h, v, t⟩ := a
  have hk : HsK h := ha.h
  have hv : 0 ≤ v ∧ v < (h.ws.length : Int) := ha.v
  have hT : 0 ≤ t ∧ t < (h.ts.length : Int) := ha.t
  have hw := hk.ws _ (List.mem_of_getElem? (wAt_at (h := h) hv.1 hv.2))
  have htt := hk.q.ts _ (List.mem_of_getElem? (tAt_at (h := h) hT.1 hT.2))
  have hat := wAt_d (h := h) hv.1 hv.2
  have hat2 := tAt_d (h := h) hT.1 hT.2
  show Run K E _ [.dat (encH h), .dat (.int v), .dat (.int t), .un, .un, .un, .un, .un, .un, .un, .un, .un, .un, .un] (.rn ((chgL (wAt h v).prem (tAt h t) (totF (wAt h v).lines)).map encI))
  generalize wAt h v = W at hw hat ⊢
  generalize tAt h t = T at htt hat2 ⊢
  obtain ⟨pr, ls, tu⟩ := W
  have hls : ∀ s ∈ ls, SpK 1001 s := hw.lines
  have hf : ls.length ≤ 3 := hw.q.few
  have hpr : ∀ i, i ≤ ls.length → lenF (ls.take i) ≤ 27 := hw.q.prod
  refine run_seq (run_asg (ts := [3, 4, 5]) (d := encW ⟨pr, ls, tu⟩) (ed_ixl (ed_ixT (ds := [.list (h.ws.map encW), .list (h.ts.map encT)]) (ed_var 0 rfl) (ed_int 0) rfl).l (ed_var 1 rfl) hat) (eg_tup (egs_cons (eg_name (by decide)) (egs_cons (eg_name (by decide)) (egs_cons (eg_name (by decide)) egs_nil))) rfl)) ?_
  refine run_seq (run_setN (en_lst (ds := [encI (0, 1)]) (ea_d (ed_tup (ds := [.int 0, encQ 1]) (ea_d (ed_int 0) (ea_d (ed_tup (ds := [.int 1, .int 1]) (ea_d (ed_int 1) (ea_d (ed_int 1) ea_nil))) ea_nil))) ea_nil))) (run_pub 6 rfl ?_)
  refine run_seq (run_for (ts := [7]) (fun i => [.dat (encH h), .dat (.int v), .dat (.int t), .dat (.int pr), .dat (.list (ls.map encS)), .dat (encS tu), .dat (encS (totF (ls.take i))), .un, .un, .un, .un, .un, .un, .un]) (ei_list (ed_var 4 rfl)) (by rw [List.take_zero]; exact (.eq (.eq (.eq (.eq (.eq (.eq (.eq (.un (.un (.un (.un (.un (.un (.un .nil))))))))))))))) (fun i d hi hd => ⟨_, eg_name (by decide), ?_⟩)) ?_
  · rw [List.length_map] at hi
    obtain rfl : d = encS ls[i] := by rw [List.getElem?_map, List.getElem?_eq_getElem hi] at hd; exact (Option.some.inj hd).symm
    have hi : i < ls.length := hi
    have hK := tot_k hls i (by omega)
    have hKq := hK.qb (by omega)
    have hli := hls _ (List.getElem_mem hi)
    have hlq := SpK.qb hli
    have hl4 := hli.g.len
    have h27 := hpr i (by omega)
    have hKl := hK.len
    rw [tot_step hi]
    generalize totF (ls.take i) = S at hK hKq hKl ⊢
    generalize ls[i] = l at hli hlq hl4 ⊢
    refine Turn1.n (e1 := [.dat (encH h), .dat (.int v), .dat (.int t), .dat (.int pr), .dat (.list (ls.map encS)), .dat (encS tu), .dat (encS (sumF S l)), .dat (encS l), .dat (encS (sumF S l)), .un, .un, .un, .un, .un]) ?_ (.eq (.eq (.eq (.eq (.eq (.eq (.eq (.un (.un (.un (.un (.un (.un (.un .nil))))))))))))))
    refine run_seq (run_setN (en_lst (ds := []) ea_nil)) ?_
    refine run_seq (run_for (ts := [9, 10]) (fun j => [.dat (encH h), .dat (.int v), .dat (.int t), .dat (.int pr), .dat (.list (ls.map encS)), .dat (encS tu), .dat (encS S), .dat (encS l), .ml (((S.take j).flatMap (MX.rowF l)).map encI), .un, .un, .un, .un, .un]) (ei_list (ed_var 6 rfl)) (by rw [List.take_zero]; exact (.eq (.eq (.eq (.eq (.eq (.eq (.eq (.eq (.eq (.un (.un (.un (.un (.un .nil))))))))))))))) (fun j d hj hd => ?_)) ?_
    · rw [List.length_map] at hj
      obtain rfl : d = encI S[j] := by rw [List.getElem?_map, List.getElem?_eq_getElem hj] at hd; exact (Option.some.inj hd).symm
      refine ⟨_, eg_tup (egs_cons (eg_name (by decide)) (egs_cons (eg_name (by decide)) egs_nil)) rfl, ?_⟩
      have hm := List.getElem_mem hj
      rw [flat_stepG _ hj]
      have hlen : ((S.take j).flatMap (MX.rowF l)).length ≤ S.length * l.length := Nat.le_trans (flat_len (MX.rowF l) l.length (S.take j) fun p _ => by unfold MX.rowF; rw [List.length_map]; exact Nat.le_refl _) (Nat.mul_le_mul_right _ (by rw [List.length_take]; omega))
      have hll : S.length * l.length ≤ 27 * 4 := Nat.mul_le_mul (by omega) hl4
      have hq := hKq _ hm
      generalize (S.take j).flatMap (MX.rowF l) = R at hlen ⊢
      generalize S[j] = p at hq ⊢
      refine .n (run_for (ts := [11, 12]) (fun k => [.dat (encH h), .dat (.int v), .dat (.int t), .dat (.int pr), .dat (.list (ls.map encS)), .dat (encS tu), .dat (encS S), .dat (encS l), .ml ((R ++ (l.take k).map fun q => (p.1 + q.1, p.2 * q.2)).map encI), .dat (.int p.1), .dat (encQ p.2), .un, .un, .un]) (ei_list (ed_var 7 rfl)) (by rw [List.take_zero, List.map_nil, List.append_nil]; exact (.eq (.eq (.eq (.eq (.eq (.eq (.eq (.eq (.eq (.eq (.eq (.un (.un (.un .nil))))))))))))))) (fun k d hk2 hd => ?_)) ?_
      · rw [List.length_map] at hk2
        obtain rfl : d = encI l[k] := by rw [List.getElem?_map, List.getElem?_eq_getElem hk2] at hd; exact (Option.some.inj hd).symm
        refine ⟨_, eg_tup (egs_cons (eg_name (by decide)) (egs_cons (eg_name (by decide)) egs_nil)) rfl, ?_⟩
        rw [app_stepG encI (fun q : Int × Rat => (p.1 + q.1, p.2 * q.2)) R hk2]
        have hq2 := hlq _ (List.getElem_mem hk2)
        exact .n (run_append (i := 8) rfl (ed_tup (ds := [.int (p.1 + (l[k]).1), encQ (p.2 * (l[k]).2)]) (ea_d (ed_I0 (ed_var 9 rfl) (ed_var 11 rfl)) (ea_d (ed_call (x := (p.2, (l[k]).2)) (ea_d (ed_var 10 rfl) (ea_d (ed_var 12 rfl) ea_nil)) rfl ⟨hq.mono (by decide), hq2.mono (by decide)⟩) ea_nil))) (by rw [List.length_map, List.length_append, List.length_map, List.length_take]; omega)) (.eq (.eq (.eq (.eq (.eq (.eq (.eq (.eq (.eq (.eq (.eq (.un (.un (.un .nil))))))))))))))
      · rw [List.length_map, List.take_length]
        exact (.eq (.eq (.eq (.eq (.eq (.eq (.eq (.eq (.eq (.un (.un (.un (.un (.un .nil))))))))))))))
    · rw [List.length_map, List.take_length]
      exact run_pub 8 rfl (run_set (ed_var 8 rfl))
  · rw [List.length_map, List.take_length]
    have hK := tot_k hls ls.length (Nat.le_refl _)
    rw [List.take_length] at hK
    have h27 := hpr ls.length (Nat.le_refl _)
    rw [List.take_length] at h27
    have hKl := hK.len
    have hKv := hK.val
    generalize totF ls = S at hKl hKv ⊢
    refine run_seq (run_set (d := .int T.prem) (ed_ixT (ds := [.int T.prem, .list (T.ls.map encL)]) (ed_ixl (ed_ixT (ds := [.list (h.ws.map encW), .list (h.ts.map encT)]) (ed_var 0 rfl) (ed_int 1) rfl).l (ed_var 2 rfl) hat2) (ed_int 0) rfl)) ?_
    unfold chgL
    rw [List.map_map]
    refine run_retN (en_lc (ei_list (ed_var 6 rfl)) (ts := [9, 10]) (by decide) (lc_map encI (fun p : Int × Rat => encI (pr - T.prem - remF T.ls p.1, p.2)) fun p hp => ⟨_, eg_tup (egs_cons (eg_name (by decide)) (egs_cons (eg_name (by decide)) egs_nil)) rfl, et_yes, ?_⟩) (by rw [List.length_map]; omega))
    have hpv := hKv p hp
    have p20 : (2 : Int) ^ 20 = 1048576 := by decide
    exact ed_tup (ds := [.int (pr - T.prem - remF T.ls p.1), encQ p.2]) (ea_d (ed_I0 (g := fun i j => i - j) (ed_I0 (g := fun i j => i - j) (ed_var 3 rfl) (ed_var 13 rfl)) (ed_call (x := (T, p.1)) (ea_d (ed_ixl (ed_ixT (ds := [.list (h.ws.map encW), .list (h.ts.map encT)]) (ed_var 0 rfl) (ed_int 1) rfl).l (ed_var 2 rfl) hat2) (ea_d (ed_var 9 rfl) ea_nil)) rfl ⟨htt.1, hpv.1, Bt.mono (n := 20) (bt_range (by omega) (by omega)) (by decide)⟩)) (ea_d (ed_var 10 rfl) ea_nil))

end
end KP

namespace KP
open PySem L2 DL MX
section
variable {P : Program} {w : World} {K : PySem.W.Frag} {mg : Str → Option Value} {base : Heap}
/-! ### k40: the law's year, values and means -/
abbrev Y40 := Int × Int × Rat
abbrev encY (y : Y40) : PyData := .tuple [.int y.1, .int y.2.1, encQ y.2.2]
def yrow (r : Int) (u : Spr) (p : Int × Rat) : List Y40 := u.map fun q => (r + p.1, q.1, p.2 * q.2)
def yearF (r : Int) (s u : Spr) : List Y40 := s.flatMap (yrow r u)
theorem flat_lenG {α β : Type} (f : α → List β) (k : Nat) : ∀ l : List α, (∀ x ∈ l, (f x).length ≤ k) → (l.flatMap f).length ≤ l.length * k
  | [], _ => by simp
  | x :: l, h => by
    rw [List.flatMap_cons, List.length_append, List.length_cons, Nat.add_mul, Nat.one_mul]
    have h1 := h x List.mem_cons_self
    have h2 := flat_lenG f k l fun y hy => h y (List.mem_cons_of_mem _ hy)
    omega
structure YrA where
  h : Hs
  r : Int
  v : Int
  t : Int
def yco (a : YrA) : CoA := ⟨a.h, a.v, a.t⟩
structure LchK (s : Spr) : Prop where
  pq : ∃ D : Int, 0 < D ∧ D ≤ 4096 ∧ Pq D s
  len : s.length ≤ 27
  val : ∀ p ∈ s, p.1 ≤ 100
theorem lch_k {a : CoA} (h : CoP a) : LchK (lchF a) := by
  have hw := h.h.ws _ (List.mem_of_getElem? (wAt_at (h := a.h) h.v.1 h.v.2))
  have htt := h.h.q.ts _ (List.mem_of_getElem? (tAt_at (h := a.h) h.t.1 h.t.2))
  have hK := tot_k hw.lines (wAt a.h a.v).lines.length (Nat.le_refl _)
  have h27 := hw.q.prod (wAt a.h a.v).lines.length (Nat.le_refl _)
  rw [List.take_length] at hK h27
  obtain ⟨D, d1, d2, d3⟩ := hK.pq
  have h16 := p16 hw.q.few
  have hl := hK.len
  refine ⟨⟨D, d1, by omega, d3.map fun x => (wAt a.h a.v).prem - (tAt a.h a.t).prem - remF (tAt a.h a.t).ls x⟩, by unfold lchF chgL; rw [List.length_map]; omega, fun p hp => ?_⟩
  obtain ⟨q, hq, rfl⟩ := List.mem_map.mp hp
  have h1 := hK.val q hq
  have h2 := remF_bd htt.1.ok h1.1
  have h3 := htt.2.prem
  have h5 := hw.prem
  show (wAt a.h a.v).prem - (tAt a.h a.t).prem - remF (tAt a.h a.t).ls q.1 ≤ 100
  omega
theorem sc__law_year : FnScope ["house", "reserve", "weather", "treaty", "found", "change", "chance", "turn", "turning"] ["house", "reserve", "weather", "treaty"] (defScope s__law_year) := ⟨rfl, rfl, rfl, by decide +kernel, rfl, by decide +kernel, by decide +kernel⟩
def lyF (a : YrA) : List Y40 := yearF a.r (lchF (yco a)) (wAt a.h a.v).turns
def sp__law_year (K : PySem.W.Frag) : Sp := SpN K (fun a : YrA => [.dat (encH a.h), .dat (.int a.r), .dat (.int a.v), .dat (.int a.t)]) (fun a => CoP (yco a)) (fun a => (lyF a).map encY)
theorem ok__law_year {f : Addr} {fd : FuncData} (F : Fun K "_law_year" "_law_year" s__law_year f fd) (C__law_changes : Callee P w K mg base CX0 3 "_law_changes" ["house", "weather", "treaty"] (sp__law_changes K)) (C__law_times : Callee P w K mg base CX0 2 "_law_times" ["first", "second"] (sp__law_times K)) :
    FnOk P w K mg base CX0 4 f fd ["house", "reserve", "weather", "treaty"] (sp__law_year K) := by
  have sc := sc__law_year
  refine fn_N F sc (fun _ => rfl) fun cdv A outer s H E hr => ?_
  refine ⟨_, (pss_cons (ps_set (i := 4) sc.nd rfl (by first | exact Or.inl rfl | exact Or.inr rfl) (pe_lst pa_nil))
      (pss_cons (ps_for PassesOwn.never rfl (pi_list (pe_c C__law_changes (hr.mono (by decide)) pass0 (pa_cons (pv 0) (pa_cons (pv 2) (pa_cons (pv 3) pa_nil))))) (pg_tup rfl (pgs_cons (pg_name (i := 5) sc.nd rfl (by first | exact Or.inl rfl | exact Or.inr rfl)) (pgs_cons (pg_name (i := 6) sc.nd rfl (by first | exact Or.inl rfl | exact Or.inr rfl)) pgs_nil))) (pss_one (ps_for PassesOwn.never rfl (pi_list (pe_ix (r := rIxT K) ix_tup (pe_ix (r := rIxL K) ix_list (pe_ix (r := rIxT K) ix_tup (pv 0) pe_int (fun _ _ => rfl)) (pv 2) (fun _ _ => rfl)) pe_int (fun _ _ => rfl))) (pg_tup rfl (pgs_cons (pg_name (i := 7) sc.nd rfl (by first | exact Or.inl rfl | exact Or.inr rfl)) (pgs_cons (pg_name (i := 8) sc.nd rfl (by first | exact Or.inl rfl | exact Or.inr rfl)) pgs_nil))) (pss_one (ps_expr (pe_bm PySem.F.plainAttrs_list PySem.F.slot_list_append PySem.F.type_list_append mt_append (pv 4) (pa_cons (pe_tup (pa_cons (pe_op op_add (pv 1) (pv 5)) (pa_cons (pv 7) (pa_cons (pe_c C__law_times (hr.mono (by decide)) pass0 (pa_cons (pv 6) (pa_cons (pv 8) pa_nil))) pa_nil)))) pa_nil)))))))
      (pss_one (ps_ret (pv 4))))), fun a ha => ?_⟩
  obtain ⟨h, r, v, t⟩ := a
  have hc : CoP ⟨h, v, t⟩ := ha
  have hv : 0 ≤ v ∧ v < (h.ws.length : Int) := hc.v
  have hw := hc.h.ws _ (List.mem_of_getElem? (wAt_at (h := h) hv.1 hv.2))
  have hat := wAt_d (h := h) hv.1 hv.2
  have hL := lch_k hc
  obtain ⟨D, d1, d2, d3⟩ := hL.pq
  have hlen := hL.len
  have hcall : EvN K (tCall (sp__law_changes K) [] E0 (tCons (tVar 0) (tCons (tVar 2) (tCons (tVar 3) tNil)))) [.dat (encH h), .dat (.int r), .dat (.int v), .dat (.int t), .ml [], .un, .un, .un, .un] ((lchF ⟨h, v, t⟩).map encI) := en_call (x := (⟨h, v, t⟩ : CoA)) (ea_d (ed_var 0 rfl) (ea_d (ed_var 2 rfl) (ea_d (ed_var 3 rfl) ea_nil))) rfl hc
  show Run K E _ [.dat (encH h), .dat (.int r), .dat (.int v), .dat (.int t), .un, .un, .un, .un, .un] (.rn ((yearF r (lchF ⟨h, v, t⟩) (wAt h v).turns).map encY))
  have hsq : ∀ p ∈ lchF ⟨h, v, t⟩, Qb 14 p.2 := fun p hp => qb_01 d1 (bt_small d1 (by omega)) (d3.dn p hp) (by have := d3.pos p hp; grind) (d3.le p hp)
  generalize lchF ⟨h, v, t⟩ = S at hlen hcall hsq ⊢
  generalize wAt h v = W at hw hat ⊢
  obtain ⟨pr, ls, u⟩ := W
  have huq := SpK.qb hw.turns
  have hu4 : u.length ≤ 4 := hw.turns.g.len
  have huq : ∀ p ∈ u, Qb 14 p.2 := huq
  refine run_seq (run_setN (en_lst (ds := []) ea_nil)) ?_
  refine run_seq (run_for (ts := [5, 6]) (fun i => [.dat (encH h), .dat (.int r), .dat (.int v), .dat (.int t), .ml (((S.take i).flatMap (yrow r u)).map encY), .un, .un, .un, .un]) (ei_list hcall.d) (by rw [List.take_zero]; exact (.eq (.eq (.eq (.eq (.eq (.un (.un (.un (.un .nil)))))))))) (fun i d hi hd => ?_)) ?_
  · rw [List.length_map] at hi
    obtain rfl : d = encI S[i] := by rw [List.getElem?_map, List.getElem?_eq_getElem hi] at hd; exact (Option.some.inj hd).symm
    refine ⟨_, eg_tup (egs_cons (eg_name (by decide)) (egs_cons (eg_name (by decide)) egs_nil)) rfl, ?_⟩
    rw [flat_stepG _ hi]
    have hl2 : ((S.take i).flatMap (yrow r u)).length ≤ S.length * u.length := Nat.le_trans (flat_lenG (yrow r u) u.length (S.take i) fun p _ => by unfold yrow; rw [List.length_map]; exact Nat.le_refl _) (Nat.mul_le_mul_right _ (by rw [List.length_take]; omega))
    have hll : S.length * u.length ≤ 27 * 4 := Nat.mul_le_mul hlen hu4
    have hq := hsq _ (List.getElem_mem hi)
    generalize (S.take i).flatMap (yrow r u) = R at hl2 ⊢
    generalize S[i] = p at hq ⊢
    refine .n (run_for (ts := [7, 8]) (fun k => [.dat (encH h), .dat (.int r), .dat (.int v), .dat (.int t), .ml ((R ++ (u.take k).map fun q => ((r + p.1, q.1, p.2 * q.2) : Y40)).map encY), .dat (.int p.1), .dat (encQ p.2), .un, .un]) (ei_list (ed_ixT (ds := [.int pr, .list (ls.map encS), encS u]) (ed_ixl (ed_ixT (ds := [.list (h.ws.map encW), .list (h.ts.map encT)]) (ed_var 0 rfl) (ed_int 0) rfl).l (ed_var 2 rfl) hat) (ed_int 2) rfl)) (by rw [List.take_zero, List.map_nil, List.append_nil]; exact (.eq (.eq (.eq (.eq (.eq (.eq (.eq (.un (.un .nil)))))))))) (fun k d hk2 hd => ?_)) ?_
    · rw [List.length_map] at hk2
      obtain rfl : d = encI u[k] := by rw [List.getElem?_map, List.getElem?_eq_getElem hk2] at hd; exact (Option.some.inj hd).symm
      refine ⟨_, eg_tup (egs_cons (eg_name (by decide)) (egs_cons (eg_name (by decide)) egs_nil)) rfl, ?_⟩
      rw [app_stepG encY (fun q : Int × Rat => ((r + p.1, q.1, p.2 * q.2) : Y40)) R hk2]
      have hq2 := huq _ (List.getElem_mem hk2)
      exact .n (run_append (i := 4) rfl (ed_tup (ds := [.int (r + p.1), .int (u[k]).1, encQ (p.2 * (u[k]).2)]) (ea_d (ed_I0 (ed_var 1 rfl) (ed_var 5 rfl)) (ea_d (ed_var 7 rfl) (ea_d (ed_call (x := (p.2, (u[k]).2)) (ea_d (ed_var 6 rfl) (ea_d (ed_var 8 rfl) ea_nil)) rfl ⟨hq.mono (by decide), hq2.mono (by decide)⟩) ea_nil)))) (by rw [List.length_map, List.length_append, List.length_map, List.length_take]; omega)) (.eq (.eq (.eq (.eq (.eq (.eq (.eq (.un (.un .nil)))))))))
    · rw [List.length_map, List.take_length]
      exact (.eq (.eq (.eq (.eq (.eq (.un (.un (.un (.un .nil)))))))))
  · rw [List.length_map, List.take_length]
    exact run_retM 4 rfl
structure LvK (a : VaA) : Prop where
  w1 : a.w < a.t.rows.length
  w2 : a.w < a.t.sc.length
  few : (rowF a.t a.w).length ≤ 100
  c : Qb 60 (a.t.sc.getD a.w 0)
  q : Qk a.t.q
  r : a.r ≤ 200
theorem mul_pow (c q : Rat) (e : Nat) : Rat.divInt (c.num * q.num ^ e) ((c.den : Int) * (q.den : Int) ^ e) = c * q ^ e := by
  rw [Rat.divInt_eq_div, ratpow q e, Rat.intCast_mul, Rat.intCast_mul]
  have h := num_is c
  have hd : ((c.den : Int) : Rat) ≠ 0 := fun z => den_ne c (Rat.intCast_inj.mp z)
  have hp : (((q.den : Int) ^ e : Int) : Rat) ≠ 0 := fun z => by
    have h0 : (q.den : Int) ^ e = 0 := Rat.intCast_inj.mp z
    have : 0 < (q.den : Int) ^ e := Int.pow_pos (by have := q.den_pos; omega)
    omega
  generalize (c.num : Rat) = A at *
  generalize ((c.den : Int) : Rat) = B at *
  generalize ((q.num ^ e : Int) : Rat) = C
  generalize (((q.den : Int) ^ e : Int) : Rat) = D at *
  rw [h]; grind
theorem qk_bt {q : Rat} (h : Qk q) : Bt 4 q.num ∧ Bt 4 (q.den : Int) := by
  have hd := Int.le_of_dvd (by decide) (dn_den (D := 8) (by decide) h.dn)
  have hp := q.den_pos
  have hn := h.num
  have hle : q.num ≤ (q.den : Int) := by
    have e := num_is q
    have hdr : (0 : Rat) < ((q.den : Int) : Rat) := by
      have : (0 : Int) < (q.den : Int) := by omega
      exact_mod_cast this
    have hl := h.le
    have : (q.num : Rat) ≤ ((q.den : Int) : Rat) := by
      have := Rat.mul_le_mul_of_nonneg_right hl (show 0 ≤ ((q.den : Int) : Rat) by grind)
      have hm : q * ((q.den : Int) : Rat) = (q.num : Rat) := by
        have hne : ((q.den : Int) : Rat) ≠ 0 := by grind
        generalize (q.num : Rat) = A at *
        generalize ((q.den : Int) : Rat) = B at *
        rw [e]
        have : A / B * B = A := by grind
        exact this
      rw [hm] at this
      grind
    exact_mod_cast this
  have e4 : (2 : Int) ^ 4 = 16 := by decide
  exact ⟨bt_range (by omega) (by omega), bt_range (by omega) (by omega)⟩
theorem sc__law_value : FnScope ["table", "reserve", "weather", "rows", "scales", "q", "top", "low", "step"] ["table", "reserve", "weather"] (defScope s__law_value) := ⟨rfl, rfl, rfl, by decide +kernel, rfl, by decide +kernel, by decide +kernel⟩
def sp__law_value (K : PySem.W.Frag) : Sp := SpD K (fun a : VaA => [.dat (encTq a.t), .dat (.int a.r), .dat (.int (a.w : Int))]) LvK (fun a => encQ (valF a.t a.r a.w))
theorem ok__law_value {f : Addr} {fd : FuncData} (F : Fun K "_law_value" "_law_value" s__law_value f fd) (m_len : mg "len" = none) (m_range : mg "range" = none) (C__law_fraction : Callee P w K mg base CX0 1 "_law_fraction" ["top", "low"] (sp__law_fraction K)) : FnOk P w K mg base CX0 2 f fd ["table", "reserve", "weather"] (sp__law_value K) := by
  have sc := sc__law_value
  refine fn_D F sc (fun _ => rfl) fun cdv A outer s0 H E hr => ?_
  refine ⟨_, (pss_cons (ps_asg (pv 0) (pg_tup rfl (pgs_cons (pg_name (i := 3) sc.nd rfl (by first | exact Or.inl rfl | exact Or.inr rfl)) (pgs_cons (pg_name (i := 4) sc.nd rfl (by first | exact Or.inl rfl | exact Or.inr rfl)) (pgs_cons (pg_name (i := 5) sc.nd rfl (by first | exact Or.inl rfl | exact Or.inr rfl)) pgs_nil)))))
      (pss_cons (ps_if (pt_cmpR op_lt (pv 1) pe_int (nomark _)) (pss_one (ps_ret (pe_tup (pa_cons pe_int (pa_cons pe_int pa_nil))))) pss_nil)
      (pss_cons (ps_if (pt_cmpR op_lt (pv 1) (pe_callB (id := "len") (r := rLenS K) call_len_seq (by rfl) m_len PySem.boot_len (pa_cons (pe_ix (r := rIxL K) ix_list (pv 3) (pv 2) (fun _ _ => rfl)) pa_nil)) (nomark _)) (pss_one (ps_ret (pe_ix (r := rIxL K) ix_list (pe_ix (r := rIxL K) ix_list (pv 3) (pv 2) (fun _ _ => rfl)) (pv 1) (fun _ _ => rfl)))) pss_nil)
      (pss_cons (ps_asg (pe_ix (r := rIxL K) ix_list (pv 4) (pv 2) (fun _ _ => rfl)) (pg_tup rfl (pgs_cons (pg_name (i := 6) sc.nd rfl (by first | exact Or.inl rfl | exact Or.inr rfl)) (pgs_cons (pg_name (i := 7) sc.nd rfl (by first | exact Or.inl rfl | exact Or.inr rfl)) pgs_nil))))
      (pss_cons (ps_for PassesOwn.never rfl (pi_range1 (by rfl) m_range (pa_cons (pe_op op_sub (pv 1) (pe_callB (id := "len") (r := rLenS K) call_len_seq (by rfl) m_len PySem.boot_len (pa_cons (pe_ix (r := rIxL K) ix_list (pv 3) (pv 2) (fun _ _ => rfl)) pa_nil))) pa_nil)) (pg_name (i := 8) sc.nd rfl (by first | exact Or.inl rfl | exact Or.inr rfl)) (pss_cons (ps_set (i := 6) sc.nd rfl (by first | exact Or.inl rfl | exact Or.inr rfl) (pe_op op_mulX (pv 6) (pe_ix (r := rIxT K) ix_tup (pv 5) pe_int (fun _ _ => rfl))))
      (pss_one (ps_set (i := 7) sc.nd rfl (by first | exact Or.inl rfl | exact Or.inr rfl) (pe_op op_mulX (pv 7) (pe_ix (r := rIxT K) ix_tup (pv 5) pe_int (fun _ _ => rfl)))))))
      (pss_one (ps_ret (pe_c C__law_fraction (hr.mono (by decide)) pass0 (pa_cons (pv 6) (pa_cons (pv 7) pa_nil)))))))))), fun a ha => ?_⟩
  obtain ⟨t, r, wi⟩ := a
  have h1 : wi < t.rows.length := ha.w1
  have h2 : wi < t.sc.length := ha.w2
  have h3 : (rowF t wi).length ≤ 100 := ha.few
  have h4 : Qb 60 (t.sc.getD wi 0) := ha.c
  have h5 : Qk t.q := ha.q
  have h6 : r ≤ 200 := ha.r
  obtain ⟨q1, q2⟩ := qk_bt h5
  refine run_seq (run_asg (ts := [3, 4, 5]) (ed_var 0 rfl) (eg_tup (egs_cons (eg_name (by decide)) (egs_cons (eg_name (by decide)) (egs_cons (eg_name (by decide)) egs_nil))) rfl)) ?_
  have atN : ∀ {ds : List D} {i : Int} {n : Nat} {d : D}, i = (n : Int) → ds[n]? = some d → atI ds i = some d := fun {ds i n d} e h => by
    subst e
    have hl : n < ds.length := (List.getElem?_eq_some_iff.mp h).1
    unfold atI ixN
    rw [if_pos (by omega), if_pos (by omega)]
    show ds[((n : Int)).toNat]? = _
    rw [Int.toNat_natCast]; exact h
  have er : atI (t.rows.map encRq) (wi : Int) = some (encRq (rowF t wi)) := atN rfl (by
    unfold rowF
    rw [List.getElem?_map, List.getD_eq_getElem?_getD, List.getElem?_eq_getElem h1]; rfl)
  have es : atI (t.sc.map encQ) (wi : Int) = some (encQ (t.sc.getD wi 0)) := atN rfl (by rw [List.getElem?_map, List.getD_eq_getElem?_getD, List.getElem?_eq_getElem h2]; rfl)
  show Run K E _ [.dat (encTq t), .dat (.int r), .dat (.int (wi : Int)), .dat (.list (t.rows.map encRq)), .dat (.list (t.sc.map encQ)), .dat (encQ t.q), .un, .un, .un] (.rt (encQ (valF t r wi)))
  unfold valF
  generalize t.sc.getD wi 0 = c at *
  generalize rowF t wi = row at *
  by_cases c0 : r < 0
  · rw [if_pos c0]
    exact run_seqR (run_ifT ((et_test (ed_B0 (ed_var 1 rfl) (ed_int 0))).is (decide_eq_true c0)) (run_ret (ed_tup (ds := [.int 1, .int 1]) (ea_d (ed_int 1) (ea_d (ed_int 1) ea_nil)))))
  · rw [if_neg c0]
    refine run_seq (run_ifF ((et_test (ed_B0 (ed_var 1 rfl) (ed_int 0))).is (decide_eq_false c0)) run_next) ?_
    by_cases c1 : r < (row.length : Int)
    · rw [if_pos c1]
      refine run_seqR (run_ifT ((et_test (ed_B0 (ed_var 1 rfl) (ed_lenl (ed_ixl (ed_var 3 rfl).l (ed_var 2 rfl) er).l))).is (by rw [List.length_map]; exact decide_eq_true c1)) (run_ret (ed_ixl (ed_ixl (ed_var 3 rfl).l (ed_var 2 rfl) er).l (ed_var 1 rfl) (atN (n := r.toNat) (by omega) (by
        rw [List.getElem?_map, List.getD_eq_getElem?_getD, List.getElem?_eq_getElem (by omega)]; rfl)))))
    · rw [if_neg c1]
      refine run_seq (run_ifF ((et_test (ed_B0 (ed_var 1 rfl) (ed_lenl (ed_ixl (ed_var 3 rfl).l (ed_var 2 rfl) er).l))).is (by rw [List.length_map]; exact decide_eq_false c1)) run_next) ?_
      refine run_seq (run_asg (ts := [6, 7]) (ed_ixl (ed_var 4 rfl).l (ed_var 2 rfl) es) (eg_tup (egs_cons (eg_name (by decide)) (egs_cons (eg_name (by decide)) egs_nil)) rfl)) ?_
      obtain ⟨e, he⟩ : ∃ e : Nat, r.toNat - row.length = e := ⟨_, rfl⟩
      rw [he]
      have he2 : e ≤ 200 := by omega
      have bn := fun i : Nat => (h4.num.mul (bt_pow q1 i))
      have bd := fun i : Nat => (h4.den.mul (bt_pow q2 i))
      refine run_seq (run_for (ts := [8]) (ds := rngD 0 1 e) (fun i => [.dat (encTq t), .dat (.int r), .dat (.int (wi : Int)), .dat (.list (t.rows.map encRq)), .dat (.list (t.sc.map encQ)), .dat (encQ t.q), .dat (.int (c.num * t.q.num ^ i)), .dat (.int ((c.den : Int) * (t.q.den : Int) ^ i)), .un]) (ei_is (ei_rng1 (j := (e : Int)) ((ed_I0 (g := fun i j => i - j) (ed_var 1 rfl) (ed_lenl (ed_ixl (ed_var 3 rfl).l (ed_var 2 rfl) er).l)).is (by rw [List.length_map]; congr 1; omega)) (by omega)) (by rw [Int.toNat_natCast])) (by rw [Int.pow_zero, Int.pow_zero, Int.mul_one, Int.mul_one]; exact (.eq (.eq (.eq (.eq (.eq (.eq (.eq (.eq (.un .nil)))))))))) (fun i d hi hd => ⟨_, eg_name (by decide), ?_⟩)) ?_
      · obtain ⟨hi2, rfl⟩ := rngD_get hd
        rw [Int.pow_succ, Int.pow_succ, ← Int.mul_assoc, ← Int.mul_assoc]
        exact .n (run_seq (run_set (ed_I (ed_var 6 rfl) (ed_ixT (ds := [.int t.q.num, .int (t.q.den : Int)]) (ed_var 5 rfl) (ed_int 0) rfl) ((bn i).mulx q1 (by omega)))) (run_set (ed_I (ed_var 7 rfl) (ed_ixT (ds := [.int t.q.num, .int (t.q.den : Int)]) (ed_var 5 rfl) (ed_int 1) rfl) ((bd i).mulx q2 (by omega))))) (.eq (.eq (.eq (.eq (.eq (.eq (.eq (.eq (.un .nil)))))))))
      · rw [rngD_len]
        have p0 : 0 < (c.den : Int) * (t.q.den : Int) ^ e := Int.mul_pos (by have := c.den_pos; omega) (Int.pow_pos (by have := t.q.den_pos; omega))
        exact run_ret ((ed_call (x := (c.num * t.q.num ^ e, (c.den : Int) * (t.q.den : Int) ^ e)) (ea_d (ed_var 6 rfl) (ea_d (ed_var 7 rfl) ea_nil)) rfl ⟨p0, (bd e).mono (by omega), (bn e).mono (by omega)⟩).is (congrArg encQ (mul_pow c t.q e)))

end
end KP

namespace KP
open PySem L2 DL MX
section
variable {P : Program} {w : World} {K : PySem.W.Frag} {mg : Str → Option Value} {base : Heap}
/-! ### k40: the law's mean -/
theorem sum_flatF {α β : Type} (f : α → List β) (g : β → Rat) : ∀ l : List α, ((l.flatMap f).map g).sum = (l.map fun x => ((f x).map g).sum).sum
  | [] => rfl
  | x :: l => by rw [List.flatMap_cons, List.map_append, List.sum_append, List.map_cons, List.sum_cons, sum_flatF f g l]
theorem year_ex (t : Tq) (r : Int) (s u : Spr) : ((yearF r s u).map fun y => y.2.2 * valF t y.1 y.2.1.toNat).sum = Ex s fun v => Ex u fun w => valF t (r + v) w.toNat := by
  unfold yearF
  rw [sum_flatF]
  have e : (s.map fun x => ((yrow r u x).map fun y : Y40 => y.2.2 * valF t y.1 y.2.1.toNat).sum) = s.map fun p => p.2 * Ex u fun w => valF t (r + p.1) w.toNat := List.map_congr_left fun p _ => by
    unfold yrow
    rw [List.map_map]
    have h : ∀ l : Spr, (l.map ((fun y : Y40 => y.2.2 * valF t y.1 y.2.1.toNat) ∘ fun q : Int × Rat => ((r + p.1, q.1, p.2 * q.2) : Y40))).sum = p.2 * Ex l fun w => valF t (r + p.1) w.toNat := by
      intro l
      induction l with
      | nil => rw [ex_nil]; show (0 : Rat) = _; grind
      | cons q l ih => rw [List.map_cons, List.sum_cons, ex_cons, ih]; show p.2 * q.2 * valF t (r + p.1) q.1.toNat + _ = _; grind
    exact h u
  rw [e]; rfl
theorem val_k {n : Nat} {t : Tq} (h : TbK n t) {w : Nat} (hw : w < n) {x : Int} (hx : x ≤ 200) : Dn (lam * 8 ^ 200) (valF t x w) ∧ -64 ≤ valF t x w ∧ valF t x w ≤ 64 := by
  have hm := rowF_mem (t := t) (w := w) (by rw [h.r]; exact hw)
  unfold valF
  split
  · exact ⟨Dn.int _ 1, by decide, by decide⟩
  · split
    · have := vk_getD (h.item _ hm) x.toNat
      exact ⟨this.dn.up, this.lo, this.hi⟩
    · have hv := vk_getD h.scv w
      obtain ⟨q1, q2, q3⟩ := q_pow h.q (x.toNat - (rowF t w).length)
      exact ⟨(hv.dn.mul q3).pow_up (by omega), mul_bd ⟨hv.lo, hv.hi⟩ ⟨q1, q2⟩ (by decide)⟩
theorem sum_dnF {E : Int} : ∀ {l : List Rat}, (∀ x ∈ l, Dn E x ∧ -64 ≤ x ∧ x ≤ 64) → Dn E l.sum ∧ -((64 * (l.length : Int) : Int) : Rat) ≤ l.sum ∧ l.sum ≤ ((64 * (l.length : Int) : Int) : Rat)
  | [], _ => by rw [List.sum_nil]; exact ⟨Dn.zero E, by decide +kernel, by decide +kernel⟩
  | x :: l, h => by
    obtain ⟨a, b, c⟩ := sum_dnF (l := l) fun y hy => h y (List.mem_cons_of_mem _ hy)
    obtain ⟨d, e, f⟩ := h x List.mem_cons_self
    rw [List.sum_cons]
    have e1 : ((64 * ((x :: l).length : Int) : Int) : Rat) = ((64 * (l.length : Int) : Int) : Rat) + 64 := by
      rw [List.length_cons, Int.natCast_succ, Int.mul_add, Rat.intCast_add]; rfl
    rw [e1]
    exact ⟨d.add a, by grind, by grind⟩
theorem tbk_lv {n : Nat} {t : Tq} (h : TbK n t) {w : Nat} (hw : w < n) {x : Int} (hx : x ≤ 200) : LvK ⟨t, x, w⟩ := by
  obtain ⟨z, z1, z2⟩ := h.eq
  have hm := rowF_mem (t := t) (w := w) (by rw [h.r]; exact hw)
  exact ⟨by show w < t.rows.length; rw [h.r]; exact hw, by show w < t.sc.length; rw [h.s]; exact hw, by show (rowF t w).length ≤ 100; rw [z2 _ hm]; omega, (vk_getD h.scv w).qb, h.q, hx⟩
theorem tbk_va {n : Nat} {t : Tq} (h : TbK n t) {w : Nat} (hw : w < n) (x : Int) : VaP ⟨t, x, w⟩ := by
  obtain ⟨z, z1, z2⟩ := h.eq
  have hm := rowF_mem (t := t) (w := w) (by rw [h.r]; exact hw)
  exact ⟨by show w < t.rows.length; rw [h.r]; exact hw, by show w < t.sc.length; rw [h.s]; exact hw, fun c hc => (h.scv c hc).qb.mono (by decide), h.q.q40, by show (rowF t w).length ≤ 10000; rw [z2 _ hm]; omega⟩
def yOf (a : MaA) : YrA := ⟨a.h, (a.r : Int), (a.w : Int), a.tr⟩
theorem fit_co {a : MaA} (h : FitK a) : CoP (yco (yOf a)) := ⟨h.h, ⟨by show 0 ≤ (a.w : Int); omega, by have := h.w; show (a.w : Int) < (a.h.ws.length : Int); omega⟩, h.tr⟩
theorem mean_law {a : MaA} (h : FitK a) : ((lyF (yOf a)).map fun y => y.2.2 * valF a.t y.1 y.2.1.toNat).sum = maF a := by
  obtain ⟨_, me, rw⟩ := fit_maq h
  rw [mean_is me rw]
  unfold lyF
  rw [year_ex]
  exact chgL_ex (wAt a.h (a.w : Int)).prem (tAt a.h a.tr) (wAt a.h (a.w : Int)).lines fun v => Ex (wAt a.h (a.w : Int)).turns fun w => valF a.t ((a.r : Int) + v) w.toNat
structure YtF (a : MaA) (E : Int) : Prop where
  e0 : 0 < E
  e1 : Bt 700 E
  c : ∀ y ∈ lyF (yOf a), Qb 30 y.2.2
  w : ∀ y ∈ lyF (yOf a), 0 ≤ y.2.1 ∧ y.2.1 < (a.h.ws.length : Int)
  r : ∀ y ∈ lyF (yOf a), y.1 ≤ 200
  t : ∀ y ∈ lyF (yOf a), Dn E (y.2.2 * valF a.t y.1 y.2.1.toNat) ∧ -64 ≤ y.2.2 * valF a.t y.1 y.2.1.toNat ∧ y.2.2 * valF a.t y.1 y.2.1.toNat ≤ 64
  len : (lyF (yOf a)).length ≤ 108
theorem yt_f {a : MaA} (h : FitK a) (hr : a.r ≤ 50 + 48) : ∃ E, YtF a E := by
  have hL := lch_k (fit_co h)
  have hw := h.h.ws _ (List.mem_of_getElem? (wAt_at (h := a.h) (v := (a.w : Int)) (by omega) (by have := h.w; omega)))
  obtain ⟨D, d1, d2, d3⟩ := hL.pq
  obtain ⟨N, n1, n2, n3⟩ := hw.turns.pq
  have hlen := hL.len
  have hval := hL.val
  have hul : (wAt a.h (a.w : Int)).turns.length ≤ 4 := hw.turns.g.len
  have huv := hw.turns.g.val
  have eY : lyF (yOf a) = yearF (a.r : Int) (lchF (yco (yOf a))) (wAt a.h (a.w : Int)).turns := rfl
  rw [show (yco (yOf a)) = yco (yOf a) from rfl] at eY
  generalize lchF (yco (yOf a)) = S at *
  generalize (wAt a.h (a.w : Int)).turns = U at *
  have hm : ∀ y ∈ lyF (yOf a), ∃ p ∈ S, ∃ q ∈ U, y = ((a.r : Int) + p.1, q.1, p.2 * q.2) := fun y hy => by
    rw [eY] at hy
    obtain ⟨p, hp, hq⟩ := List.mem_flatMap.mp hy
    obtain ⟨q, hq2, rfl⟩ := List.mem_map.mp hq
    exact ⟨p, hp, q, hq2, rfl⟩
  have hc : ∀ p ∈ S, ∀ q ∈ U, 0 ≤ p.2 * q.2 ∧ p.2 * q.2 ≤ 1 ∧ Dn (D * N) (p.2 * q.2) := fun p hp q hq => by
    have a1 := d3.pos p hp
    have a2 := d3.le p hp
    have b1 := n3.pos q hq
    have b2 := n3.le q hq
    refine ⟨Rat.mul_nonneg (by grind) (by grind), ?_, (d3.dn p hp).mul (n3.dn q hq)⟩
    have := Rat.mul_le_mul_of_nonneg_left b2 (show 0 ≤ p.2 by grind)
    grind
  have hDN : 0 < D * N := Int.mul_pos d1 n1
  have bDN : Bt 26 (D * N) := (bt_small d1 d2).mul (bt_small n1 (by omega))
  refine ⟨(lam * 8 ^ 200) * (D * N), Int.mul_pos (Int.mul_pos lam_pos (Int.pow_pos (by decide))) hDN, ((lam_bt.mul (bt_8 200)).mul bDN).mono (by decide), fun y hy => ?_, fun y hy => ?_, fun y hy => ?_, fun y hy => ?_, ?_⟩
  · obtain ⟨p, hp, q, hq, rfl⟩ := hm y hy
    obtain ⟨c1, c2, c3⟩ := hc p hp q hq
    exact (qb_01 hDN bDN c3 c1 c2).mono (by decide)
  · obtain ⟨p, hp, q, hq, rfl⟩ := hm y hy
    exact huv q hq
  · obtain ⟨p, hp, q, hq, rfl⟩ := hm y hy
    have := hval p hp
    show (a.r : Int) + p.1 ≤ 200
    omega
  · obtain ⟨p, hp, q, hq, rfl⟩ := hm y hy
    obtain ⟨c1, c2, c3⟩ := hc p hp q hq
    have hv := val_k h.t (w := q.1.toNat) (by have := huv q hq; omega) (x := (a.r : Int) + p.1) (by have := hval p hp; omega)
    show Dn _ (p.2 * q.2 * valF a.t ((a.r : Int) + p.1) q.1.toNat) ∧ _
    rw [Rat.mul_comm]
    exact ⟨hv.1.mul c3, mul_bd hv.2 ⟨c1, c2⟩ (by decide)⟩
  · rw [eY]
    have h1 := flat_lenG (yrow (a.r : Int) U) U.length S fun p _ => by unfold yrow; rw [List.length_map]; exact Nat.le_refl _
    have h2 : S.length * U.length ≤ 27 * 4 := Nat.mul_le_mul hlen hul
    show (S.flatMap (yrow (a.r : Int) U)).length ≤ 108
    omega
theorem sc__law_mean : FnScope ["house", "table", "reserve", "weather", "treaty", "total", "after", "turn", "chance"] ["house", "table", "reserve", "weather", "treaty"] (defScope s__law_mean) := ⟨rfl, rfl, rfl, by decide +kernel, rfl, by decide +kernel, by decide +kernel⟩
def sp__law_mean (K : PySem.W.Frag) : Sp := SpD K (fun a : MaA => [.dat (encH a.h), .dat (encTq a.t), .dat (.int (a.r : Int)), .dat (.int (a.w : Int)), .dat (.int a.tr)]) (fun a => FitK a ∧ a.r ≤ 98) (fun a => encQ (maF a))
def tmF (a : MaA) (i : Nat) : Rat := (((lyF (yOf a)).take i).map fun y => y.2.2 * valF a.t y.1 y.2.1.toNat).sum
theorem tm_qb {a : MaA} {E : Int} (f : YtF a E) (i : Nat) : Qb 720 (tmF a i) := by
  obtain ⟨h1, h2, h3⟩ := sum_dnF (E := E) (l := ((lyF (yOf a)).take i).map fun y => y.2.2 * valF a.t y.1 y.2.1.toNat) fun x hx => by
    obtain ⟨y, hy, rfl⟩ := List.mem_map.mp hx
    exact f.t y (List.mem_of_mem_take hy)
  have hl := f.len
  rw [List.length_map, List.length_take] at h2 h3
  have p13 : (2 : Int) ^ 13 = 8192 := by decide
  exact (qb_dn (m := 13) f.e0 f.e1 (bt_range (by omega) (by omega)) h1 h2 h3).mono (by decide)
theorem ok__law_mean {f : Addr} {fd : FuncData} (F : Fun K "_law_mean" "_law_mean" s__law_mean f fd) (C__law_plus : Callee P w K mg base CX0 2 "_law_plus" ["first", "second"] (sp__law_plus K)) (C__law_times : Callee P w K mg base CX0 2 "_law_times" ["first", "second"] (sp__law_times K)) (C__law_value : Callee P w K mg base CX0 2 "_law_value" ["table", "reserve", "weather"] (sp__law_value K)) (C__law_year : Callee P w K mg base CX0 4 "_law_year" ["house", "reserve", "weather", "treaty"] (sp__law_year K)) :
    FnOk P w K mg base CX0 5 f fd ["house", "table", "reserve", "weather", "treaty"] (sp__law_mean K) := by
  have sc := sc__law_mean
  refine fn_D F sc (fun _ => rfl) fun cdv A outer s H E hr => ?_
  refine ⟨_, (pss_cons (ps_set (i := 5) sc.nd rfl (by first | exact Or.inl rfl | exact Or.inr rfl) (pe_tup (pa_cons pe_int (pa_cons pe_int pa_nil))))
      (pss_cons (ps_for PassesOwn.never rfl (pi_list (pe_c C__law_year (hr.mono (by decide)) pass0 (pa_cons (pv 0) (pa_cons (pv 2) (pa_cons (pv 3) (pa_cons (pv 4) pa_nil)))))) (pg_tup rfl (pgs_cons (pg_name (i := 6) sc.nd rfl (by first | exact Or.inl rfl | exact Or.inr rfl)) (pgs_cons (pg_name (i := 7) sc.nd rfl (by first | exact Or.inl rfl | exact Or.inr rfl)) (pgs_cons (pg_name (i := 8) sc.nd rfl (by first | exact Or.inl rfl | exact Or.inr rfl)) pgs_nil)))) (pss_one (ps_set (i := 5) sc.nd rfl (by first | exact Or.inl rfl | exact Or.inr rfl) (pe_c C__law_plus (hr.mono (by decide)) pass0 (pa_cons (pv 5) (pa_cons (pe_c C__law_times (hr.mono (by decide)) pass0 (pa_cons (pv 8) (pa_cons (pe_c C__law_value (hr.mono (by decide)) pass0 (pa_cons (pv 1) (pa_cons (pv 6) (pa_cons (pv 7) pa_nil)))) pa_nil))) pa_nil))))))
      (pss_one (ps_ret (pv 5))))), fun a ha => ?_⟩
  obtain ⟨hf, h98⟩ := ha
  have hf : FitK a := hf
  have h98 : a.r ≤ 98 := h98
  obtain ⟨E0, ft⟩ := yt_f hf h98
  refine run_seq (run_set ((ed_tup (ds := [.int 0, .int 1]) (ea_d (ed_int 0) (ea_d (ed_int 1) ea_nil))).is (show _ = encQ (tmF a 0) from rfl))) ?_
  refine run_seq (run_for (ts := [6, 7, 8]) (fun i => [.dat (encH a.h), .dat (encTq a.t), .dat (.int (a.r : Int)), .dat (.int (a.w : Int)), .dat (.int a.tr), .dat (encQ (tmF a i)), .un, .un, .un]) (ei_list (en_call (x := yOf a) (ea_d (ed_var 0 rfl) (ea_d (ed_var 2 rfl) (ea_d (ed_var 3 rfl) (ea_d (ed_var 4 rfl) ea_nil)))) rfl (fit_co hf)).d) (.eq (.eq (.eq (.eq (.eq (.eq (.un (.un (.un .nil))))))))) (fun i d hi hd => ?_)) ?_
  · rw [List.length_map] at hi
    obtain rfl : d = encY (lyF (yOf a))[i] := by rw [List.getElem?_map, List.getElem?_eq_getElem hi] at hd; exact (Option.some.inj hd).symm
    refine ⟨_, eg_tup (egs_cons (eg_name (by decide)) (egs_cons (eg_name (by decide)) (egs_cons (eg_name (by decide)) egs_nil))) rfl, ?_⟩
    have hm := List.getElem_mem hi
    have q1 := tm_qb ft i
    have es : tmF a (i + 1) = tmF a i + ((lyF (yOf a))[i]).2.2 * valF a.t ((lyF (yOf a))[i]).1 ((lyF (yOf a))[i]).2.1.toNat := by
      unfold tmF
      rw [List.take_add_one, List.getElem?_eq_getElem hi, Option.toList_some, List.map_append, List.sum_append, List.map_cons, List.map_nil, List.sum_cons, List.sum_nil]; grind
    rw [es]
    have c1 := ft.c _ hm
    have c2 := ft.w _ hm
    have c3 := ft.r _ hm
    have c4 := ft.t _ hm
    generalize (lyF (yOf a))[i] = y at c1 c2 c3 c4 ⊢
    generalize tmF a i = T at q1 ⊢
    have hw2 : y.2.1.toNat < a.h.ws.length := by omega
    have hv := val_k hf.t hw2 c3
    have vq : Qb 680 (valF a.t y.1 y.2.1.toNat) := (qb_dn (B := 64) (m := 7) (Int.mul_pos lam_pos (Int.pow_pos (by decide))) (lam_bt.mul (bt_8 200)) (by decide) hv.1 hv.2.1 hv.2.2).mono (by decide)
    have tq : Qb 720 (y.2.2 * valF a.t y.1 y.2.1.toNat) := (qb_dn (B := 64) (m := 7) ft.e0 ft.e1 (by decide) c4.1 c4.2.1 c4.2.2).mono (by decide)
    exact .n (run_set (ed_call (x := (T, y.2.2 * valF a.t y.1 y.2.1.toNat)) (ea_d (ed_var 5 rfl) (ea_d (ed_call (x := (y.2.2, valF a.t y.1 y.2.1.toNat)) (ea_d (ed_var 8 rfl) (ea_d (ed_call (x := (⟨a.t, y.1, y.2.1.toNat⟩ : VaA)) (ea_d (ed_var 1 rfl) (ea_d (ed_var 6 rfl) (ea_d ((ed_var 7 rfl).is (d' := .int ((y.2.1.toNat : Nat) : Int)) (congrArg PyData.int (by omega))) ea_nil))) rfl (tbk_lv hf.t hw2 c3)) ea_nil)) rfl ⟨c1.mono (by decide), vq.mono (by decide)⟩) ea_nil)) rfl ⟨q1.mono (by decide), tq.mono (by decide)⟩)) (.eq (.eq (.eq (.eq (.eq (.eq (.un (.un (.un .nil)))))))))
  · rw [List.length_map]
    have e : tmF a (lyF (yOf a)).length = maF a := by unfold tmF; rw [List.take_length]; exact mean_law hf
    rw [e]
    exact run_ret (ed_var 5 rfl)

end
end KP

namespace KP
open PySem L2 DL MX
section
variable {P : Program} {w : World} {K : PySem.W.Frag} {mg : Str → Option Value} {base : Heap}
/-! ### k40: the law's tables -/
theorem run_pubE {ts : TS} {env e : EnvD} {ds : List D} (i : Nat) (hi : e[i]? = some (.ml ds)) (h : Run K E ts env (.nx e)) : Run K E ts env (.nx (e.set i (.dat (.list ds)))) := fun G0 H0 G H σ D ok q => h G0 H0 G H σ D ok fun G1 H1 σ1 ok1 => by
  obtain ⟨G', ok'⟩ := ok1.publish hi
  exact q G' H1 σ1 ok'
def rowG (D : List Int) (w : Nat) : List Rat := (List.range ((D.getD 0 0).fmod 5).toNat).map fun k => Rat.divInt ((D.getD ((1 + 5 * w + k) % 20) 0).fmod 13) 12
def scG (D : List Int) (w : Nat) : Rat := Rat.divInt ((D.getD ((16 + w) % 20) 0).fmod 13) 12
def qG (D : List Int) : Rat := Rat.divInt (1 + (D.getD 19 0).fmod 7) 8
def tabG (n : Nat) (D : List Int) : Tq := ⟨(List.range n).map (rowG D), (List.range n).map (scG D), qG D⟩
theorem mod20 (x : Nat) : ((x : Nat) : Int).fmod 20 = ((x % 20 : Nat) : Int) := by rw [Int.fmod_eq_emod_of_nonneg _ (by decide)]; rfl
theorem qk_G (D : List Int) : Qk (qG D) := by
  have h := fm2 (x := D.getD 19 0) (m := 7) (by decide)
  unfold qG
  generalize (D.getD 19 0).fmod 7 = x at h
  have h7 : x = 0 ∨ x = 1 ∨ x = 2 ∨ x = 3 ∨ x = 4 ∨ x = 5 ∨ x = 6 := by omega
  have key : ∀ y : Int, 1 ≤ y → y ≤ 7 → Dn 8 (Rat.divInt y 8) := fun y _ _ => ⟨y, by rw [Rat.divInt_eq_div]; have : ((8 : Int) : Rat) = 8 := rfl; rw [this]; grind⟩
  refine ⟨key _ (by omega) (by omega), ?_, ?_⟩
  · rcases h7 with rfl | rfl | rfl | rfl | rfl | rfl | rfl <;> decide +kernel
  · rcases h7 with rfl | rfl | rfl | rfl | rfl | rfl | rfl <;> decide +kernel
structure Ik (c : Rat) : Prop where
  n0 : 0 ≤ c.num
  n1 : c.num ≤ 12
  d : c.den ≤ 12
theorem i12 : ∀ n : Nat, n < 13 → 0 ≤ (Rat.divInt (n : Int) 12).num ∧ (Rat.divInt (n : Int) 12).num ≤ 12 ∧ (Rat.divInt (n : Int) 12).den ≤ 12 := by decide +kernel
theorem ik_of (x : Int) : Ik (Rat.divInt (x.fmod 13) 12) ∧ Vk (Rat.divInt (x.fmod 13) 12) := by
  have h := fm2 (x := x) (m := 13) (by decide)
  refine ⟨?_, vk_of (by decide) (by omega) (by omega)⟩
  obtain ⟨n, hn⟩ : ∃ n : Nat, x.fmod 13 = (n : Int) := ⟨(x.fmod 13).toNat, by omega⟩
  rw [hn] at h ⊢
  obtain ⟨a, b, c⟩ := i12 n (by omega)
  exact ⟨a, b, c⟩
structure TbI (n : Nat) (t : Tq) : Prop where
  k : TbK n t
  rows : ∀ row ∈ t.rows, ∀ x ∈ row, Ik x
  scs : ∀ x ∈ t.sc, Ik x
theorem tab_i {n : Nat} (hn : n ≤ 4) (D : List Int) : TbI n (tabG n D) := by
  have hrow : ∀ row ∈ (tabG n D).rows, ∀ x ∈ row, Ik x ∧ Vk x := fun row hr x hx => by
    obtain ⟨w, _, rfl⟩ := List.mem_map.mp hr
    obtain ⟨k, _, rfl⟩ := List.mem_map.mp hx
    exact ik_of _
  have hsc : ∀ x ∈ (tabG n D).sc, Ik x ∧ Vk x := fun x hx => by
    obtain ⟨k, _, rfl⟩ := List.mem_map.mp hx
    exact ik_of _
  have h5 := fm2 (x := D.getD 0 0) (m := 5) (by decide)
  refine ⟨⟨by show ((List.range n).map _).length = n; rw [List.length_map, List.length_range], by show ((List.range n).map _).length = n; rw [List.length_map, List.length_range], hn, ⟨((D.getD 0 0).fmod 5).toNat, by omega, fun row hr => ?_⟩, fun row hr x hx => (hrow row hr x hx).2, fun x hx => (hsc x hx).2, qk_G D⟩, fun row hr x hx => (hrow row hr x hx).1, fun x hx => (hsc x hx).1⟩
  obtain ⟨w, _, rfl⟩ := List.mem_map.mp hr
  unfold rowG
  rw [List.length_map, List.length_range]
theorem frok {t l : Int} (h : 0 < l) (h1 : l ≤ 1000) (h2 : -1000 ≤ t) (h3 : t ≤ 1000) : FrOk (t, l) := by
  have e : (2 : Int) ^ 20 = 1048576 := by decide
  exact ⟨h, Bt.mono (n := 20) (bt_range (by show _ < l; omega) (by show l < _; omega)) (by decide), Bt.mono (n := 20) (bt_range (by show _ < t; omega) (by show t < _; omega)) (by decide)⟩
theorem sc__law_table : FnScope ["house", "draws", "size", "rows", "w", "scales", "k"] ["house", "draws"] (defScope s__law_table) := ⟨rfl, rfl, rfl, by decide +kernel, rfl, by decide +kernel, by decide +kernel⟩
def sp__law_table (K : PySem.W.Frag) : Sp := SpD K (fun a : Hs × List Int => [.dat (encH a.1), .dat (.list (a.2.map PyData.int))]) (fun a => a.1.ws.length ≤ 4 ∧ Dig 27720 20 a.2) (fun a => encTq (tabG a.1.ws.length a.2))
theorem ok__law_table {f : Addr} {fd : FuncData} (F : Fun K "_law_table" "_law_table" s__law_table f fd) (m_len : mg "len" = none) (m_range : mg "range" = none) (C__law_fraction : Callee P w K mg base CX0 1 "_law_fraction" ["top", "low"] (sp__law_fraction K)) :
    FnOk P w K mg base CX0 2 f fd ["house", "draws"] (sp__law_table K) := by
  have sc := sc__law_table
  refine fn_D F sc (fun _ => rfl) fun cdv A outer s H E hr => ?_
  refine ⟨_, (pss_cons (ps_set (i := 2) sc.nd rfl (by first | exact Or.inl rfl | exact Or.inr rfl) (pe_op op_modN (pe_ix (r := rIxL K) ix_list (pv 1) pe_int (fun _ _ => rfl)) pe_int))
      (pss_cons (ps_set (i := 3) sc.nd rfl (by first | exact Or.inl rfl | exact Or.inr rfl) (pe_lst pa_nil))
      (pss_cons (ps_for PassesOwn.never rfl (pi_range1 (by rfl) m_range (pa_cons (pe_callB (id := "len") (r := rLenS K) call_len_seq (by rfl) m_len PySem.boot_len (pa_cons (pe_ix (r := rIxT K) ix_tup (pv 0) pe_int (fun _ _ => rfl)) pa_nil)) pa_nil)) (pg_name (i := 4) sc.nd rfl (by first | exact Or.inl rfl | exact Or.inr rfl)) (pss_one (ps_expr (pe_bm PySem.F.plainAttrs_list PySem.F.slot_list_append PySem.F.type_list_append mt_append (pv 3) (pa_cons (pe_lc (own := [("k", 6)]) rfl sc.nd (pi_range1 (by rfl) m_range (pa_cons (pv 2) pa_nil)) (blkOk_by (own := [("k", 6)]) (N := ["house", "draws", "size", "rows", "w", "scales", "k"]) (sc := defScope s__law_table) (by decide +kernel)) (fun _ _ _ _ _ => (pg_name (i := 6) sc.nd rfl (Or.inl rfl))) (fun _ _ _ _ _ => pts_nil) (fun _ _ _ _ _ => (pe_c C__law_fraction (hr.mono (by decide)) pass0 (pa_cons (pe_op op_modN (pe_ix (r := rIxL K) ix_list (pv 1) (pe_op op_modN (pe_op op_add (pe_op op_add pe_int (pe_op op_mulX pe_int (pv 4))) (pv 6)) pe_int) (fun _ _ => rfl)) pe_int) (pa_cons pe_int pa_nil))))) pa_nil)))))
      (pss_cons (ps_setLc (i := 5) (own := [("w", 4)]) rfl sc.nd rfl rfl (sw_true rfl rfl rfl (by decide +kernel)) (pi_range1 (by rfl) m_range (pa_cons (pe_callB (id := "len") (r := rLenS K) call_len_seq (by rfl) m_len PySem.boot_len (pa_cons (pe_ix (r := rIxT K) ix_tup (pv 0) pe_int (fun _ _ => rfl)) pa_nil)) pa_nil)) (blkOk_by (own := [("w", 4)]) (N := ["house", "draws", "size", "rows", "w", "scales", "k"]) (sc := defScope s__law_table) (by decide +kernel)) (fun _ _ _ _ _ => (pg_name (i := 4) sc.nd rfl (Or.inl rfl))) (fun _ _ _ _ _ => pts_nil) (fun _ _ _ _ _ => (pe_c C__law_fraction (hr.mono (by decide)) pass0 (pa_cons (pe_op op_modN (pe_ix (r := rIxL K) ix_list (pv 1) (pe_op op_modN (pe_op op_add pe_int (pv 4)) pe_int) (fun _ _ => rfl)) pe_int) (pa_cons pe_int pa_nil)))))
      (pss_one (ps_ret (pe_tup (pa_cons (pv 3) (pa_cons (pv 5) (pa_cons (pe_c C__law_fraction (hr.mono (by decide)) pass0 (pa_cons (pe_op op_add pe_int (pe_op op_modN (pe_ix (r := rIxL K) ix_list (pv 1) pe_int (fun _ _ => rfl)) pe_int)) (pa_cons pe_int pa_nil))) pa_nil)))))))))), fun a ha => ?_⟩
  obtain ⟨h, D⟩ := a
  obtain ⟨h4, hD⟩ := ha
  have h4 : h.ws.length ≤ 4 := h4
  have hD : Dig 27720 20 D := hD
  have h5 := fm2 (x := D.getD 0 0) (m := 5) (by decide)
  have len_ : ∀ ev : EnvD, ev[0]? = some (.dat (encH h)) → EvI K (iRng1 (tCons (tCB (rLenS K) (tCons (tOp (rIxT K) (tVar 0) (tC (.int 0))) tNil)) tNil)) ev ((List.range h.ws.length).map fun k : Nat => PyData.int (k : Int)) := fun ev e => ei_is (ei_rng1 (ed_lenl (ed_ixT (ds := [.list (h.ws.map encW), .list (h.ts.map encT)]) (ed_var 0 e) (ed_int 0) rfl).l) (by rw [List.length_map]; omega)) (by rw [List.length_map, Int.toNat_natCast]; exact rng_map _)
  refine run_seq (run_set (ed_I (C := fun _ j => j ≠ 0) (ed_ixl (ed_var 1 rfl).l (ed_int 0) (hD.ix 0 rfl (by decide))) (ed_int 5) (by decide))) ?_
  refine run_seq (run_setN (en_lst (ds := []) ea_nil)) ?_
  refine run_seq (run_for (ts := [4]) (ds := (List.range h.ws.length).map fun k : Nat => PyData.int (k : Int)) (fun i => [.dat (encH h), .dat (.list (D.map PyData.int)), .dat (.int ((D.getD 0 0).fmod 5)), .ml ((List.range i).map fun w => encRq (rowG D w)), .un, .un, .un]) (len_ _ rfl) (.eq (.eq (.eq (.eq (.un (.un (.un .nil))))))) (fun i d hi hd => ⟨_, eg_name (by decide), ?_⟩)) ?_
  · rw [List.length_map, List.length_range] at hi
    obtain rfl : d = .int (i : Int) := by rw [List.getElem?_map, List.getElem?_range hi] at hd; exact (Option.some.inj hd).symm
    rw [List.range_succ, List.map_append, List.map_cons, List.map_nil]
    refine .n (run_append (i := 3) rfl (en_lc (zs := (rowG D i).map encQ) (ei_is (ei_rng1 (ed_var 2 rfl) (by omega)) (rng_map ((D.getD 0 0).fmod 5).toNat)) (ts := [6]) (by decide) (by
      unfold rowG
      rw [List.map_map]
      refine lc_map (fun k : Nat => PyData.int (k : Int)) _ fun k hk => ⟨_, eg_name (by decide), et_yes, ?_⟩
      have hk := List.mem_range.mp hk
      have hm := fm2 (x := D.getD ((1 + 5 * i + k) % 20) 0) (m := 13) (by decide)
      have hix : (1 + 5 * (i : Int) + (k : Int)).fmod 20 = (((1 + 5 * i + k) % 20 : Nat) : Int) := by rw [← mod20]; congr 1
      have p30 : (2 : Int) ^ 30 = 1073741824 := by decide
      exact ed_call (x := ((D.getD ((1 + 5 * i + k) % 20) 0).fmod 13, (12 : Int))) (ea_d (ed_I (C := fun _ j => j ≠ 0) (ed_ixl (ed_var 1 rfl).l (ed_I (C := fun _ j => j ≠ 0) (ed_I0 (ed_I0 (ed_int 1) (ed_I (ed_int 5) (ed_var 4 rfl) (Bt.mulx (n := 20) (m := 30) (by decide) (bt_range (by omega) (by omega)) (by decide)))) (ed_var 6 rfl)) (ed_int 20) (by decide)) (hD.ix ((1 + 5 * i + k) % 20) hix (Nat.mod_lt _ (by decide)))) (ed_int 13) (by decide)) (ea_d (ed_int 12) ea_nil)) rfl (frok (by decide) (by decide) (by omega) (by omega))) (by rw [List.length_map, List.length_range]; omega)).d (by rw [List.length_map, List.length_range]; omega)) (.eq (.eq (.eq (.eq (.un (.un (.un .nil)))))))
  · rw [List.length_map, List.length_range]
    refine run_pub 3 rfl ?_
    refine run_seq (run_setN (en_lc (zs := (List.range h.ws.length).map fun w => encQ (scG D w)) (len_ _ rfl) (ts := [4]) (by decide) (lc_map (fun k : Nat => PyData.int (k : Int)) (fun w => encQ (scG D w)) fun k hk => ⟨_, eg_name (by decide), et_yes, ?_⟩) (by rw [List.length_map, List.length_range]; omega))) (run_pub 5 rfl ?_)
    · have hk := List.mem_range.mp hk
      have hm := fm2 (x := D.getD ((16 + k) % 20) 0) (m := 13) (by decide)
      have hix : (16 + (k : Int)).fmod 20 = (((16 + k) % 20 : Nat) : Int) := by rw [← mod20]; congr 1
      exact ed_call (x := ((D.getD ((16 + k) % 20) 0).fmod 13, (12 : Int))) (ea_d (ed_I (C := fun _ j => j ≠ 0) (ed_ixl (ed_var 1 rfl).l (ed_I (C := fun _ j => j ≠ 0) (ed_I0 (ed_int 16) (ed_var 4 rfl)) (ed_int 20) (by decide)) (hD.ix ((16 + k) % 20) hix (Nat.mod_lt _ (by decide)))) (ed_int 13) (by decide)) (ea_d (ed_int 12) ea_nil)) rfl (frok (by decide) (by decide) (by omega) (by omega))
    · have hm := fm2 (x := D.getD 19 0) (m := 7) (by decide)
      have eT : encTq (tabG h.ws.length D) = .tuple [.list ((List.range h.ws.length).map fun w => encRq (rowG D w)), .list ((List.range h.ws.length).map fun w => encQ (scG D w)), encQ (qG D)] := by
        unfold tabG
        show PyData.tuple [.list (List.map encRq _), .list (List.map encQ _), _] = _
        rw [List.map_map, List.map_map]; rfl
      show Run K E _ _ (.rt (encTq (tabG h.ws.length D)))
      rw [eT]
      exact run_ret (ed_tup (ds := [.list ((List.range h.ws.length).map fun w => encRq (rowG D w)), .list ((List.range h.ws.length).map fun w => encQ (scG D w)), encQ (qG D)]) (ea_d (ed_var 3 rfl) (ea_d (ed_var 5 rfl) (ea_d (ed_call (x := (1 + (D.getD 19 0).fmod 7, (8 : Int))) (ea_d (ed_I0 (ed_int 1) (ed_I (C := fun _ j => j ≠ 0) (ed_ixl (ed_var 1 rfl).l (ed_int 19) (hD.ix 19 rfl (by decide))) (ed_int 7) (by decide))) (ea_d (ed_int 8) ea_nil)) rfl (frok (by decide) (by decide) (by omega) (by omega))) ea_nil))))

end
end KP

namespace KP
open PySem L2 DL MX
section
variable {P : Program} {w : World} {K : PySem.W.Frag} {mg : Str → Option Value} {base : Heap}
/-! ### k40: far reserves -/
theorem enc_half : PyData.tuple [.int 1, .int 2] = encQ (mkRat 1 2) := by
  have e1 : (mkRat 1 2).num = 1 := by decide +kernel
  have e2 : (mkRat 1 2).den = 2 := by decide +kernel
  show _ = PyData.tuple [.int (mkRat 1 2).num, .int ((mkRat 1 2).den : Int)]
  rw [e1, e2]; rfl
theorem ed_pow {env : EnvD} {x n y : Int} (hn : 0 ≤ n ∧ n ≤ 1000000 ∧ x.natAbs < 2 ^ 64) (e : x ^ n.toNat = y) : EvD K (tOp (rI CPow fun i j => .int (i ^ j.toNat)) (tC (.int x)) (tC (.int n))) env (.int y) := (ed_I (ed_int x) (ed_int n) hn).is (congrArg PyData.int e)
theorem ev_half (m k : Nat) (hm : Nat.Coprime m 2) : encQ ((m : Rat) * (mkRat 1 2) ^ k) = PyData.tuple [.int (m : Int), .int (2 ^ k)] := by
  have e1 : (mkRat 1 2).num = 1 := by decide +kernel
  have e2 : (mkRat 1 2).den = 2 := by decide +kernel
  have h := mul_pow (m : Rat) (mkRat 1 2) k
  rw [e1, e2, Rat.num_natCast, Rat.den_natCast, Int.one_pow, Int.mul_one, show ((1 : Nat) : Int) = 1 from rfl, Int.one_mul, show ((2 : Nat) : Int) = 2 from rfl] at h
  have hp : (0 : Int) < 2 ^ k := Int.pow_pos (by decide)
  obtain ⟨d1, d2⟩ := divInt_parts (t := (m : Int)) (l := 2 ^ k) (by omega)
  have hs : sgcd (m : Int) (2 ^ k) = 1 := by
    unfold sgcd
    rw [if_neg (by omega), Int.natAbs_natCast, Int.natAbs_pow]
    have : Nat.gcd m ((2 : Int).natAbs ^ k) = 1 := Nat.Coprime.pow_right k hm
    rw [this]; rfl
  rw [hs, Int.fdiv_one] at d1 d2
  rw [← h]
  show PyData.tuple [.int (Rat.divInt (m : Int) (2 ^ k)).num, .int ((Rat.divInt (m : Int) (2 ^ k)).den : Int)] = _
  rw [d1, d2]
def lnF : Spr := [(0, mkRat 1 2), (2, mkRat 1 2)]
def hF : Hs := ⟨[⟨1, [lnF], [(0, 1)]⟩], [⟨0, []⟩]⟩
def tF : Tq := ⟨[[]], [3], mkRat 1 2⟩
theorem ln_is : spD 0 [0, 2] = lnF ∧ spD 0 [0] = [(0, 1)] := by decide +kernel
theorem spk_ln : SpK 1001 lnF := by
  rw [← ln_is.1]
  exact spk_spD (by decide) (by decide) (by decide) (by decide) (by decide)
theorem spk_tn : SpK 1 [(0, 1)] := by
  rw [← ln_is.2]
  exact spk_spD (by decide) (by decide) (by decide) (by decide) (by decide)
theorem wtk_F : WtK 1 ⟨1, [lnF], [(0, 1)]⟩ := by
  refine ⟨⟨by decide, by decide, fun s hs => ?_, fun i hi => ?_, spk_tn.g⟩, by decide, fun s hs => ?_, spk_tn⟩
  · have hs : s ∈ [lnF] := hs
    rw [List.mem_singleton] at hs; rw [hs]; exact spk_ln.g
  · have hi : i ≤ 1 := hi
    have : i = 0 ∨ i = 1 := by omega
    rcases this with rfl | rfl <;> decide
  · have hs : s ∈ [lnF] := hs
    rw [List.mem_singleton] at hs; rw [hs]; exact spk_ln
theorem hsk_F : HsK hF := by
  have hw : ∀ w ∈ hF.ws, w = ⟨1, [lnF], [(0, 1)]⟩ := fun w hw => by
    have hw : w ∈ [(⟨1, [lnF], [(0, 1)]⟩ : Wt)] := hw
    exact List.mem_singleton.mp hw
  refine ⟨⟨by decide, by decide, fun w h => by rw [hw w h]; exact wtk_F.q, fun t ht => ?_⟩, fun w h => by rw [hw w h]; exact wtk_F⟩
  have ht : t ∈ [(⟨0, []⟩ : MX.Tr)] := ht
  rw [List.mem_singleton] at ht; rw [ht]
  exact ⟨⟨fun l hl => (List.not_mem_nil hl).elim, by decide, Bt.zero _⟩, ⟨fun l hl => (List.not_mem_nil hl).elim, by decide, by decide⟩⟩
theorem tbk_F : TbK 1 tF := by
  refine ⟨rfl, rfl, by decide, ⟨0, by decide, fun row hr => ?_⟩, fun row hr x hx => ?_, fun x hx => ?_, ⟨⟨4, by decide +kernel⟩, by decide +kernel, by decide +kernel⟩⟩
  · have hr : row ∈ [([] : List Rat)] := hr
    rw [List.mem_singleton] at hr; rw [hr]; rfl
  · have hr : row ∈ [([] : List Rat)] := hr
    rw [List.mem_singleton] at hr; rw [hr] at hx; cases hx
  · have hx : x ∈ [(3 : Rat)] := hx
    rw [List.mem_singleton] at hx; rw [hx]
    have := vk_of (t := 3) (l := 1) (by decide) (by decide) (by decide)
    rwa [show Rat.divInt 3 1 = 3 by decide +kernel] at this
def aF (r : Nat) : MaA := ⟨hF, tF, r, 0, 0⟩
theorem chF : chgL 1 ⟨0, []⟩ (totF [lnF]) = [(1, mkRat 1 2), (-1, mkRat 1 2)] := by decide +kernel
theorem maS_F (r : Nat) (f : Int → Rat) : Ex (maS (aF r)) f = Ex [(1, mkRat 1 2), (-1, mkRat 1 2)] f := by
  rw [← chF]
  exact (chgL_ex 1 ⟨0, []⟩ [lnF] f).symm
theorem maS_lo (r : Nat) : ∀ p ∈ maS (aF r), -1 ≤ p.1 := fun p hp => by
  have hp : p ∈ chgF 1 ⟨0, []⟩ (dmgF [lnF]) := hp
  rw [← chg_is] at hp
  obtain ⟨q, hq, e⟩ := List.mem_map.mp (gat_mem hp).1
  obtain ⟨x, hx, rfl⟩ := List.mem_map.mp hq
  have hx : x ∈ gatF (sumF [(0, 1)] lnF) := hx
  obtain ⟨y, hy, e2⟩ := List.mem_map.mp (gat_mem hx).1
  have hy : y ∈ [((0 : Int) + 0, (1 : Rat) * mkRat 1 2), ((0 : Int) + 2, (1 : Rat) * mkRat 1 2)] := hy
  have e : 1 - 0 - x.1 = p.1 := e
  rcases List.mem_cons.mp hy with e3 | e3
  · rw [e3] at e2; have e2 : (0 : Int) + 0 = x.1 := e2; omega
  · rw [List.mem_singleton] at e3; rw [e3] at e2; have e2 : (0 : Int) + 2 = x.1 := e2; omega
theorem loss_le {P : List (Int × Int)} (h : ∀ p ∈ P, -1 ≤ p.1) : lossN P ≤ 1 := by
  unfold lossN
  cases P with
  | nil => show (-(0 : Int)).toNat ≤ 1; decide
  | cons a r => have := h a List.mem_cons_self; show (-a.1).toNat ≤ 1; omega
theorem fit_F (r : Nat) : FitK (aF r) := by
  refine ⟨hsk_F, tbk_F, by show 0 < 1; decide, ⟨by show (0 : Int) ≤ 0; decide, by show (0 : Int) < 1; decide⟩, ?_⟩
  have hR : maR (aF r) = min r (0 + lossN (partsZ (maL (aF r)) (maS (aF r)))) := rfl
  have := loss_le (P := partsZ (maL (aF r)) (maS (aF r))) fun p hp => by
    obtain ⟨q, hq, rfl⟩ := List.mem_map.mp hp
    exact maS_lo r q hq
  rw [hR]; omega
theorem val_F (r : Nat) : valF tF (r : Int) 0 = ((3 : Nat) : Rat) * (mkRat 1 2) ^ r := by
  unfold valF
  have e : rowF tF 0 = [] := rfl
  rw [e, if_neg (by omega), if_neg (show ¬(r : Int) < (([] : List Rat).length : Int) by show ¬(r : Int) < 0; omega)]
  rfl
theorem mean_F {r : Nat} (hr : 1 ≤ r) : maF (aF r) = ((15 : Nat) : Rat) * (mkRat 1 2) ^ (r + 2) := by
  obtain ⟨_, me, rw⟩ := fit_maq (fit_F r)
  rw [mean_is me rw, maS_F]
  have hU : maU (aF r) = [(0, 1)] := rfl
  have ht : (aF r).t = tF := rfl
  have hrr : (aF r).r = r := rfl
  rw [hU, ht, hrr]
  obtain ⟨n, rfl⟩ : ∃ n, r = n + 1 := ⟨r - 1, by omega⟩
  rw [ex_cons, ex_cons, ex_nil, ex_cons, ex_nil, ex_cons, ex_nil]
  show mkRat 1 2 * (1 * valF tF (((n + 1 : Nat) : Int) + 1) 0 + 0) + (mkRat 1 2 * (1 * valF tF (((n + 1 : Nat) : Int) + -1) 0 + 0) + 0) = _
  rw [show ((n + 1 : Nat) : Int) + -1 = (n : Int) by omega, show ((n + 1 : Nat) : Int) + 1 = ((n + 2 : Nat) : Int) by omega, val_F, val_F]
  have p3 : (mkRat 1 2) ^ (n + 1 + 2) = (mkRat 1 2) ^ n * mkRat 1 8 := by
    rw [show n + 1 + 2 = n + 3 by omega, qpow_add]; congr 1
  have p2 : (mkRat 1 2) ^ (n + 2) = (mkRat 1 2) ^ n * mkRat 1 4 := by
    rw [qpow_add]; congr 1
  rw [p3, p2]
  have a1 : mkRat 1 2 = 1 / 2 := by decide +kernel
  have a2 : mkRat 1 4 = 1 / 4 := by decide +kernel
  have a3 : mkRat 1 8 = 1 / 8 := by decide +kernel
  have a4 : ((3 : Nat) : Rat) = 3 := rfl
  have a5 : ((15 : Nat) : Rat) = 15 := rfl
  generalize (mkRat 1 2) ^ n = X
  rw [a1, a2, a3, a4, a5]
  grind
structure Errs40 (K : PySem.W.Frag) (mg : Str → Option Value) (C C1 C3 : Addr) : Prop where
  eC : ErrC K mg "OutOfRange" C
  g1 : mg "CofferError" = some (.ref C1)
  g3 : mg "TooLong" = some (.ref C3)
  k1 : PySem.W.kitOne K (.ref C) (.ref C1) = some true
  k3 : PySem.W.kitOne K (.ref C) (.ref C3) = some false
theorem run_ifDT {tc : TT} {t u : (Ends → TS)} {r : RD} (h : EvT K tc env true) (h1 : Run K E (fun D σ H => t D D σ H) env r) : Run K E (fun D σ H => tIfS tc (t D) (u D) D σ H) env r := fun G0 H0 G H σ D ok q => h G0 H0 G H σ ok _ fun G1 H1 a => iteT (h1 G0 H0 G1 H1 σ D (ok.go a) q)
theorem run_ifDF {tc : TT} {t u : (Ends → TS)} {r : RD} (h : EvT K tc env false) (h1 : Run K E (fun D σ H => u D D σ H) env r) : Run K E (fun D σ H => tIfS tc (t D) (u D) D σ H) env r := fun G0 H0 G H σ D ok q => h G0 H0 G H σ ok _ fun G1 H1 a => iteF (h1 G0 H0 G1 H1 σ D (ok.go a) q)
theorem sc__law_refused : FnScope ["way", "reserve", "house", "table", "e"] ["way", "reserve"] (defScope s__law_refused) := ⟨rfl, rfl, rfl, by decide +kernel, rfl, by decide +kernel, by decide +kernel⟩
def sp__law_refused (K : PySem.W.Frag) : Sp := SpD K (fun a : Int × Nat => [.dat (.int a.1), .dat (.int (a.2 : Int))]) (fun a => 10000 < a.2) (fun _ => .bool true)
theorem ok__law_refused {f C C1 C3 : Addr} {fd : FuncData} (F : Fun K "_law_refused" "_law_refused" s__law_refused f fd) (T : Errs40 K mg C C1 C3) (m_isinstance : mg "isinstance" = none) (C_value_at : Callee P w K mg base (L2.CX P w) 4 "value_at" ["table", "reserve", "weather"] (sp_value_at K C)) (C_mean_after : Callee P w K mg base (L2.CX P w) 7 "mean_after" ["house", "table", "state", "treaty"] (sp_mean_after K C)) :
    FnOk P w K mg base CX0 8 f fd ["way", "reserve"] (sp__law_refused K) := by
  have sc := sc__law_refused
  refine fn_D F sc (fun _ => rfl) fun cdv A outer s H E hr => ?_
  refine ⟨_, (pss_cons (ps_set (i := 2) sc.nd rfl (by first | exact Or.inl rfl | exact Or.inr rfl) (pe_tup (pa_cons (pe_lst (pa_cons (pe_tup (pa_cons pe_int (pa_cons (pe_lst (pa_cons (pe_lst (pa_cons (pe_tup (pa_cons pe_int (pa_cons (pe_tup (pa_cons pe_int (pa_cons pe_int pa_nil))) pa_nil))) (pa_cons (pe_tup (pa_cons pe_int (pa_cons (pe_tup (pa_cons pe_int (pa_cons pe_int pa_nil))) pa_nil))) pa_nil))) pa_nil)) (pa_cons (pe_lst (pa_cons (pe_tup (pa_cons pe_int (pa_cons (pe_tup (pa_cons pe_int (pa_cons pe_int pa_nil))) pa_nil))) pa_nil)) pa_nil)))) pa_nil)) (pa_cons (pe_lst (pa_cons (pe_tup (pa_cons pe_int (pa_cons (pe_lst pa_nil) pa_nil))) pa_nil)) pa_nil))))
    (pss_cons (ps_set (i := 3) sc.nd rfl (by first | exact Or.inl rfl | exact Or.inr rfl) (pe_tup (pa_cons (pe_lst (pa_cons (pe_lst pa_nil) pa_nil)) (pa_cons (pe_lst (pa_cons (pe_tup (pa_cons pe_int (pa_cons pe_int pa_nil))) pa_nil)) (pa_cons (pe_tup (pa_cons pe_int (pa_cons pe_int pa_nil))) pa_nil)))))
    (pss_cons (ps_try_as (i := 4) (Wout := fun _ _ _ _ => False) rfl rfl sc.nd rfl rfl ⟨rfl, by decide, .inl T.eC.g⟩ takes0
    (fun W pn xe tk _ => pss_one (ps_if (pt_cmpR op_eq (pv 0) pe_int (nomark _))
      (pss_one (ps_expr (pe_cS C_value_at (hr.mono (by decide)) (fun σ => passAt tk σ) (pa_cons (pv 3) (pa_cons (pv 1) (pa_cons pe_int pa_nil))))))
      (pss_one (ps_expr (pe_cS C_mean_after (hr.mono (by decide)) (fun σ => passAt tk σ) (pa_cons (pv 2) (pa_cons (pv 3) (pa_cons (pe_tup (pa_cons (pv 1) (pa_cons pe_int pa_nil))) (pa_cons pe_int pa_nil)))))))))
    (fun a oe cls d pn hz hf => pss_one (ps_ret (pe_and (pe_callB (call_isF T.eC.own hz hf) (by rfl) m_isinstance (by decide +kernel) (pa_cons (pv 4) (pa_cons (pe_glob (v := .ref C1) rfl T.g1 rfl) pa_nil)))
      (pe_one (pe_not (pe_callB (call_isF T.eC.own hz hf) (by rfl) m_isinstance (by decide +kernel) (pa_cons (pv 4) (pa_cons (pe_glob (v := .ref C3) rfl T.g3 rfl) pa_nil)))))))))
      (pss_one (ps_ret pe_bl))))), fun a ha => ?_⟩
  obtain ⟨way, r⟩ := a
  have h2 : 10000 < r := ha
  have n1 : vaO ⟨tF, (r : Int), 0⟩ = none := by unfold vaO; exact if_pos (show (10000 : Int) < (r : Int) by omega)
  have n2 : maO (aF r) = none := by unfold maO; exact if_pos h2
  have hv : VaP ⟨tF, (r : Int), 0⟩ := tbk_va tbk_F (by decide) _
  refine run_seq (run_set (d := encH hF) (ed_tup (ds := [.list [encW ⟨1, [lnF], [(0, 1)]⟩], .list [encT ⟨0, []⟩]]) (ea_d (en_lst (ds := [encW ⟨1, [lnF], [(0, 1)]⟩]) (ea_d (ed_tup (ds := [.int 1, .list [encS lnF], encS [(0, 1)]]) (ea_d (ed_int 1) (ea_d (en_lst (ds := [encS lnF]) (ea_d (en_lst (ds := [encI (0, mkRat 1 2), encI (2, mkRat 1 2)]) (ea_d (ed_tup (ds := [.int 0, encQ (mkRat 1 2)]) (ea_d (ed_int 0) (ea_d ((ed_tup (ds := [.int 1, .int 2]) (ea_d (ed_int 1) (ea_d (ed_int 2) ea_nil))).is (d' := encQ (mkRat 1 2)) enc_half) ea_nil))) (ea_d (ed_tup (ds := [.int 2, encQ (mkRat 1 2)]) (ea_d (ed_int 2) (ea_d ((ed_tup (ds := [.int 1, .int 2]) (ea_d (ed_int 1) (ea_d (ed_int 2) ea_nil))).is (d' := encQ (mkRat 1 2)) enc_half) ea_nil))) ea_nil))).d ea_nil)).d (ea_d (en_lst (ds := [encI (0, 1)]) (ea_d (ed_tup (ds := [.int 0, encQ 1]) (ea_d (ed_int 0) (ea_d ((ed_tup (ds := [.int 1, .int 1]) (ea_d (ed_int 1) (ea_d (ed_int 1) ea_nil))).is (d' := encQ 1) rfl) ea_nil))) ea_nil)).d ea_nil)))) ea_nil)).d (ea_d (en_lst (ds := [encT ⟨0, []⟩]) (ea_d (ed_tup (ds := [.int 0, .list []]) (ea_d (ed_int 0) (ea_d (en_lst (ds := []) ea_nil).d ea_nil))) ea_nil)).d ea_nil)))) ?_
  refine run_seq (run_set (d := encTq tF) (ed_tup (ds := [.list [.list []], .list [encQ 3], encQ (mkRat 1 2)]) (ea_d (en_lst (ds := [.list []]) (ea_d (en_lst (ds := []) ea_nil).d ea_nil)).d (ea_d (en_lst (ds := [encQ 3]) (ea_d ((ed_tup (ds := [.int 3, .int 1]) (ea_d (ed_int 3) (ea_d (ed_int 1) ea_nil))).is (d' := encQ 3) rfl) ea_nil)).d (ea_d ((ed_tup (ds := [.int 1, .int 2]) (ea_d (ed_int 1) (ea_d (ed_int 2) ea_nil))).is (d' := encQ (mkRat 1 2)) enc_half) ea_nil))))) ?_
  by_cases hw : way = 0
  · refine run_seqR (run_ifDT ((et_test (ed_eqI (ed_var 0 rfl) (ed_int 0))).is (decide_eq_true hw)) ?_)
    exact run_tryR (x := (⟨tF, (r : Int), 0⟩ : VaA)) (ea_d (ed_var 3 rfl) (ea_d (ed_var 1 rfl) (ea_d (ed_int 0) ea_nil))) rfl hv n1 T.eC.exm (fun b => run_ret (ed_andV (ed_isF (c := .ref C1) (cv := .ref C1) rfl (fun _ h => h) T.k1) fun _ => ed_notV (ed_isF (c := .ref C3) (cv := .ref C3) rfl (fun _ h => h) T.k3)))
  · refine run_seqR (run_ifDF ((et_test (ed_eqI (ed_var 0 rfl) (ed_int 0))).is (decide_eq_false hw)) ?_)
    exact run_tryR (x := aF r) (ea_d (ed_var 2 rfl) (ea_d (ed_var 3 rfl) (ea_d (ed_tup (ds := [.int (r : Int), .int 0]) (ea_d (ed_var 1 rfl) (ea_d (ed_int 0) ea_nil))) (ea_d (ed_int 0) ea_nil)))) rfl (fun h3 => absurd h2 (Nat.not_lt.mpr h3)) n2 T.eC.exm (fun b => run_ret (ed_andV (ed_isF (c := .ref C1) (cv := .ref C1) rfl (fun _ h => h) T.k1) fun _ => ed_notV (ed_isF (c := .ref C3) (cv := .ref C3) rfl (fun _ h => h) T.k3)))
theorem sc__law_far : FnScope ["draw", "house", "table", "reserve", "low", "k", "beyond"] ["draw"] (defScope s__law_far) := ⟨rfl, rfl, rfl, by decide +kernel, rfl, by decide +kernel, by decide +kernel⟩
def sp__law_far (K : PySem.W.Frag) : Sp := SpD K (fun d : Int => [.dat (.int d)]) (fun _ => True) (fun _ => .bool true)
theorem ok__law_far {f C : Addr} {fd : FuncData} (F : Fun K "_law_far" "_law_far" s__law_far f fd) (m_range : mg "range" = none) (C__law_refused : Callee P w K mg base CX0 8 "_law_refused" ["way", "reserve"] (sp__law_refused K)) (C_value_at : Callee P w K mg base (L2.CX P w) 4 "value_at" ["table", "reserve", "weather"] (sp_value_at K C)) (C_mean_after : Callee P w K mg base (L2.CX P w) 7 "mean_after" ["house", "table", "state", "treaty"] (sp_mean_after K C)) :
    FnOk P w K mg base CX0 9 f fd ["draw"] (sp__law_far K) := by
  have sc := sc__law_far
  refine fn_D F sc (fun _ => rfl) fun cdv A outer s H E hr => ?_
  refine ⟨_, (pss_cons (ps_set (i := 1) sc.nd rfl (by first | exact Or.inl rfl | exact Or.inr rfl) (pe_tup (pa_cons (pe_lst (pa_cons (pe_tup (pa_cons pe_int (pa_cons (pe_lst (pa_cons (pe_lst (pa_cons (pe_tup (pa_cons pe_int (pa_cons (pe_tup (pa_cons pe_int (pa_cons pe_int pa_nil))) pa_nil))) (pa_cons (pe_tup (pa_cons pe_int (pa_cons (pe_tup (pa_cons pe_int (pa_cons pe_int pa_nil))) pa_nil))) pa_nil))) pa_nil)) (pa_cons (pe_lst (pa_cons (pe_tup (pa_cons pe_int (pa_cons (pe_tup (pa_cons pe_int (pa_cons pe_int pa_nil))) pa_nil))) pa_nil)) pa_nil)))) pa_nil)) (pa_cons (pe_lst (pa_cons (pe_tup (pa_cons pe_int (pa_cons (pe_lst pa_nil) pa_nil))) pa_nil)) pa_nil))))
      (pss_cons (ps_set (i := 2) sc.nd rfl (by first | exact Or.inl rfl | exact Or.inr rfl) (pe_tup (pa_cons (pe_lst (pa_cons (pe_lst pa_nil) pa_nil)) (pa_cons (pe_lst (pa_cons (pe_tup (pa_cons pe_int (pa_cons pe_int pa_nil))) pa_nil)) (pa_cons (pe_tup (pa_cons pe_int (pa_cons pe_int pa_nil))) pa_nil)))))
      (pss_cons (ps_set (i := 3) sc.nd rfl (by first | exact Or.inl rfl | exact Or.inr rfl) (pe_op op_sub pe_int (pe_op op_modN (pv 0) pe_int)))
      (pss_cons (ps_set (i := 4) sc.nd rfl (by first | exact Or.inl rfl | exact Or.inr rfl) pe_int)
      (pss_cons (ps_for PassesOwn.never rfl (pi_range1 (by rfl) m_range (pa_cons (pv 3) pa_nil)) (pg_name (i := 5) sc.nd rfl (by first | exact Or.inl rfl | exact Or.inr rfl)) (pss_one (ps_set (i := 4) sc.nd rfl (by first | exact Or.inl rfl | exact Or.inr rfl) (pe_op op_mulX (pv 4) pe_int))))
      (pss_cons (ps_if (PW.pt (pw_or (pt_cmpR (r := rNeD K) (op_neD hr.units) (pe_c C_value_at (hr.mono (by decide)) passL (pa_cons (pv 2) (pa_cons (pv 3) (pa_cons pe_int pa_nil)))) (pe_tup (pa_cons pe_int (pa_cons (pv 4) pa_nil))) (nomark _)) (pw_or1 (pt_cmpR (r := rNeD K) (op_neD hr.units) (pe_c C_mean_after (hr.mono (by decide)) passL (pa_cons (pv 1) (pa_cons (pv 2) (pa_cons (pe_tup (pa_cons (pv 3) (pa_cons pe_int pa_nil))) (pa_cons pe_int pa_nil))))) (pe_tup (pa_cons pe_int (pa_cons (pe_op op_mulX pe_int (pv 4)) pa_nil))) (nomark _))))) (pss_one (ps_ret pe_bl)) pss_nil)
      (pss_cons (ps_for PassesOwn.never rfl (pi_list (pe_lst (pa_cons pe_int (pa_cons (pe_op op_add pe_int (pe_op op_modN (pv 0) pe_int)) (pa_cons (pe_op op_pow pe_int pe_int) pa_nil))))) (pg_name (i := 6) sc.nd rfl (by first | exact Or.inl rfl | exact Or.inr rfl)) (pss_one (ps_if (PW.pt (pw_or (pt_not (pt_val (pe_c C__law_refused (hr.mono (by decide)) pass0 (pa_cons pe_int (pa_cons (pv 6) pa_nil))))) (pw_or1 (pt_not (pt_val (pe_c C__law_refused (hr.mono (by decide)) pass0 (pa_cons pe_int (pa_cons (pv 6) pa_nil)))))))) (pss_one (ps_ret pe_bl)) pss_nil)))
      (pss_one (ps_ret pe_bl))))))))), fun dr ha => ?_⟩
  refine run_seq (run_set (d := encH hF) (ed_tup (ds := [.list [encW ⟨1, [lnF], [(0, 1)]⟩], .list [encT ⟨0, []⟩]]) (ea_d (en_lst (ds := [encW ⟨1, [lnF], [(0, 1)]⟩]) (ea_d (ed_tup (ds := [.int 1, .list [encS lnF], encS [(0, 1)]]) (ea_d (ed_int 1) (ea_d (en_lst (ds := [encS lnF]) (ea_d (en_lst (ds := [encI (0, mkRat 1 2), encI (2, mkRat 1 2)]) (ea_d (ed_tup (ds := [.int 0, encQ (mkRat 1 2)]) (ea_d (ed_int 0) (ea_d ((ed_tup (ds := [.int 1, .int 2]) (ea_d (ed_int 1) (ea_d (ed_int 2) ea_nil))).is (d' := encQ (mkRat 1 2)) enc_half) ea_nil))) (ea_d (ed_tup (ds := [.int 2, encQ (mkRat 1 2)]) (ea_d (ed_int 2) (ea_d ((ed_tup (ds := [.int 1, .int 2]) (ea_d (ed_int 1) (ea_d (ed_int 2) ea_nil))).is (d' := encQ (mkRat 1 2)) enc_half) ea_nil))) ea_nil))).d ea_nil)).d (ea_d (en_lst (ds := [encI (0, 1)]) (ea_d (ed_tup (ds := [.int 0, encQ 1]) (ea_d (ed_int 0) (ea_d ((ed_tup (ds := [.int 1, .int 1]) (ea_d (ed_int 1) (ea_d (ed_int 1) ea_nil))).is (d' := encQ 1) rfl) ea_nil))) ea_nil)).d ea_nil)))) ea_nil)).d (ea_d (en_lst (ds := [encT ⟨0, []⟩]) (ea_d (ed_tup (ds := [.int 0, .list []]) (ea_d (ed_int 0) (ea_d (en_lst (ds := []) ea_nil).d ea_nil))) ea_nil)).d ea_nil)))) ?_
  refine run_seq (run_set (d := encTq tF) (ed_tup (ds := [.list [.list []], .list [encQ 3], encQ (mkRat 1 2)]) (ea_d (en_lst (ds := [.list []]) (ea_d (en_lst (ds := []) ea_nil).d ea_nil)).d (ea_d (en_lst (ds := [encQ 3]) (ea_d ((ed_tup (ds := [.int 3, .int 1]) (ea_d (ed_int 3) (ea_d (ed_int 1) ea_nil))).is (d' := encQ 3) rfl) ea_nil)).d (ea_d ((ed_tup (ds := [.int 1, .int 2]) (ea_d (ed_int 1) (ea_d (ed_int 2) ea_nil))).is (d' := encQ (mkRat 1 2)) enc_half) ea_nil))))) ?_
  have h3 := fm2 (x := dr) (m := 3) (by decide)
  have h9 := fm2 (x := dr) (m := 9000) (by decide)
  obtain ⟨r, hr1, hr2, hr3⟩ : ∃ r : Nat, 10000 - dr.fmod 3 = (r : Int) ∧ 1 ≤ r ∧ r ≤ 10000 := ⟨(10000 - dr.fmod 3).toNat, by omega, by omega, by omega⟩
  refine run_seq (run_set (d := .int (r : Int)) ((ed_I0 (g := fun i j => i - j) (ed_int 10000) (ed_I (C := fun _ j => j ≠ 0) (g := fun i j => i.fmod j) (ed_var 0 rfl) (ed_int 3) (by decide))).is (congrArg PyData.int hr1))) ?_
  refine run_seq (run_set (ed_int 1)) ?_
  have b2 : ∀ i : Nat, Bt (2 * i + 1) ((2 : Int) ^ i) := bt_pow (k := 2) (b := 2) (by decide)
  refine run_seq (run_for (ts := [5]) (ds := rngD 0 1 r) (fun i => [.dat (.int dr), .dat (encH hF), .dat (encTq tF), .dat (.int (r : Int)), .dat (.int (2 ^ i)), .un, .un]) (ei_is (ei_rng1 (ed_var 3 rfl) (by omega)) (by rw [Int.toNat_natCast])) (by rw [Int.pow_zero]; exact (.eq (.eq (.eq (.eq (.eq (.un (.un .nil)))))))) (fun i d hi hd => ⟨_, eg_name (by decide), ?_⟩)) ?_
  · obtain ⟨hi2, rfl⟩ := rngD_get hd
    rw [Int.pow_succ]
    exact .n (run_set (ed_I (ed_var 4 rfl) (ed_int 2) ((b2 i).mulx (m := 2) (by decide) (by omega)))) (.eq (.eq (.eq (.eq (.eq (.un (.un .nil)))))))
  rw [rngD_len]
  have v1 : vaO ⟨tF, (r : Int), 0⟩ = some (.tuple [.int 3, .int (2 ^ r)]) := by
    unfold vaO
    rw [if_neg (show ¬(10000 : Int) < (r : Int) by omega), val_F, ev_half 3 r (by decide)]; rfl
  have v2 : maO (aF r) = some (.tuple [.int 15, .int (4 * 2 ^ r)]) := by
    unfold maO
    rw [if_neg (show ¬10000 < (aF r).r by show ¬10000 < r; omega), mean_F hr2, ev_half 15 (r + 2) (by decide), show (2 : Int) ^ (r + 2) = 4 * 2 ^ r by rw [Int.pow_add, Int.mul_comm]; rfl]; rfl
  have hv : VaP ⟨tF, (r : Int), 0⟩ := tbk_va tbk_F (by decide) _
  have hm : (aF r).r ≤ 10000 → MaQ (aF r) := fun _ => (fit_maq (fit_F r)).1
  refine run_seq (run_ifF (et_orF (et_same (ed_callX (x := (⟨tF, (r : Int), 0⟩ : VaA)) (ea_d (ed_var 2 rfl) (ea_d (ed_var 3 rfl) (ea_d (ed_int 0) ea_nil))) rfl hv v1).p (ed_tup (ds := [.int 3, .int (2 ^ r)]) (ea_d (ed_int 3) (ea_d (ed_var 4 rfl) ea_nil))).p rfl)
    (et_same (ed_callX (x := aF r) (ea_d (ed_var 1 rfl) (ea_d (ed_var 2 rfl) (ea_d (ed_tup (ds := [.int (r : Int), .int 0]) (ea_d (ed_var 3 rfl) (ea_d (ed_int 0) ea_nil))) (ea_d (ed_int 0) ea_nil)))) rfl hm v2).p (ed_tup (ds := [.int 15, .int (4 * 2 ^ r)]) (ea_d (ed_int 15) (ea_d (ed_I (ed_int 4) (ed_var 4 rfl) (Bt.mulx (n := 3) (by decide) (b2 r) (by omega))) ea_nil))).p rfl)) run_next) ?_
  refine run_seq (run_for (ts := [6]) (ds := [10001, 10001 + dr.fmod 9000, 1000000000000000].map PyData.int) (fun _ => [.dat (.int dr), .un, .un, .un, .un, .un, .un]) (ei_list (en_lst (ds := [.int 10001, .int (10001 + dr.fmod 9000), .int 1000000000000000]) (ea_d (ed_int 10001) (ea_d (ed_I0 (ed_int 10001) (ed_I (C := fun _ j => j ≠ 0) (ed_var 0 rfl) (ed_int 9000) (by decide))) (ea_d (ed_pow (by decide) (by decide)) ea_nil)))).d) (.eq (.un (.un (.un (.un (.un (.un .nil))))))) (fun i d hi hd => ⟨_, eg_name (by decide), ?_⟩)) ?_
  · obtain ⟨n, hn1, rfl⟩ : ∃ n : Nat, 10000 < n ∧ d = .int (n : Int) := by
      obtain ⟨x, hx, rfl⟩ := List.mem_map.mp (List.mem_of_getElem? hd)
      simp only [List.mem_cons, List.not_mem_nil, or_false] at hx
      exact ⟨x.toNat, by omega, congrArg PyData.int (by omega)⟩
    exact .n (run_ifF (et_orF ((et_not (et_B (ed_call (x := ((0 : Int), n)) (ea_d (ed_int 0) (ea_d (ed_var 6 rfl) ea_nil)) rfl hn1))).is rfl) ((et_not (et_B (ed_call (x := ((1 : Int), n)) (ea_d (ed_int 1) (ea_d (ed_var 6 rfl) ea_nil)) rfl hn1))).is rfl)) run_next) (.eq (.un (.un (.un (.un (.un (.un .nil)))))))
  exact run_ret (ed_bl true)

end
end KP

/-! The houses of the second kind are fit. -/
namespace MX
open PySem L2 DL
theorem dvA_s (d : Int) : (dvA d).Pairwise (· < ·) ∧ (∀ v ∈ dvA d, 0 ≤ v ∧ v ≤ 4) ∧ ∀ v ∈ dvA d, v ≤ d.fmod 2 + 1 + (d.fdiv 2).fmod 3 := by
  have h2 := fm2 (x := d) (m := 2) (by decide)
  have h3 := fm2 (x := d.fdiv 2) (m := 3) (by decide)
  unfold dvA
  refine ⟨?_, fun v hv => ?_, fun v hv => ?_⟩
  · rw [List.pairwise_cons]
    exact ⟨fun v hv => by rw [List.mem_singleton] at hv; omega, List.pairwise_singleton _ _⟩
  · simp only [List.mem_cons, List.not_mem_nil, or_false] at hv; omega
  · simp only [List.mem_cons, List.not_mem_nil, or_false] at hv; omega
theorem pw_snoc {l : List Int} {x : Int} (h : l.Pairwise (· < ·)) (hx : ∀ v ∈ l, v < x) : (l ++ [x]).Pairwise (· < ·) := by
  rw [List.pairwise_append]
  exact ⟨h, List.pairwise_singleton _ _, fun a ha b hb => by rw [List.mem_singleton] at hb; rw [hb]; exact hx a ha⟩
theorem dvB_s (full : Bool) (d : Int) : (dvB full d).Pairwise (· < ·) ∧ (∀ v ∈ dvB full d, 0 ≤ v ∧ v ≤ 10) := by
  have h2 := fm2 (x := d) (m := 2) (by decide)
  have h3 := fm2 (x := d.fdiv 2) (m := 3) (by decide)
  have h4 := fm2 (x := d.fdiv 12) (m := 4) (by decide)
  obtain ⟨a, b, c⟩ := dvA_s d
  unfold dvB
  split
  · refine ⟨pw_snoc a fun v hv => by have := c v hv; omega, fun v hv => ?_⟩
    rcases List.mem_append.mp hv with hv | hv
    · have := b v hv; omega
    · rw [List.mem_singleton] at hv; omega
  · exact ⟨a, fun v hv => by have := b v hv; omega⟩
theorem dvC_s (full great : Bool) (d : Int) (j : Nat) : (dvC full great d j).Pairwise (· < ·) ∧ (∀ v ∈ dvC full great d j, 0 ≤ v ∧ v < 1001) := by
  have h := fm2 (x := d) (m := 41) (by decide)
  obtain ⟨a, b⟩ := dvB_s full d
  unfold dvC
  split
  · refine ⟨pw_snoc a fun v hv => by have := b v hv; omega, fun v hv => ?_⟩
    rcases List.mem_append.mp hv with hv | hv
    · have := b v hv; omega
    · rw [List.mem_singleton] at hv; omega
  · exact ⟨a, fun v hv => by have := b v hv; omega⟩
theorem spk_line (S D : List Int) (k j : Nat) : SpK 1001 (lineG S D k j) := by
  unfold lineG
  generalize D.getD ((3 * k + j) % 16) 0 = d
  have hl := dvC_len (fullG S) (greatG S) d j
  obtain ⟨a, b⟩ := dvC_s (fullG S) (greatG S) d j
  exact spk_spD (fun z => by rw [z] at hl; exact absurd hl.1 (by decide)) hl.2 a b (by decide)
theorem others_s {c d : Int} (hc : 1 ≤ c ∧ c ≤ 4) : SpK c (spD d2 (othersG c d)) := by
  have hm : ∀ v ∈ othersG c d, 0 ≤ v ∧ v < c := fun v hv => by
    obtain ⟨k, hk, e⟩ := List.mem_filterMap.mp hv
    have hk := List.mem_range.mp hk
    split at e
    · cases e; omega
    · cases e
  have hf := fm2 (x := d) (m := c) (by omega)
  have hne : othersG c d ≠ [] := fun z => by
    have : ((d.fmod c).toNat : Int) ∈ othersG c d := List.mem_filterMap.mpr ⟨(d.fmod c).toNat, List.mem_range.mpr (by omega), by
      rw [if_pos]
      unfold otherB
      rw [decide_eq_true (show (((d.fmod c).toNat : Nat) : Int) = d.fmod c by omega), Bool.or_true]⟩
    rw [z] at this
    cases this
  have hp : (othersG c d).Pairwise (· < ·) := by
    unfold othersG
    have key : ∀ l : List Nat, l.Pairwise (· < ·) → (l.filterMap fun j => if otherB c d j = true then some (j : Int) else none).Pairwise (· < ·) := by
      intro l
      induction l with
      | nil => intro _; exact List.Pairwise.nil
      | cons a l ih =>
        intro h
        rw [List.pairwise_cons] at h
        have ih := ih h.2
        rw [List.filterMap_cons]
        cases e : (if otherB c d a = true then some (a : Int) else none) with
        | none => exact ih
        | some x =>
          rw [List.pairwise_cons]
          refine ⟨fun y hy => ?_, ih⟩
          obtain ⟨b, hb, e2⟩ := List.mem_filterMap.mp hy
          have h1 := h.1 b hb
          split at e
          · split at e2
            · cases e; cases e2; omega
            · cases e2
          · cases e
    exact key _ List.pairwise_lt_range
  exact spk_spD hne (othersG_len c d hc.2) hp hm (by omega)
theorem layG_ok (x : Int) : ∀ l ∈ layG x, LayOk l ∧ LayV l := fun l hl => by
  have h4 := fm2 (x := x.fdiv 4) (m := 4) (by decide)
  have h3 := fm2 (x := x.fdiv 4) (m := 3) (by decide)
  have h12 := fm2 (x := x.fdiv 12) (m := 4) (by decide)
  unfold layG at hl
  split at hl
  · rw [List.mem_singleton.mp hl]; exact ⟨⟨h4.1, by omega⟩, ⟨h4.1, by omega⟩⟩
  · split at hl
    · rw [List.mem_singleton.mp hl]
      generalize (x.fdiv 4).fmod 4 = y at h4
      have hy : y = 0 ∨ y = 1 ∨ y = 2 ∨ y = 3 := by omega
      have hq : Qb 60 (Rat.divInt y 3) := (qb_divInt (n := 40) (by decide) (by rcases hy with rfl | rfl | rfl | rfl <;> decide) (by decide)).mono (by decide)
      have h0 : 0 ≤ (Rat.divInt y 3).num ∧ (Rat.divInt y 3).num ≤ ((Rat.divInt y 3).den : Int) := by
        rcases hy with rfl | rfl | rfl | rfl <;> decide +kernel
      exact ⟨⟨h0.1, h0.2, hq⟩, h0⟩
    · split at hl
      · rw [List.mem_singleton.mp hl]; exact ⟨⟨h3.1, by omega, by omega⟩, ⟨h3.1, by omega, by omega⟩⟩
      · cases hl
theorem laysG_ok (d : Int) : ∀ m, ∀ l ∈ laysG d m, LayOk l ∧ LayV l
  | 0, l, hl => by cases hl
  | m + 1, l, hl => by
    unfold laysG at hl
    rcases List.mem_append.mp hl with hl | hl
    · exact laysG_ok d m l hl
    · exact layG_ok _ l hl
theorem trG_ok' {p d : Int} {m : Nat} (hp : 0 ≤ p ∧ p ≤ 1000) (hm : m ≤ 4) : TrOk ⟨p, laysG d m⟩ ∧ TrV ⟨p, laysG d m⟩ := by
  have hl := laysG_len d m
  exact ⟨⟨fun l h => (laysG_ok d m l h).1, by show (laysG d m).length ≤ 10; omega, Bt.mono (n := 30) (bt_range (by show _ < p; omega) (by show p < _; omega)) (by decide)⟩, ⟨fun l h => (laysG_ok d m l h).2, by show (laysG d m).length ≤ 4; omega, hp⟩⟩
theorem trG_ok (full : Bool) (d : Int) (k : Nat) : TrOk (trG full d k) ∧ TrV (trG full d k) := by
  have h1 := nyG_bd full k
  have h2 := fm2 (x := (drG d (nyG full k).toNat).fdiv 48) (m := 3) (by decide)
  exact trG_ok' (by omega) (by omega)
theorem trs_ok (S D : List Int) : ∀ t ∈ trs2 S D, TrOk t ∧ TrV t := fun t ht => by
  have h1 : ∀ t ∈ trs1 S D, TrOk t ∧ TrV t := fun t ht => by
    obtain ⟨k, _, rfl⟩ := List.mem_map.mp ht
    exact trG_ok _ _ _
  unfold trs2 at ht
  split at ht
  · rcases List.mem_or_eq_of_mem_set ht with ht | ht
    · exact h1 t ht
    · rw [ht]
      have h1 := nyG_bd true 3
      exact trG_ok' (p := 0) (by decide) (by omega)
  · exact h1 t ht
theorem trs_len (S D : List Int) : 1 ≤ (trs2 S D).length ∧ (trs2 S D).length ≤ 4 := by
  have h := ntG_bd S
  have e : (trs1 S D).length = (ntG S).toNat := by unfold trs1; rw [List.length_map, List.length_range]
  unfold trs2
  split
  · rw [List.length_set]; omega
  · omega
theorem line_len (S D : List Int) (k j : Nat) : (lineG S D k j).length ≤ 4 ∧ (fullG S = true → (lineG S D k j).length = 2) := by
  unfold lineG
  rw [spD_len]
  generalize D.getD ((3 * k + j) % 16) 0 = d
  refine ⟨(dvC_len _ _ _ _).2, fun hf => ?_⟩
  have hg : greatG S = false := by
    unfold fullG at hf
    have hf := of_decide_eq_true hf
    unfold greatG
    exact decide_eq_false (by omega)
  rw [hf, hg]
  unfold dvC dvB
  rw [if_neg (by simp), if_neg (by simp)]; rfl
theorem wtk_G (S D : List Int) (k : Nat) : WtK (countG S) (wtG S D k) := by
  have hc := countG_bd S
  have hn := nlG_bd S k
  have hp : 0 ≤ premG S k ∧ premG S k ≤ 24 := by
    have := fm2 (x := (S.getD 2 0).fdiv ((k : Int) + 1)) (m := 4) (by decide)
    have := fm2 (x := (S.getD 2 0).fdiv ((k : Int) + 1)) (m := 25) (by decide)
    unfold premG prem1; split <;> omega
  have hl : ∀ s ∈ (wtG S D k).lines, SpK 1001 s := fun s hs => by
    obtain ⟨j, _, rfl⟩ := List.mem_map.mp hs
    exact spk_line S D k j
  have ht : SpK (countG S) (wtG S D k).turns := others_s (d2 := D.getD (10 + k) 0) hc
  have hlen : (wtG S D k).lines.length = (nlG S k).toNat := by show ((List.range _).map _).length = _; rw [List.length_map, List.length_range]
  refine ⟨⟨⟨hp.1, by show premG S k ≤ 1000; omega⟩, by omega, fun s hs => (hl s hs).g, fun i hi => ?_, ht.g⟩, by show premG S k ≤ 100; omega, hl, ht⟩
  cases hf : fullG S with
  | true =>
    have h1 := lenF_le (m := 2) (ls := (wtG S D k).lines) (fun s hs => by
      obtain ⟨j, _, rfl⟩ := List.mem_map.mp hs
      exact Nat.le_of_eq ((line_len S D k j).2 hf)) i hi
    have h2 : 2 ^ i ≤ 2 ^ 3 := Nat.pow_le_pow_right (by decide) (by omega)
    omega
  | false =>
    have h1 := lenF_le (m := 4) (ls := (wtG S D k).lines) (fun s hs => by
      obtain ⟨j, _, rfl⟩ := List.mem_map.mp hs
      exact (line_len S D k j).1) i hi
    have h3 : nlG S k ≤ 2 := by
      have := fm2 (x := (S.getD 1 0).fdiv ((k : Int) + 1)) (m := 3) (by decide)
      unfold nlG; rw [hf, if_neg (by decide)]; omega
    have h2 : 4 ^ i ≤ 4 ^ 2 := Nat.pow_le_pow_right (by decide) (by omega)
    omega
theorem hsk_G (S D : List Int) : HsK (hsG S D) := by
  have hc := countG_bd S
  have hl : (((hsG S D).ws.length : Nat) : Int) = countG S := by show ((((List.range _).map _).length : Nat) : Int) = _; rw [List.length_map, List.length_range]; omega
  have hw : ∀ w ∈ (hsG S D).ws, WtK ((hsG S D).ws.length : Int) w := fun w hw => by
    rw [hl]
    obtain ⟨k, _, rfl⟩ := List.mem_map.mp hw
    exact wtk_G S D k
  exact ⟨⟨by omega, trs_len S D, fun w h => (hw w h).q, trs_ok S D⟩, hw⟩
end MX

namespace KP
open PySem L2 DL MX
section
variable {P : Program} {w : World} {K : PySem.W.Frag} {mg : Str → Option Value} {base : Heap}
/-! ### k40: law -/
theorem run_pubE3 {ts : TS} {env e e2 : EnvD} {ds : List D} (i : Nat) (h : Run K E ts env (.nx e)) (hi : e[i]? = some (.ml ds)) (he : e.set i (.dat (.list ds)) = e2) : Run K E ts env (.nx e2) := he ▸ run_pubE i hi h
def sc2 (sc : List Rat) : List Rat := sc.map fun c => Rat.divInt (c.num * 3 - 17) (c.den : Int)
def ro2 (row : List Rat) : List Rat := row.map fun c => Rat.divInt (c.num * 2 - 9) (c.den : Int)
def rwA (D : List Int) (rows : List (List Rat)) : List (List Rat) := if (D.getD 18 0).fmod 3 = 0 then rows.map ro2 else rows
def scA (D : List Int) (sc : List Rat) : List Rat := if (D.getD 18 0).fmod 3 = 0 then sc2 sc else sc
def frR (D : List Int) (w : Nat) : List Rat := (List.range (5 + (D.getD 0 0).fmod 36).toNat).map fun k => Rat.divInt (((D.getD ((w + k) % 20) 0).fdiv ((k : Int) + 1)).fmod 61 - 20) (1 + (D.getD (k % 20) 0).fmod 40)
def frQ (D : List Int) (w k : Nat) : Rat := Rat.divInt (((D.getD ((w + k) % 20) 0).fdiv ((k : Int) + 1)).fmod 61 - 20) (1 + (D.getD (k % 20) 0).fmod 40)
theorem frR_enc (D : List Int) (w : Nat) : (frR D w).map encQ = (List.range (5 + (D.getD 0 0).fmod 36).toNat).map fun k => encQ (frQ D w k) := by
  unfold frR frQ
  rw [List.map_map]; rfl
def rwB (n : Nat) (D : List Int) (rows : List (List Rat)) : List (List Rat) := if (D.getD 16 0).fmod 3 = 0 then (List.range n).map (frR D) else rows
theorem tbA {n : Nat} {t : Tq} (h : TbI n t) (D : List Int) : TbK n ⟨rwA D t.rows, scA D t.sc, t.q⟩ := by
  unfold rwA scA
  by_cases c : (D.getD 18 0).fmod 3 = 0
  · rw [if_pos c, if_pos c]
    obtain ⟨z, z1, z2⟩ := h.k.eq
    refine ⟨by show (t.rows.map ro2).length = n; rw [List.length_map]; exact h.k.r, by show (sc2 t.sc).length = n; unfold sc2; rw [List.length_map]; exact h.k.s, h.k.n4, ⟨z, z1, fun row hr => ?_⟩, fun row hr x hx => ?_, fun x hx => ?_, h.k.q⟩
    · obtain ⟨r, hr2, rfl⟩ := List.mem_map.mp hr
      unfold ro2; rw [List.length_map]; exact z2 r hr2
    · obtain ⟨r, hr2, rfl⟩ := List.mem_map.mp hr
      obtain ⟨y, hy, rfl⟩ := List.mem_map.mp hx
      have hk := h.rows r hr2 y hy
      have := hk.n0; have := hk.n1; have := hk.d; have := y.den_pos
      exact vk_of (by omega) (by omega) (by omega)
    · obtain ⟨y, hy, rfl⟩ := List.mem_map.mp hx
      have hk := h.scs y hy
      have := hk.n0; have := hk.n1; have := hk.d; have := y.den_pos
      exact vk_of (by omega) (by omega) (by omega)
  · rw [if_neg c, if_neg c]; exact h.k
theorem tbB {n : Nat} {rows : List (List Rat)} {sc : List Rat} {q : Rat} (h : TbK n ⟨rows, sc, q⟩) (D : List Int) : TbK n ⟨rwB n D rows, sc, q⟩ := by
  unfold rwB
  by_cases c : (D.getD 16 0).fmod 3 = 0
  · rw [if_pos c]
    have h36 := fm2 (x := D.getD 0 0) (m := 36) (by decide)
    refine ⟨by show ((List.range n).map (frR D)).length = n; rw [List.length_map, List.length_range], h.s, h.n4, ⟨(5 + (D.getD 0 0).fmod 36).toNat, by omega, fun row hr => ?_⟩, fun row hr x hx => ?_, h.scv, h.q⟩
    · obtain ⟨r, hr, rfl⟩ := List.mem_map.mp hr
      unfold frR; rw [List.length_map, List.length_range]
    · obtain ⟨r, hr, rfl⟩ := List.mem_map.mp hr
      obtain ⟨k, hk, rfl⟩ := List.mem_map.mp hx
      have h61 := fm2 (x := (D.getD ((r + k) % 20) 0).fdiv ((k : Int) + 1)) (m := 61) (by decide)
      have h40 := fm2 (x := D.getD (k % 20) 0) (m := 40) (by decide)
      exact vk_of (by omega) (by omega) (by omega)
  · rw [if_neg c]; exact h
theorem sb_tq {n : Nat} {t : Tq} (h : TbK n t) : Sb 4 700 (encTq t) := by
  have sq : ∀ {x : Rat}, Vk x → Sb 1 2 (encQ x) := fun h => sb_tup (sbs_cons (sb_int (h.qb.num.mono (by decide))) (sbs_cons (sb_int (h.qb.den.mono (by decide))) sbs_nil))
  obtain ⟨z, z1, z2⟩ := h.eq
  have hr : Sbs 2 ((130 + 1) * t.rows.length) (t.rows.map encRq) := sbs_map fun row hr => by
    have : Sbs 1 ((2 + 1) * row.length) (row.map encQ) := sbs_map fun x hx => sq (h.item row hr x hx)
    have hl := z2 row hr
    exact (sb_lst this).mono (by decide) (by omega)
  have hs : Sbs 1 ((2 + 1) * t.sc.length) (t.sc.map encQ) := sbs_map fun x hx => sq (h.scv x hx)
  have h1 := h.r
  have h2 := h.s
  have h4 := h.n4
  have s1 : Sb 3 550 (.list (t.rows.map encRq)) := (sb_lst hr).mono (by decide) (by omega)
  have s2 : Sb 3 20 (.list (t.sc.map encQ)) := (sb_lst hs).mono (by decide) (by omega)
  have s3 : Sb 3 20 (encQ t.q) := (sb_tup (sbs_cons (sb_int (h.q.q40.num.mono (by decide))) (sbs_cons (sb_int (h.q.q40.den.mono (by decide))) sbs_nil))).mono (by decide) (by decide)
  exact (sb_tup (sbs_cons s1 (sbs_cons s2 (sbs_cons s3 sbs_nil)))).mono (by decide) (by decide)
theorem absI_nn (x : Int) : 0 ≤ absI x := by unfold absI; split <;> omega
def sp_law (K : PySem.W.Frag) : Sp := SpD K (fun ns : List Int => [.scr ns]) (fun ns => ns.length ≤ 63) (fun _ => .bool true)
theorem sc_law : FnScope ["script", "house", "draws", "rows", "scales", "q", "fresh", "w", "table", "kept", "r", "far", "t", "told", "item", "row", "k"] ["script"] (defScope s_law) := ⟨rfl, rfl, rfl, by decide +kernel, rfl, by decide +kernel, by decide +kernel⟩
theorem ok_law {f C : Addr} {fd : FuncData} (F : Fun K "law" "law" s_law f fd) (m_len : mg "len" = none) (m_range : mg "range" = none) (m_repr : mg "repr" = none)
    (C__law_cell : Callee P w K mg base CX0 1 "_law_cell" ["script", "k"] (sp__law_cell K)) (C__law_digits : Callee P w K mg base CX0 1 "_law_digits" ["cell", "base", "most"] (sp__law_digits K)) (C__law_far : Callee P w K mg base CX0 9 "_law_far" ["draw"] (sp__law_far K)) (C__law_fraction : Callee P w K mg base CX0 1 "_law_fraction" ["top", "low"] (sp__law_fraction K))
    (C__law_house : Callee P w K mg base CX0 3 "_law_house" ["first", "second"] (sp__law_house K)) (C__law_mean : Callee P w K mg base CX0 5 "_law_mean" ["house", "table", "reserve", "weather", "treaty"] (sp__law_mean K)) (C__law_table : Callee P w K mg base CX0 2 "_law_table" ["house", "draws"] (sp__law_table K)) (C__law_value : Callee P w K mg base CX0 2 "_law_value" ["table", "reserve", "weather"] (sp__law_value K))
    (C_value_at : Callee P w K mg base (L2.CX P w) 4 "value_at" ["table", "reserve", "weather"] (sp_value_at K C)) (C_mean_after : Callee P w K mg base (L2.CX P w) 7 "mean_after" ["house", "table", "state", "treaty"] (sp_mean_after K C)) :
    FnG P w K mg base 10 f fd ["script"] (sp_law K) := by
  have sc := sc_law
  refine fn_GD F sc (fun _ => rfl) fun cdv A outer s H E GD hr => ?_
  refine ⟨_, (pss_cons (ps_set (i := 1) sc.nd rfl (by first | exact Or.inl rfl | exact Or.inr rfl) (pe_c C__law_house (hr.mono (by decide)) pass0 (pa_cons (pe_c C__law_cell (hr.mono (by decide)) pass0 (pa_cons (pv 0) (pa_cons pe_int pa_nil))) (pa_cons (pe_c C__law_cell (hr.mono (by decide)) pass0 (pa_cons (pv 0) (pa_cons pe_int pa_nil))) pa_nil))))
      (pss_cons (ps_set (i := 2) sc.nd rfl (by first | exact Or.inl rfl | exact Or.inr rfl) (pe_c C__law_digits (hr.mono (by decide)) pass0 (pa_cons (pe_c C__law_cell (hr.mono (by decide)) pass0 (pa_cons (pv 0) (pa_cons pe_int pa_nil))) (pa_cons pe_int (pa_cons pe_int pa_nil)))))
      (pss_cons (ps_asg (pe_c C__law_table (hr.mono (by decide)) pass0 (pa_cons (pv 1) (pa_cons (pv 2) pa_nil))) (pg_tup rfl (pgs_cons (pg_name (i := 3) sc.nd rfl (by first | exact Or.inl rfl | exact Or.inr rfl)) (pgs_cons (pg_name (i := 4) sc.nd rfl (by first | exact Or.inl rfl | exact Or.inr rfl)) (pgs_cons (pg_name (i := 5) sc.nd rfl (by first | exact Or.inl rfl | exact Or.inr rfl)) pgs_nil)))))
      (pss_cons (ps_if (pt_cmpR op_eq (pe_op op_modN (pe_ix (r := rIxL K) ix_list (pv 2) pe_int (fun _ _ => rfl)) pe_int) pe_int (nomark _)) (pss_cons (ps_setLc (i := 4) (own := [("item", 14)]) rfl sc.nd rfl rfl (sw_true rfl rfl rfl (by decide +kernel)) (pi_list (pv 4)) (blkOk_by (own := [("item", 14)]) (N := ["script", "house", "draws", "rows", "scales", "q", "fresh", "w", "table", "kept", "r", "far", "t", "told", "item", "row", "k"]) (sc := defScope s_law) (by decide +kernel)) (fun _ _ _ _ _ => (pg_name (i := 14) sc.nd rfl (Or.inl rfl))) (fun _ _ _ _ _ => pts_nil) (fun _ _ _ _ _ => (pe_c C__law_fraction (hr.mono (by decide)) pass0 (pa_cons (pe_op op_sub (pe_op op_mulX (pe_ix (r := rIxT K) ix_tup (pv 14) pe_int (fun _ _ => rfl)) pe_int) pe_int) (pa_cons (pe_ix (r := rIxT K) ix_tup (pv 14) pe_int (fun _ _ => rfl)) pa_nil)))))
      (pss_one (ps_setLc (i := 3) (own := [("row", 15)]) rfl sc.nd rfl rfl (sw_true rfl rfl rfl (by decide +kernel)) (pi_list (pv 3)) (blkOk_by (own := [("row", 15)]) (N := ["script", "house", "draws", "rows", "scales", "q", "fresh", "w", "table", "kept", "r", "far", "t", "told", "item", "row", "k"]) (sc := defScope s_law) (by decide +kernel)) (fun _ _ _ _ _ => (pg_name (i := 15) sc.nd rfl (Or.inl rfl))) (fun _ _ _ _ _ => pts_nil) (fun _ _ _ _ _ => (by
      refine pe_lc (wi := iList K (tVar 15)) (g := gName 14) (tt := tYes) (te := tCall (sp__law_fraction K) [] E0 (tCons (tOp (rI0 fun i j => .int (i - j)) (tOp (rI CMulX fun i j => .int (i * j)) (tOp (rIxT K) (tVar 14) (tC (.int 0))) (tC (.int 2))) (tC (.int 9))) (tCons (tOp (rIxT K) (tVar 14) (tC (.int 1))) tNil))) (own := [("item", 14)]) rfl sc.nd ?_ ?_ ?_ ?_ ?_
      · exact pi_list (pv 15)
      · exact blkOk_by (by rfl)
      · exact fun _ _ _ _ _ => pg_name (i := 14) sc.nd rfl (by first | exact Or.inl rfl | exact Or.inr rfl)
      · exact fun _ _ _ _ _ => pts_nil
      · exact (fun _ _ _ _ _ => (pe_c C__law_fraction (hr.mono (by decide)) pass0 (pa_cons (pe_op op_sub (pe_op op_mulX (pe_ix (r := rIxT K) ix_tup (pv 14) pe_int (fun _ _ => rfl)) pe_int) pe_int) (pa_cons (pe_ix (r := rIxT K) ix_tup (pv 14) pe_int (fun _ _ => rfl)) pa_nil))))))))) pss_nil)
      (pss_cons (ps_if (pt_cmpR op_eq (pe_op op_modN (pe_ix (r := rIxL K) ix_list (pv 2) pe_int (fun _ _ => rfl)) pe_int) pe_int (nomark _)) (pss_cons (ps_set (i := 6) sc.nd rfl (by first | exact Or.inl rfl | exact Or.inr rfl) (pe_lst pa_nil))
      (pss_cons (ps_for PassesOwn.never rfl (pi_range1 (by rfl) m_range (pa_cons (pe_callB (id := "len") (r := rLenS K) call_len_seq (by rfl) m_len PySem.boot_len (pa_cons (pe_ix (r := rIxT K) ix_tup (pv 1) pe_int (fun _ _ => rfl)) pa_nil)) pa_nil)) (pg_name (i := 7) sc.nd rfl (by first | exact Or.inl rfl | exact Or.inr rfl)) (pss_one (ps_expr (pe_bm PySem.F.plainAttrs_list PySem.F.slot_list_append PySem.F.type_list_append mt_append (pv 6) (pa_cons (pe_lc (own := [("k", 16)]) rfl sc.nd (pi_range1 (by rfl) m_range (pa_cons (pe_op op_add pe_int (pe_op op_modN (pe_ix (r := rIxL K) ix_list (pv 2) pe_int (fun _ _ => rfl)) pe_int)) pa_nil)) (blkOk_by (own := [("k", 16)]) (N := ["script", "house", "draws", "rows", "scales", "q", "fresh", "w", "table", "kept", "r", "far", "t", "told", "item", "row", "k"]) (sc := defScope s_law) (by decide +kernel)) (fun _ _ _ _ _ => (pg_name (i := 16) sc.nd rfl (Or.inl rfl))) (fun _ _ _ _ _ => pts_nil) (fun _ _ _ _ _ => (pe_c C__law_fraction (hr.mono (by decide)) pass0 (pa_cons (pe_op op_sub (pe_op op_modN (pe_op op_fdivZ (pe_ix (r := rIxL K) ix_list (pv 2) (pe_op op_modN (pe_op op_add (pv 7) (pv 16)) pe_int) (fun _ _ => rfl)) (pe_op op_add (pv 16) pe_int)) pe_int) pe_int) (pa_cons (pe_op op_add pe_int (pe_op op_modN (pe_ix (r := rIxL K) ix_list (pv 2) (pe_op op_modN (pv 16) pe_int) (fun _ _ => rfl)) pe_int)) pa_nil))))) pa_nil)))))
      (pss_one (ps_set (i := 3) sc.nd rfl (by first | exact Or.inl rfl | exact Or.inr rfl) (pv 6))))) pss_nil)
      (pss_cons (ps_set (i := 8) sc.nd rfl (by first | exact Or.inl rfl | exact Or.inr rfl) (pe_tup (pa_cons (pv 3) (pa_cons (pv 4) (pa_cons (pv 5) pa_nil)))))
      (pss_cons (ps_set (i := 9) sc.nd rfl (by first | exact Or.inl rfl | exact Or.inr rfl) (pe_callB (id := "repr") (r := rRepr K) (call_repr GD hr.units) (by rfl) m_repr (by decide +kernel) (pa_cons (pe_lst (pa_cons (pv 1) (pa_cons (pv 8) pa_nil))) pa_nil)))
      (pss_cons (ps_for PassesOwn.never rfl (pi_range1 (by rfl) m_range (pa_cons (pe_callB (id := "len") (r := rLenS K) call_len_seq (by rfl) m_len PySem.boot_len (pa_cons (pe_ix (r := rIxT K) ix_tup (pv 1) pe_int (fun _ _ => rfl)) pa_nil)) pa_nil)) (pg_name (i := 7) sc.nd rfl (by first | exact Or.inl rfl | exact Or.inr rfl)) (pss_cons (ps_for PassesOwn.never rfl (pi_range2 (by rfl) m_range (pa_cons (pe_un un_neg pe_int) (pa_cons (pe_op op_add pe_int (pe_callB (id := "len") (r := rLenS K) call_len_seq (by rfl) m_len PySem.boot_len (pa_cons (pe_ix (r := rIxL K) ix_list (pv 3) pe_int (fun _ _ => rfl)) pa_nil))) pa_nil))) (pg_name (i := 10) sc.nd rfl (by first | exact Or.inl rfl | exact Or.inr rfl)) (pss_one (ps_if (pt_cmpR op_ne (pe_callB (id := "repr") (r := rRepr K) (call_repr GD hr.units) (by rfl) m_repr (by decide +kernel) (pa_cons (pe_c C_value_at (hr.mono (by decide)) passL (pa_cons (pv 8) (pa_cons (pv 10) (pa_cons (pv 7) pa_nil)))) pa_nil)) (pe_callB (id := "repr") (r := rRepr K) (call_repr GD hr.units) (by rfl) m_repr (by decide +kernel) (pa_cons (pe_c C__law_value (hr.mono (by decide)) pass0 (pa_cons (pv 8) (pa_cons (pv 10) (pa_cons (pv 7) pa_nil)))) pa_nil)) (nomark _)) (pss_one (ps_ret pe_bl)) pss_nil)))
      (pss_cons (ps_set (i := 11) sc.nd rfl (by first | exact Or.inl rfl | exact Or.inr rfl) (pe_op op_add pe_int (pe_op op_modN (pe_ix (r := rIxL K) ix_list (pv 2) (pv 7) (fun _ _ => rfl)) pe_int)))
      (pss_cons (ps_if (PW.pt (pw_or (pt_cmpR (r := rNeD K) (op_neD hr.units) (pe_c C_value_at (hr.mono (by decide)) passL (pa_cons (pv 8) (pa_cons (pv 11) (pa_cons (pv 7) pa_nil)))) (pe_c C__law_value (hr.mono (by decide)) pass0 (pa_cons (pv 8) (pa_cons (pv 11) (pa_cons (pv 7) pa_nil)))) (nomark _)) (pw_or1 (pt_cmpR (r := rNeD K) (op_neD hr.units) (pe_c C_value_at (hr.mono (by decide)) passL (pa_cons (pv 8) (pa_cons (pe_un un_neg (pv 11)) (pa_cons (pv 7) pa_nil)))) (pe_tup (pa_cons pe_int (pa_cons pe_int pa_nil))) (nomark _))))) (pss_one (ps_ret pe_bl)) pss_nil)
      (pss_cons (ps_if (PW.pt (pw_or (pt_cmpR (r := rNeD K) (op_neD hr.units) (pe_c C_value_at (hr.mono (by decide)) passL (pa_cons (pv 8) (pa_cons (pe_op op_sub (pe_un un_neg pe_int) (pe_op op_modN (pe_ix (r := rIxL K) ix_list (pv 2) (pv 7) (fun _ _ => rfl)) pe_int)) (pa_cons (pv 7) pa_nil)))) (pe_tup (pa_cons pe_int (pa_cons pe_int pa_nil))) (nomark _)) (pw_or1 (pt_cmpR (r := rNeD K) (op_neD hr.units) (pe_c C_value_at (hr.mono (by decide)) passL (pa_cons (pv 8) (pa_cons (pe_op op_sub pe_int (pe_op op_pow pe_int pe_int)) (pa_cons (pv 7) pa_nil)))) (pe_tup (pa_cons pe_int (pa_cons pe_int pa_nil))) (nomark _))))) (pss_one (ps_ret pe_bl)) pss_nil)
      (pss_one (ps_for PassesOwn.never rfl (pi_range1 (by rfl) m_range (pa_cons (pe_callB (id := "len") (r := rLenS K) call_len_seq (by rfl) m_len PySem.boot_len (pa_cons (pe_ix (r := rIxT K) ix_tup (pv 1) pe_int (fun _ _ => rfl)) pa_nil)) pa_nil)) (pg_name (i := 12) sc.nd rfl (by first | exact Or.inl rfl | exact Or.inr rfl)) (pss_cons (ps_set (i := 10) sc.nd rfl (by first | exact Or.inl rfl | exact Or.inr rfl) (pe_ix (r := rIxL K) ix_list (pe_lst (pa_cons (pe_op op_modN (pe_ix (r := rIxL K) ix_list (pv 2) (pe_op op_add (pv 7) (pv 12)) (fun _ _ => rfl)) pe_int) (pa_cons (pe_op op_modN (pe_ix (r := rIxL K) ix_list (pv 2) (pe_op op_add (pv 7) (pv 12)) (fun _ _ => rfl)) pe_int) (pa_cons (pe_op op_modN pe_int (pe_op op_add pe_int (pe_callB (id := "len") (r := rLenS K) call_len_seq (by rfl) m_len PySem.boot_len (pa_cons (pe_ix (r := rIxL K) ix_list (pv 3) pe_int (fun _ _ => rfl)) pa_nil)))) pa_nil)))) (pe_op op_modN (pe_ix (r := rIxL K) ix_list (pv 2) (pv 7) (fun _ _ => rfl)) pe_int) (fun _ _ => rfl)))
      (pss_cons (ps_set (i := 13) sc.nd rfl (by first | exact Or.inl rfl | exact Or.inr rfl) (pe_c C_mean_after (hr.mono (by decide)) passL (pa_cons (pv 1) (pa_cons (pv 8) (pa_cons (pe_tup (pa_cons (pv 10) (pa_cons (pv 7) pa_nil))) (pa_cons (pv 12) pa_nil))))))
      (pss_one (ps_if (pt_cmpR op_ne (pe_callB (id := "repr") (r := rRepr K) (call_repr GD hr.units) (by rfl) m_repr (by decide +kernel) (pa_cons (pv 13) pa_nil)) (pe_callB (id := "repr") (r := rRepr K) (call_repr GD hr.units) (by rfl) m_repr (by decide +kernel) (pa_cons (pe_c C__law_mean (hr.mono (by decide)) pass0 (pa_cons (pv 1) (pa_cons (pv 8) (pa_cons (pv 10) (pa_cons (pv 7) (pa_cons (pv 12) pa_nil)))))) pa_nil)) (nomark _)) (pss_one (ps_ret pe_bl)) pss_nil)))))))))))
      (pss_cons (ps_if (PW.pt (pw_and (pt_cmpR op_eq (pe_op op_modN (pe_ix (r := rIxL K) ix_list (pv 2) pe_int (fun _ _ => rfl)) pe_int) pe_int (nomark _)) (pw_and1 (pt_not (pt_val (pe_c C__law_far (hr.mono (by decide)) pass0 (pa_cons (pe_ix (r := rIxL K) ix_list (pv 2) pe_int (fun _ _ => rfl)) pa_nil))))))) (pss_one (ps_ret pe_bl)) pss_nil)
      (pss_one (ps_ret (pe_cmpR op_eq (pe_callB (id := "repr") (r := rRepr K) (call_repr GD hr.units) (by rfl) m_repr (by decide +kernel) (pa_cons (pe_lst (pa_cons (pv 1) (pa_cons (pv 8) pa_nil))) pa_nil)) (pv 9) (nomark _))))))))))))), fun a ha => ?_⟩
  have cellK : ∀ (ev : EnvD) (k : Int), 0 ≤ k → ev[0]? = some (.scr a) → EvD K (tCall (sp__law_cell K) [] E0 (tCons (tVar 0) (tCons (tC (.int k)) tNil))) ev (.int (absI (cellF a k))) := fun ev k hk hv => ed_call (x := (a, k)) (ea_cons (ev_scr 0 hv) rfl (ea_d (ed_int k) ea_nil)) rfl hk
  refine run_seq (run_set (d := encH (houseG (absI (cellF a 0)) (absI (cellF a 1)))) (ed_call (x := (absI (cellF a 0), absI (cellF a 1))) (ea_d (cellK _ 0 (by decide) rfl) (ea_d (cellK _ 1 (by decide) rfl) ea_nil)) rfl ⟨absI_nn _, absI_nn _⟩)) ?_
  have hk : HsK (houseG (absI (cellF a 0)) (absI (cellF a 1))) := hsk_G _ _
  generalize houseG (absI (cellF a 0)) (absI (cellF a 1)) = h at hk ⊢
  refine run_seq (run_setN (en_call (x := ((absI (cellF a 2), 27720, 20) : Int × Int × Nat)) (ea_d (cellK _ 2 (by decide) rfl) (ea_d (ed_int 27720) (ea_d (ed_int 20) ea_nil))) rfl ⟨absI_nn _, ⟨by show (0 : Int) < 27720; decide, by show (27720 : Int) ≤ 1000000; decide⟩, by show 20 ≤ 1000; decide⟩)) (run_pub 2 rfl ?_)
  have hD := dig_of (base := 27720) (by decide) (absI (cellF a 2)) 20
  show Run K E _ [.scr a, .dat (encH h), .dat (.list ((digF (absI (cellF a 2)) 27720 20).map PyData.int)), .un, .un, .un, .un, .un, .un, .un, .un, .un, .un, .un, .un, .un, .un] _
  generalize digF (absI (cellF a 2)) 27720 20 = D at hD ⊢
  have dr : ∀ (ev : EnvD) (i : TE) (j : Int) (n : Nat), ev[2]? = some (.dat (.list (D.map PyData.int))) → EvD K i ev (.int j) → j = (n : Int) → n < 20 → EvD K (tOp (rIxL K) (tVar 2) i) ev (.int (D.getD n 0)) := fun ev i j n e hi hj hn => ed_ixl (ed_var 2 e).l hi (hD.ix n hj hn)
  have hnw := hk.q.nw
  have hnt := hk.q.nt
  have hTI := tab_i (n := h.ws.length) hnw.2 D
  refine run_seq (run_asg (ts := [3, 4, 5]) (d := encTq (tabG h.ws.length D)) (ed_call (x := (h, D)) (ea_d (ed_var 1 rfl) (ea_d (ed_var 2 rfl) ea_nil)) rfl ⟨hnw.2, hD⟩) (eg_tup (egs_cons (eg_name (by decide)) (egs_cons (eg_name (by decide)) (egs_cons (eg_name (by decide)) egs_nil))) rfl)) ?_
  have hTA := tbA hTI D
  have hrI := hTI.rows
  have hsI := hTI.scs
  obtain ⟨z0, z01, z02⟩ := hTI.k.eq
  have hrn := hTI.k.r
  have hsn := hTI.k.s
  show Run K E _ [.scr a, .dat (encH h), .dat (.list (D.map PyData.int)), .dat (.list ((tabG h.ws.length D).rows.map encRq)), .dat (.list ((tabG h.ws.length D).sc.map encQ)), .dat (encQ (tabG h.ws.length D).q), .un, .un, .un, .un, .un, .un, .un, .un, .un, .un, .un] _
  generalize (tabG h.ws.length D).rows = rows0 at *
  generalize (tabG h.ws.length D).sc = sc0 at *
  generalize (tabG h.ws.length D).q = q at *
  refine run_seq (e1 := [.scr a, .dat (encH h), .dat (.list (D.map PyData.int)), .dat (.list ((rwA D rows0).map encRq)), .dat (.list ((scA D sc0).map encQ)), .dat (encQ q), .un, .un, .un, .un, .un, .un, .un, .un, .un, .un, .un]) ?_ ?_
  · have t18 : EvT K _ [.scr a, .dat (encH h), .dat (.list (D.map PyData.int)), .dat (.list (rows0.map encRq)), .dat (.list (sc0.map encQ)), .dat (encQ q), .un, .un, .un, .un, .un, .un, .un, .un, .un, .un, .un] (decide ((D.getD 18 0).fmod 3 = 0)) := et_test (ed_eqI (ed_I (C := fun _ j => j ≠ 0) (g := fun i j => i.fmod j) (dr _ _ 18 18 rfl (ed_int 18) rfl (by decide)) (ed_int 3) (by decide)) (ed_int 0))
    unfold rwA scA
    by_cases c : (D.getD 18 0).fmod 3 = 0
    · rw [if_pos c, if_pos c]
      have hfr : ∀ y : Rat, Ik y → ∀ m t0 : Int, 0 ≤ m → m ≤ 3 → -17 ≤ t0 → t0 ≤ 0 → FrOk (y.num * m + t0, (y.den : Int)) := fun y hy m t0 m0 m3 h1 h2 => by
        have n0 := hy.n0; have n1 := hy.n1; have d1 := hy.d; have d0 := y.den_pos
        have p1 : 0 ≤ y.num * m := Int.mul_nonneg n0 m0
        have p2 : y.num * m ≤ 12 * 3 := Int.mul_le_mul n1 m3 m0 (by decide)
        exact frok (by omega) (by omega) (by omega) (by omega)
      have big : ∀ y : Rat, Ik y → Bt 10 y.num := fun y hy => by
        have := hy.n0; have := hy.n1
        have e : (2 : Int) ^ 10 = 1024 := by decide
        exact bt_range (by omega) (by omega)
      refine run_ifT (t18.is (decide_eq_true c)) (run_pubE3 3 (ds := (rows0.map ro2).map encRq) (run_seq (run_setN (en_lc (zs := (sc2 sc0).map encQ) (ei_list (ed_var 4 rfl)) (ts := [14]) (by decide) (by
        unfold sc2
        rw [List.map_map]
        refine lc_map encQ _ fun y hy => ⟨_, eg_name (by decide), et_yes, ?_⟩
        have hy := hsI y hy
        exact ed_call (x := (y.num * 3 - 17, (y.den : Int))) (ea_d (ed_I0 (ed_I (ed_ixT (ds := [.int y.num, .int (y.den : Int)]) (ed_var 14 rfl) (ed_int 0) rfl) (ed_int 3) ((big y hy).mulx (m := 2) (by decide) (by decide))) (ed_int 17)) (ea_d (ed_ixT (ds := [.int y.num, .int (y.den : Int)]) (ed_var 14 rfl) (ed_int 1) rfl) ea_nil)) rfl (hfr y hy 3 (-17) (by decide) (by decide) (by decide) (by decide))) (by rw [List.length_map]; omega))) (run_pub 4 rfl (run_setN (en_lc (zs := (rows0.map ro2).map encRq) (ei_list (ed_var 3 rfl)) (ts := [15]) (by decide) (by
        rw [List.map_map]
        refine lc_map encRq _ fun row hrow => ⟨_, eg_name (by decide), et_yes, ?_⟩
        refine (en_lc (zs := (ro2 row).map encQ) (ei_list (ed_var 15 rfl)) (ts := [14]) (by decide) (by
          unfold ro2
          rw [List.map_map]
          refine lc_map encQ _ fun y hy => ⟨_, eg_name (by decide), et_yes, ?_⟩
          have hy := hrI row hrow y hy
          exact ed_call (x := (y.num * 2 - 9, (y.den : Int))) (ea_d (ed_I0 (ed_I (ed_ixT (ds := [.int y.num, .int (y.den : Int)]) (ed_var 14 rfl) (ed_int 0) rfl) (ed_int 2) ((big y hy).mulx (m := 2) (by decide) (by decide))) (ed_int 9)) (ea_d (ed_ixT (ds := [.int y.num, .int (y.den : Int)]) (ed_var 14 rfl) (ed_int 1) rfl) ea_nil)) rfl (hfr y hy 2 (-9) (by decide) (by decide) (by decide) (by decide))) (by rw [List.length_map]; have := z02 row hrow; omega)).d) (by rw [List.length_map]; omega))))) rfl rfl)
    · rw [if_neg c, if_neg c]
      exact run_ifF (t18.is (decide_eq_false c)) run_next
  generalize rwA D rows0 = rows1 at hTA ⊢
  generalize scA D sc0 = sc at hTA ⊢
  have hT := tbB hTA D
  have len1 : ∀ ev : EnvD, ev[1]? = some (.dat (encH h)) → EvI K (iRng1 (tCons (tCB (rLenS K) (tCons (tOp (rIxT K) (tVar 1) (tC (.int 0))) tNil)) tNil)) ev ((List.range h.ws.length).map fun k : Nat => PyData.int (k : Int)) := fun ev e => ei_is (ei_rng1 (ed_lenl (ed_ixT (ds := [.list (h.ws.map encW), .list (h.ts.map encT)]) (ed_var 1 e) (ed_int 0) rfl).l) (by rw [List.length_map]; omega)) (by rw [List.length_map, Int.toNat_natCast]; exact rng_map _)
  have len2 : ∀ ev : EnvD, ev[1]? = some (.dat (encH h)) → EvI K (iRng1 (tCons (tCB (rLenS K) (tCons (tOp (rIxT K) (tVar 1) (tC (.int 1))) tNil)) tNil)) ev ((List.range h.ts.length).map fun k : Nat => PyData.int (k : Int)) := fun ev e => ei_is (ei_rng1 (ed_lenl (ed_ixT (ds := [.list (h.ws.map encW), .list (h.ts.map encT)]) (ed_var 1 e) (ed_int 1) rfl).l) (by rw [List.length_map]; omega)) (by rw [List.length_map, Int.toNat_natCast]; exact rng_map _)
  refine run_seq (e1 := [.scr a, .dat (encH h), .dat (.list (D.map PyData.int)), .dat (.list ((rwB h.ws.length D rows1).map encRq)), .dat (.list (sc.map encQ)), .dat (encQ q), .un, .un, .un, .un, .un, .un, .un, .un, .un, .un, .un]) ?_ ?_
  · have t16 : EvT K _ [.scr a, .dat (encH h), .dat (.list (D.map PyData.int)), .dat (.list (rows1.map encRq)), .dat (.list (sc.map encQ)), .dat (encQ q), .un, .un, .un, .un, .un, .un, .un, .un, .un, .un, .un] (decide ((D.getD 16 0).fmod 3 = 0)) := et_test (ed_eqI (ed_I (C := fun _ j => j ≠ 0) (g := fun i j => i.fmod j) (dr _ _ 16 16 rfl (ed_int 16) rfl (by decide)) (ed_int 3) (by decide)) (ed_int 0))
    unfold rwB
    by_cases c : (D.getD 16 0).fmod 3 = 0
    · rw [if_pos c]
      have h36 := fm2 (x := D.getD 0 0) (m := 36) (by decide)
      refine run_ifT (t16.is (decide_eq_true c)) (run_less (e1 := [.scr a, .dat (encH h), .dat (.list (D.map PyData.int)), .dat (.list (((List.range h.ws.length).map (frR D)).map encRq)), .dat (.list (sc.map encQ)), .dat (encQ q), .dat (.list (((List.range h.ws.length).map (frR D)).map encRq)), .un, .un, .un, .un, .un, .un, .un, .un, .un, .un]) (run_seq (run_setN (en_lst (ds := []) ea_nil)) (run_seq (run_for (ts := [7]) (ds := (List.range h.ws.length).map fun k : Nat => PyData.int (k : Int)) (fun i => [.scr a, .dat (encH h), .dat (.list (D.map PyData.int)), .dat (.list (rows1.map encRq)), .dat (.list (sc.map encQ)), .dat (encQ q), .ml (((List.range i).map (frR D)).map encRq), .un, .un, .un, .un, .un, .un, .un, .un, .un, .un]) (len1 _ rfl) (.eq (.eq (.eq (.eq (.eq (.eq (.eq (.un (.un (.un (.un (.un (.un (.un (.un (.un (.un .nil))))))))))))))))) (fun i d hi hd => ⟨_, eg_name (by decide), ?_⟩)) ?_)) (.eq (.eq (.eq (.eq (.eq (.eq (.un (.un (.un (.un (.un (.un (.un (.un (.un (.un (.un .nil))))))))))))))))))
      · rw [List.length_map, List.length_range] at hi
        obtain rfl : d = .int (i : Int) := by rw [List.getElem?_map, List.getElem?_range hi] at hd; exact (Option.some.inj hd).symm
        rw [List.range_succ, List.map_append, List.map_append, List.map_cons, List.map_nil, List.map_cons, List.map_nil]
        refine .n (run_append (i := 6) rfl ((en_lc (zs := (List.range (5 + (D.getD 0 0).fmod 36).toNat).map fun k => encQ (frQ D i k)) (ei_is (ei_rng1 (ed_I0 (ed_int 5) (ed_I (C := fun _ j => j ≠ 0) (dr _ _ 0 0 rfl (ed_int 0) rfl (by decide)) (ed_int 36) (by decide))) (by omega)) (rng_map (5 + (D.getD 0 0).fmod 36).toNat)) (ts := [16]) (by decide) (by
          refine lc_map (fun k : Nat => PyData.int (k : Int)) (fun k => encQ (frQ D i k)) fun k hk => ⟨_, eg_name (by decide), et_yes, ?_⟩
          have hk := List.mem_range.mp hk
          have h61 := fm2 (x := (D.getD ((i + k) % 20) 0).fdiv ((k : Int) + 1)) (m := 61) (by decide)
          have h40 := fm2 (x := D.getD (k % 20) 0) (m := 40) (by decide)
          have x1 : ((i : Int) + (k : Int)).fmod 20 = (((i + k) % 20 : Nat) : Int) := by rw [← mod20]; congr 1
          have x2 : ((k : Int)).fmod 20 = ((k % 20 : Nat) : Int) := mod20 k
          exact ed_call (x := (((D.getD ((i + k) % 20) 0).fdiv ((k : Int) + 1)).fmod 61 - 20, 1 + (D.getD (k % 20) 0).fmod 40)) (ea_d (ed_I0 (g := fun i j => i - j) (ed_I (C := fun _ j => j ≠ 0) (g := fun i j => i.fmod j) (ed_I (g := fun i j => i.fdiv j) (dr _ _ _ ((i + k) % 20) rfl (ed_I (C := fun _ j => j ≠ 0) (g := fun i j => i.fmod j) (ed_I0 (g := fun i j => i + j) (ed_var 7 rfl) (ed_var 16 rfl)) (ed_int 20) (by decide)) x1 (Nat.mod_lt _ (by decide))) (ed_I0 (ed_var 16 rfl) (ed_int 1)) (cdk _ (by omega))) (ed_int 61) (by decide)) (ed_int 20)) (ea_d (ed_I0 (ed_int 1) (ed_I (C := fun _ j => j ≠ 0) (dr _ _ _ (k % 20) rfl (ed_I (C := fun _ j => j ≠ 0) (g := fun i j => i.fmod j) (ed_var 16 rfl) (ed_int 20) (by decide)) x2 (Nat.mod_lt _ (by decide))) (ed_int 40) (by decide))) ea_nil)) rfl (frok (by omega) (by omega) (by omega) (by omega))) (by rw [List.length_map, List.length_range]; omega)).is (frR_enc D i).symm).d (by rw [List.length_map, List.length_map, List.length_range]; omega)) (.eq (.eq (.eq (.eq (.eq (.eq (.eq (.un (.un (.un (.un (.un (.un (.un (.un (.un (.un .nil)))))))))))))))))
      · rw [List.length_map, List.length_range]
        exact run_pub 6 rfl (run_set (ed_var 6 rfl))
    · rw [if_neg c]
      exact run_ifF (t16.is (decide_eq_false c)) run_next
  generalize rwB h.ws.length D rows1 = rows at hT ⊢
  refine run_seq (run_set (d := encTq ⟨rows, sc, q⟩) (ed_tup (ds := [.list (rows.map encRq), .list (sc.map encQ), encQ q]) (ea_d (ed_var 3 rfl) (ea_d (ed_var 4 rfl) (ea_d (ed_var 5 rfl) ea_nil))))) ?_
  have hsh : Shw (.list [encH h, encTq ⟨rows, sc, q⟩]) := sb_shw (sb_lst (sbs_cons (sb_HQ hk.q) (sbs_cons ((sb_tq hT).mono (by decide) (Nat.le_refl _)) sbs_nil))) (by decide) (by decide) (.inl ⟨_, rfl⟩)
  have keep : ∀ ev : EnvD, ev[1]? = some (.dat (encH h)) → ev[8]? = some (.dat (encTq ⟨rows, sc, q⟩)) → EvD K (tCB (rRepr K) (tCons (tLst (tCons (tVar 1) (tCons (tVar 8) tNil))) tNil)) ev (.str (PyData.list [encH h, encTq ⟨rows, sc, q⟩]).shown) := fun ev h1 h2 => ed_repr (en_lst (ds := [encH h, encTq ⟨rows, sc, q⟩]) (ea_d (ed_var 1 h1) (ea_d (ed_var 8 h2) ea_nil))).p hsh
  refine run_seq (run_set (keep _ rfl rfl)) ?_
  generalize (PyData.list [encH h, encTq ⟨rows, sc, q⟩]).shown = kp at keep ⊢
  have z11 : ∀ ev : EnvD, EvD K (tTup (tCons (tC (.int 1)) (tCons (tC (.int 1)) tNil))) ev (encQ 1) := fun ev => ed_tup (ds := [.int 1, .int 1]) (ea_d (ed_int 1) (ea_d (ed_int 1) ea_nil))
  have p12 : ∀ ev : EnvD, EvD K (tOp (rI CPow fun i j => .int (i ^ j.toNat)) (tC (.int 10)) (tC (.int 12))) ev (.int 1000000000000) := fun ev => ed_pow (by decide) (by decide)
  obtain ⟨z, z1, z2⟩ := hT.eq
  have hr0 : rows.length = h.ws.length := hT.r
  have er0 : atI (rows.map encRq) 0 = some (encRq (rowF ⟨rows, sc, q⟩ 0)) := by
    unfold atI ixN
    rw [if_pos (by decide), if_pos (by rw [List.length_map]; omega)]
    show (rows.map encRq)[(0 : Nat)]? = _
    unfold rowF
    rw [List.getElem?_map, List.getD_eq_getElem?_getD]
    show Option.map encRq rows[0]? = some (encRq (rows[0]?.getD []))
    rw [List.getElem?_eq_getElem (by omega)]; rfl
  have hl0 : (rowF ⟨rows, sc, q⟩ 0).length = z := z2 _ (rowF_mem (by show 0 < rows.length; omega))
  have vq : ∀ (w : Nat) (x : Int), w < h.ws.length → x ≤ 200 → Qb 680 (valF ⟨rows, sc, q⟩ x w) := fun w x hw hx => by
    have hv := val_k hT hw hx
    exact (qb_dn (B := 64) (m := 7) (Int.mul_pos lam_pos (Int.pow_pos (by decide))) (lam_bt.mul (bt_8 200)) (by decide) hv.1 hv.2.1 hv.2.2).mono (by decide)
  have vaK : ∀ (w : Nat) (x : Int), x ≤ 10000 → vaO ⟨⟨rows, sc, q⟩, x, w⟩ = some (encQ (valF ⟨rows, sc, q⟩ x w)) := fun w x hx => by unfold vaO; exact if_neg (show ¬(10000 : Int) < x by omega)
  have vneg : ∀ (w : Nat) (x : Int), x < 0 → vaO ⟨⟨rows, sc, q⟩, x, w⟩ = some (encQ 1) := fun w x hx => by rw [vaK w x (by omega)]; unfold valF; rw [if_pos hx]
  refine run_seq (run_for (ts := [7]) (ds := (List.range h.ws.length).map fun k : Nat => PyData.int (k : Int)) (fun i => [.scr a, .dat (encH h), .dat (.list (D.map PyData.int)), .dat (.list (rows.map encRq)), .un, .un, .un, .un, .dat (encTq ⟨rows, sc, q⟩), .dat (.str kp), .un, .un, .un, .un, .un, .un, .un]) (len1 _ rfl) (.eq (.eq (.eq (.eq (.un (.un (.un (.un (.eq (.eq (.un (.un (.un (.un (.un (.un (.un .nil))))))))))))))))) (fun i d hi hd => ⟨_, eg_name (by decide), ?_⟩)) ?_
  · rw [List.length_map, List.length_range] at hi
    obtain rfl : d = .int (i : Int) := by rw [List.getElem?_map, List.getElem?_range hi] at hd; exact (Option.some.inj hd).symm
    have hvaP : ∀ x : Int, VaP ⟨⟨rows, sc, q⟩, x, i⟩ := fun x => tbk_va hT hi x
    have hDi := fm2 (x := D.getD i 0) (m := 60) (by decide)
    have hDj := fm2 (x := D.getD i 0) (m := 9000) (by decide)
    have hDk := fm2 (x := D.getD i 0) (m := 3) (by decide)
    have hi20 : i < 20 := by omega
    refine Turn1.n (e1 := [.scr a, .dat (encH h), .dat (.list (D.map PyData.int)), .dat (.list (rows.map encRq)), .un, .un, .un, .dat (.int (i : Int)), .dat (encTq ⟨rows, sc, q⟩), .dat (.str kp), .un, .dat (.int (13 + (D.getD i 0).fmod 60)), .un, .un, .un, .un, .un]) ?_ (.eq (.eq (.eq (.eq (.un (.un (.un (.un (.eq (.eq (.un (.un (.un (.un (.un (.un (.un .nil)))))))))))))))))
    refine run_seq (run_for (ts := [10]) (ds := rngD (-5) 1 (18 + z)) (fun _ => [.scr a, .dat (encH h), .dat (.list (D.map PyData.int)), .dat (.list (rows.map encRq)), .un, .un, .un, .dat (.int (i : Int)), .dat (encTq ⟨rows, sc, q⟩), .dat (.str kp), .un, .un, .un, .un, .un, .un, .un]) (ei_is (ei_rng2 (i := -5) (j := 13 + (z : Int)) (ed_neg (ed_int 5)) ((ed_I0 (g := fun i j => i + j) (ed_int 13) (ed_lenl (ed_ixl (ed_var 3 rfl).l (ed_int 0) er0).l)).is (by rw [List.length_map, hl0])) (by omega)) (by rw [show (13 + (z : Int) - -5).toNat = 18 + z by omega])) (.eq (.eq (.eq (.eq (.un (.un (.un (.eq (.eq (.eq (.un (.un (.un (.un (.un (.un (.un .nil))))))))))))))))) (fun j e hj he => ⟨_, eg_name (by decide), ?_⟩)) ?_
    · obtain ⟨hj2, rfl⟩ := rngD_get he
      obtain ⟨x, hx⟩ : ∃ x : Int, -5 + (j : Int) * 1 = x := ⟨_, rfl⟩
      rw [hx]
      have hx2 : x ≤ 60 := by omega
      have sh := shw_Q ((vq i x hi (by omega)).mono (by decide : 680 ≤ 1900))
      exact .n (run_ifF (et_sameS (ed_repr (ed_callX (x := (⟨⟨rows, sc, q⟩, x, i⟩ : VaA)) (ea_d (ed_var 8 rfl) (ea_d (ed_var 10 rfl) (ea_d (ed_var 7 rfl) ea_nil))) rfl (hvaP x) (vaK i x (by omega))).p sh) (ed_repr (ed_call (x := (⟨⟨rows, sc, q⟩, x, i⟩ : VaA)) (ea_d (ed_var 8 rfl) (ea_d (ed_var 10 rfl) (ea_d (ed_var 7 rfl) ea_nil))) rfl (tbk_lv hT hi (by omega))).p sh)) run_next) (.eq (.eq (.eq (.eq (.un (.un (.un (.eq (.eq (.eq (.un (.un (.un (.un (.un (.un (.un .nil)))))))))))))))))
    refine run_seq (run_set (ed_I0 (ed_int 13) (ed_I (C := fun _ j => j ≠ 0) (dr _ _ (i : Int) i rfl (ed_var 7 rfl) rfl hi20) (ed_int 60) (by decide)))) ?_
    refine run_seq (run_ifF (et_orF (et_same (ed_callX (x := (⟨⟨rows, sc, q⟩, 13 + (D.getD i 0).fmod 60, i⟩ : VaA)) (ea_d (ed_var 8 rfl) (ea_d (ed_var 11 rfl) (ea_d (ed_var 7 rfl) ea_nil))) rfl (hvaP _) (vaK i _ (by omega))).p (ed_call (x := (⟨⟨rows, sc, q⟩, 13 + (D.getD i 0).fmod 60, i⟩ : VaA)) (ea_d (ed_var 8 rfl) (ea_d (ed_var 11 rfl) (ea_d (ed_var 7 rfl) ea_nil))) rfl (tbk_lv hT hi (by omega))).p (shaped_Q _))
      (et_same (ed_callX (x := (⟨⟨rows, sc, q⟩, -(13 + (D.getD i 0).fmod 60), i⟩ : VaA)) (ea_d (ed_var 8 rfl) (ea_d (ed_neg (ed_var 11 rfl)) (ea_d (ed_var 7 rfl) ea_nil))) rfl (hvaP _) (vneg i _ (by omega))).p (z11 _).p (shaped_Q 1))) run_next) ?_
    refine run_seq (run_ifF (et_orF (et_same (ed_callX (x := (⟨⟨rows, sc, q⟩, -10001 - (D.getD i 0).fmod 9000, i⟩ : VaA)) (ea_d (ed_var 8 rfl) (ea_d (ed_I0 (ed_neg (ed_int 10001)) (ed_I (C := fun _ j => j ≠ 0) (dr _ _ (i : Int) i rfl (ed_var 7 rfl) rfl hi20) (ed_int 9000) (by decide))) (ea_d (ed_var 7 rfl) ea_nil))) rfl (hvaP _) (vneg i _ (by omega))).p (z11 _).p (shaped_Q 1))
      (et_same (ed_callX (x := (⟨⟨rows, sc, q⟩, 0 - 1000000000000, i⟩ : VaA)) (ea_d (ed_var 8 rfl) (ea_d (ed_I0 (ed_int 0) (p12 _)) (ea_d (ed_var 7 rfl) ea_nil))) rfl (hvaP _) (vneg i _ (by decide))).p (z11 _).p (shaped_Q 1))) run_next) ?_
    refine run_for (ts := [12]) (ds := (List.range h.ts.length).map fun k : Nat => PyData.int (k : Int)) (fun _ => [.scr a, .dat (encH h), .dat (.list (D.map PyData.int)), .dat (.list (rows.map encRq)), .un, .un, .un, .dat (.int (i : Int)), .dat (encTq ⟨rows, sc, q⟩), .dat (.str kp), .un, .dat (.int (13 + (D.getD i 0).fmod 60)), .un, .un, .un, .un, .un]) (len2 _ rfl) (.eq (.eq (.eq (.eq (.un (.un (.un (.eq (.eq (.eq (.un (.eq (.un (.un (.un (.un (.un .nil))))))))))))))))) (fun j e hj he => ⟨_, eg_name (by decide), ?_⟩)
    rw [List.length_map, List.length_range] at hj
    obtain rfl : e = .int (j : Int) := by rw [List.getElem?_map, List.getElem?_range hj] at he; exact (Option.some.inj he).symm
    have y1 := fm2 (x := D.getD (i + j) 0) (m := 9) (by decide)
    have y2 := fm2 (x := D.getD (i + j) 0) (m := 99) (by decide)
    have y3 := fm2 (x := 5001) (m := 1 + (z : Int)) (by omega)
    obtain ⟨r, hr98, hat⟩ : ∃ r : Nat, r ≤ 98 ∧ atI [PyData.int ((D.getD (i + j) 0).fmod 9), .int ((D.getD (i + j) 0).fmod 99), .int ((5001 : Int).fmod (1 + (z : Int)))] ((D.getD i 0).fmod 3) = some (.int (r : Int)) := by
      generalize (D.getD i 0).fmod 3 = u at hDk
      have : u = 0 ∨ u = 1 ∨ u = 2 := by omega
      rcases this with rfl | rfl | rfl
      · exact ⟨((D.getD (i + j) 0).fmod 9).toNat, by omega, by rw [Int.toNat_of_nonneg y1.1]; rfl⟩
      · exact ⟨((D.getD (i + j) 0).fmod 99).toNat, by omega, by rw [Int.toNat_of_nonneg y2.1]; rfl⟩
      · exact ⟨((5001 : Int).fmod (1 + (z : Int))).toNat, by omega, by rw [Int.toNat_of_nonneg y3.1]; rfl⟩
    have dij : ∀ ev : EnvD, ev[2]? = some (.dat (.list (D.map PyData.int))) → ev[7]? = some (.dat (.int (i : Int))) → ev[12]? = some (.dat (.int (j : Int))) → EvD K (tOp (rIxL K) (tVar 2) (tOp (rI0 fun i j => .int (i + j)) (tVar 7) (tVar 12))) ev (.int (D.getD (i + j) 0)) := fun ev a1 a2 a3 => dr ev _ _ (i + j) a1 (ed_I0 (g := fun i j => i + j) (ed_var 7 a2) (ed_var 12 a3)) (by omega) (by omega)
    have hF : FitK ⟨h, ⟨rows, sc, q⟩, r, i, (j : Int)⟩ := ⟨hk, hT, hi, ⟨by show (0 : Int) ≤ (j : Int); omega, by show (j : Int) < (h.ts.length : Int); omega⟩, by
      have : maR ⟨h, ⟨rows, sc, q⟩, r, i, (j : Int)⟩ ≤ r := Nat.min_le_left _ _
      omega⟩
    obtain ⟨mq, _, _⟩ := fit_maq hF
    have hmo : maO ⟨h, ⟨rows, sc, q⟩, r, i, (j : Int)⟩ = some (encQ (maF ⟨h, ⟨rows, sc, q⟩, r, i, (j : Int)⟩)) := by unfold maO; exact if_neg (show ¬10000 < r by omega)
    obtain ⟨E0, ft⟩ := yt_f hF hr98
    have hq := tm_qb ft (lyF (yOf ⟨h, ⟨rows, sc, q⟩, r, i, (j : Int)⟩)).length
    rw [show tmF ⟨h, ⟨rows, sc, q⟩, r, i, (j : Int)⟩ (lyF (yOf ⟨h, ⟨rows, sc, q⟩, r, i, (j : Int)⟩)).length = maF ⟨h, ⟨rows, sc, q⟩, r, i, (j : Int)⟩ by unfold tmF; rw [List.take_length]; exact mean_law hF] at hq
    have sh := shw_Q (hq.mono (by decide : 720 ≤ 1900))
    refine Turn1.n (e1 := [.scr a, .dat (encH h), .dat (.list (D.map PyData.int)), .dat (.list (rows.map encRq)), .un, .un, .un, .dat (.int (i : Int)), .dat (encTq ⟨rows, sc, q⟩), .dat (.str kp), .dat (.int (r : Int)), .dat (.int (13 + (D.getD i 0).fmod 60)), .dat (.int (j : Int)), .dat (encQ (maF ⟨h, ⟨rows, sc, q⟩, r, i, (j : Int)⟩)), .un, .un, .un]) ?_ (.eq (.eq (.eq (.eq (.un (.un (.un (.eq (.eq (.eq (.un (.eq (.un (.un (.un (.un (.un .nil)))))))))))))))))
    refine run_seq (run_set (d := .int (r : Int)) (ed_ixl (en_lst (ds := [PyData.int ((D.getD (i + j) 0).fmod 9), .int ((D.getD (i + j) 0).fmod 99), .int ((5001 : Int).fmod (1 + (z : Int)))]) (ea_d (ed_I (C := fun _ j => j ≠ 0) (dij _ rfl rfl rfl) (ed_int 9) (by decide)) (ea_d (ed_I (C := fun _ j => j ≠ 0) (dij _ rfl rfl rfl) (ed_int 99) (by decide)) (ea_d (ed_I (C := fun _ j => j ≠ 0) (g := fun i j => i.fmod j) (ed_int 5001) ((ed_I0 (g := fun i j => i + j) (ed_int 1) (ed_lenl (ed_ixl (ed_var 3 rfl).l (ed_int 0) er0).l)).is (d' := .int (1 + (z : Int))) (by rw [List.length_map, hl0])) (by omega)) ea_nil)))).l (ed_I (C := fun _ j => j ≠ 0) (dr _ _ (i : Int) i rfl (ed_var 7 rfl) rfl hi20) (ed_int 3) (by decide)) hat)) ?_
    refine run_seq (run_set (ed_callX (x := (⟨h, ⟨rows, sc, q⟩, r, i, (j : Int)⟩ : MaA)) (ea_d (ed_var 1 rfl) (ea_d (ed_var 8 rfl) (ea_d (ed_tup (ds := [.int (r : Int), .int (i : Int)]) (ea_d (ed_var 10 rfl) (ea_d (ed_var 7 rfl) ea_nil))) (ea_d (ed_var 12 rfl) ea_nil)))) rfl (fun _ => mq) hmo)) ?_
    exact run_ifF (et_sameS (ed_repr (ed_var 13 rfl).p sh) (ed_repr (ed_call (x := (⟨h, ⟨rows, sc, q⟩, r, i, (j : Int)⟩ : MaA)) (ea_d (ed_var 1 rfl) (ea_d (ed_var 8 rfl) (ea_d (ed_var 10 rfl) (ea_d (ed_var 7 rfl) (ea_d (ed_var 12 rfl) ea_nil))))) rfl ⟨hF, hr98⟩).p sh)) run_next
  refine run_seq (run_ifF ((et_and (et_test (ed_eqI (ed_I (C := fun _ j => j ≠ 0) (dr _ _ 17 17 rfl (ed_int 17) rfl (by decide)) (ed_int 10) (by decide)) (ed_int 0))) fun _ => (et_not (et_B (ed_call (x := D.getD 16 0) (ea_d (dr _ _ 16 16 rfl (ed_int 16) rfl (by decide)) ea_nil) rfl trivial)))).is (by rw [Bool.not_true, Bool.and_false])) run_next) ?_
  exact run_ret ((ed_eqS (keep _ rfl rfl) (ed_var 9 rfl)).is (congrArg PyData.bool (decide_eq_true rfl)))

end
end KP

namespace KP
open PySem L2 DL MX
theorem law_start {K : PySem.W.Frag} {H : Hp} {a : Addr} {ns : List Int} (hl : ns.length ≤ 63) (hS : SqL K H a (ns.map V.int)) : sp_law K [.ref a] H (fun v _ => v = .bl true) fun _ _ _ => False :=
  ⟨ns, H, Same.refl _, .cons rfl ⟨a, rfl, hS⟩ .nil, hl, fun _ _ _ _ hv => hv.bl_inv⟩
/-! ### what the top has written -/
theorem all_mk {l : PySem.W.OpenLaw} {w : World} {K : PySem.W.Frag} {h : Heap} {mg : Str → Option Value} {fa : Addr} {CC : Addr}
    {od0 an0 : Option Addr} {sl0 : Array (Option Value)} {oc0 kV0 dc0 pm0 cd0 ct0 : Value} {f0 : Addr}
    {od1 an1 : Option Addr} {sl1 : Array (Option Value)} {oc1 kV1 dc1 pm1 cd1 ct1 : Value} {f1 : Addr}
    {od2 an2 : Option Addr} {sl2 : Array (Option Value)} {oc2 kV2 dc2 pm2 cd2 ct2 : Value} {f2 : Addr}
    {od3 an3 : Option Addr} {sl3 : Array (Option Value)} {oc3 kV3 dc3 pm3 cd3 ct3 : Value} {f3 : Addr}
    {od4 an4 : Option Addr} {sl4 : Array (Option Value)} {oc4 kV4 dc4 pm4 cd4 ct4 : Value} {f4 : Addr}
    {od5 an5 : Option Addr} {sl5 : Array (Option Value)} {oc5 kV5 dc5 pm5 cd5 ct5 : Value} {f5 : Addr}
    {od6 an6 : Option Addr} {sl6 : Array (Option Value)} {oc6 kV6 dc6 pm6 cd6 ct6 : Value} {f6 : Addr}
    {od7 an7 : Option Addr} {sl7 : Array (Option Value)} {oc7 kV7 dc7 pm7 cd7 ct7 : Value} {f7 : Addr}
    {od8 an8 : Option Addr} {sl8 : Array (Option Value)} {oc8 kV8 dc8 pm8 cd8 ct8 : Value} {f8 : Addr}
    {od9 an9 : Option Addr} {sl9 : Array (Option Value)} {oc9 kV9 dc9 pm9 cd9 ct9 : Value} {f9 : Addr}
    {od10 an10 : Option Addr} {sl10 : Array (Option Value)} {oc10 kV10 dc10 pm10 cd10 ct10 : Value} {f10 : Addr}
    {od11 an11 : Option Addr} {sl11 : Array (Option Value)} {oc11 kV11 dc11 pm11 cd11 ct11 : Value} {f11 : Addr}
    {od12 an12 : Option Addr} {sl12 : Array (Option Value)} {oc12 kV12 dc12 pm12 cd12 ct12 : Value} {f12 : Addr}
    {od13 an13 : Option Addr} {sl13 : Array (Option Value)} {oc13 kV13 dc13 pm13 cd13 ct13 : Value} {f13 : Addr}
    {od14 an14 : Option Addr} {sl14 : Array (Option Value)} {oc14 kV14 dc14 pm14 cd14 ct14 : Value} {f14 : Addr}
    {od15 an15 : Option Addr} {sl15 : Array (Option Value)} {oc15 kV15 dc15 pm15 cd15 ct15 : Value} {f15 : Addr}
    {od16 an16 : Option Addr} {sl16 : Array (Option Value)} {oc16 kV16 dc16 pm16 cd16 ct16 : Value} {f16 : Addr}
    {od17 an17 : Option Addr} {sl17 : Array (Option Value)} {oc17 kV17 dc17 pm17 cd17 ct17 : Value} {f17 : Addr}
    {od18 an18 : Option Addr} {sl18 : Array (Option Value)} {oc18 kV18 dc18 pm18 cd18 ct18 : Value} {f18 : Addr}
    {od19 an19 : Option Addr} {sl19 : Array (Option Value)} {oc19 kV19 dc19 pm19 cd19 ct19 : Value} {f19 : Addr}
    {od20 an20 : Option Addr} {sl20 : Array (Option Value)} {oc20 kV20 dc20 pm20 cd20 ct20 : Value} {f20 : Addr}
    {od21 an21 : Option Addr} {sl21 : Array (Option Value)} {oc21 kV21 dc21 pm21 cd21 ct21 : Value} {f21 : Addr}
    {od22 an22 : Option Addr} {sl22 : Array (Option Value)} {oc22 kV22 dc22 pm22 cd22 ct22 : Value} {f22 : Addr}
    {od23 an23 : Option Addr} {sl23 : Array (Option Value)} {oc23 kV23 dc23 pm23 cd23 ct23 : Value} {f23 : Addr}
    {od24 an24 : Option Addr} {sl24 : Array (Option Value)} {oc24 kV24 dc24 pm24 cd24 ct24 : Value} {f24 : Addr}
    {od25 an25 : Option Addr} {sl25 : Array (Option Value)} {oc25 kV25 dc25 pm25 cd25 ct25 : Value} {f25 : Addr}
    {od26 an26 : Option Addr} {sl26 : Array (Option Value)} {oc26 kV26 dc26 pm26 cd26 ct26 : Value} {f26 : Addr}
    {od27 an27 : Option Addr} {sl27 : Array (Option Value)} {oc27 kV27 dc27 pm27 cd27 ct27 : Value} {f27 : Addr}
    {od28 an28 : Option Addr} {sl28 : Array (Option Value)} {oc28 kV28 dc28 pm28 cd28 ct28 : Value} {f28 : Addr}
    {od29 an29 : Option Addr} {sl29 : Array (Option Value)} {oc29 kV29 dc29 pm29 cd29 ct29 : Value} {f29 : Addr}
    {od30 an30 : Option Addr} {sl30 : Array (Option Value)} {oc30 kV30 dc30 pm30 cd30 ct30 : Value} {f30 : Addr}
    {od31 an31 : Option Addr} {sl31 : Array (Option Value)} {oc31 kV31 dc31 pm31 cd31 ct31 : Value} {f31 : Addr}
    {od32 an32 : Option Addr} {sl32 : Array (Option Value)} {oc32 kV32 dc32 pm32 cd32 ct32 : Value} {f32 : Addr}
    {od33 an33 : Option Addr} {sl33 : Array (Option Value)} {oc33 kV33 dc33 pm33 cd33 ct33 : Value} {f33 : Addr}
    {od34 an34 : Option Addr} {sl34 : Array (Option Value)} {oc34 kV34 dc34 pm34 cd34 ct34 : Value} {f34 : Addr}
    {od35 an35 : Option Addr} {sl35 : Array (Option Value)} {oc35 kV35 dc35 pm35 cd35 ct35 : Value} {f35 : Addr}
    {od36 an36 : Option Addr} {sl36 : Array (Option Value)} {oc36 kV36 dc36 pm36 cd36 ct36 : Value} {f36 : Addr}
    {od37 an37 : Option Addr} {sl37 : Array (Option Value)} {oc37 kV37 dc37 pm37 cd37 ct37 : Value} {f37 : Addr}
    {od38 an38 : Option Addr} {sl38 : Array (Option Value)} {oc38 kV38 dc38 pm38 cd38 ct38 : Value} {f38 : Addr}
    {od39 an39 : Option Addr} {sl39 : Array (Option Value)} {oc39 kV39 dc39 pm39 cd39 ct39 : Value} {f39 : Addr}
    {od40 an40 : Option Addr} {sl40 : Array (Option Value)} {oc40 kV40 dc40 pm40 cd40 ct40 : Value} {f40 : Addr}
    {od41 an41 : Option Addr} {sl41 : Array (Option Value)} {oc41 kV41 dc41 pm41 cd41 ct41 : Value} {f41 : Addr}
    {od42 an42 : Option Addr} {sl42 : Array (Option Value)} {oc42 kV42 dc42 pm42 cd42 ct42 : Value} {f42 : Addr}
    {od43 an43 : Option Addr} {sl43 : Array (Option Value)} {oc43 kV43 dc43 pm43 cd43 ct43 : Value} {f43 : Addr}
    {od44 an44 : Option Addr} {sl44 : Array (Option Value)} {oc44 kV44 dc44 pm44 cd44 ct44 : Value} {f44 : Addr}
    {od45 an45 : Option Addr} {sl45 : Array (Option Value)} {oc45 kV45 dc45 pm45 cd45 ct45 : Value} {f45 : Addr}
    {tMOST_RESERVE : _}
    {aZERO : Addr} {dZERO : Option Addr} {nZERO : Nat} {sZERO : Array (Option Value)} {tZERO0 : _} {tZERO1 : _}
    {aONE : Addr} {dONE : Option Addr} {nONE : Nat} {sONE : Array (Option Value)} {tONE0 : _} {tONE1 : _}
    {C : Addr}
    {C1 : Addr}
    {C3 : Addr} (X : K.In h) (G : h.Ns mainGlobals mg) (hfa : mg "law" = some (.ref fa))
    (a0 : PySem.W.nsIn K mainGlobals "fraction" = some (some (.ref f0))) (l0 : K.lookup f0 = some ⟨oc0, od0, .func (PySem.W.fnOf "fraction" "fraction" (defArgs s_fraction) (defBody s_fraction) (defScope s_fraction) .none kV0 dc0 pm0 an0 cd0 ct0), sl0⟩) (c0 : PySem.W.codeIn K cd0 "fraction" = true) (k0 : PySem.W.keepIn K (.ref f0) = true)
    (a1 : PySem.W.nsIn K mainGlobals "plus" = some (some (.ref f1))) (l1 : K.lookup f1 = some ⟨oc1, od1, .func (PySem.W.fnOf "plus" "plus" (defArgs s_plus) (defBody s_plus) (defScope s_plus) .none kV1 dc1 pm1 an1 cd1 ct1), sl1⟩) (c1 : PySem.W.codeIn K cd1 "plus" = true) (k1 : PySem.W.keepIn K (.ref f1) = true)
    (a2 : PySem.W.nsIn K mainGlobals "times" = some (some (.ref f2))) (l2 : K.lookup f2 = some ⟨oc2, od2, .func (PySem.W.fnOf "times" "times" (defArgs s_times) (defBody s_times) (defScope s_times) .none kV2 dc2 pm2 an2 cd2 ct2), sl2⟩) (c2 : PySem.W.codeIn K cd2 "times" = true) (k2 : PySem.W.keepIn K (.ref f2) = true)
    (a3 : PySem.W.nsIn K mainGlobals "gathered" = some (some (.ref f3))) (l3 : K.lookup f3 = some ⟨oc3, od3, .func (PySem.W.fnOf "gathered" "gathered" (defArgs s_gathered) (defBody s_gathered) (defScope s_gathered) .none kV3 dc3 pm3 an3 cd3 ct3), sl3⟩) (c3 : PySem.W.codeIn K cd3 "gathered" = true) (k3 : PySem.W.keepIn K (.ref f3) = true)
    (a4 : PySem.W.nsIn K mainGlobals "shifted" = some (some (.ref f4))) (l4 : K.lookup f4 = some ⟨oc4, od4, .func (PySem.W.fnOf "shifted" "shifted" (defArgs s_shifted) (defBody s_shifted) (defScope s_shifted) .none kV4 dc4 pm4 an4 cd4 ct4), sl4⟩) (c4 : PySem.W.codeIn K cd4 "shifted" = true) (k4 : PySem.W.keepIn K (.ref f4) = true)
    (a5 : PySem.W.nsIn K mainGlobals "after_layer" = some (some (.ref f5))) (l5 : K.lookup f5 = some ⟨oc5, od5, .func (PySem.W.fnOf "after_layer" "after_layer" (defArgs s_after_layer) (defBody s_after_layer) (defScope s_after_layer) .none kV5 dc5 pm5 an5 cd5 ct5), sl5⟩) (c5 : PySem.W.codeIn K cd5 "after_layer" = true) (k5 : PySem.W.keepIn K (.ref f5) = true)
    (a6 : PySem.W.nsIn K mainGlobals "remaining" = some (some (.ref f6))) (l6 : K.lookup f6 = some ⟨oc6, od6, .func (PySem.W.fnOf "remaining" "remaining" (defArgs s_remaining) (defBody s_remaining) (defScope s_remaining) .none kV6 dc6 pm6 an6 cd6 ct6), sl6⟩) (c6 : PySem.W.codeIn K cd6 "remaining" = true) (k6 : PySem.W.keepIn K (.ref f6) = true)
    (a7 : PySem.W.nsIn K mainGlobals "after_treaty" = some (some (.ref f7))) (l7 : K.lookup f7 = some ⟨oc7, od7, .func (PySem.W.fnOf "after_treaty" "after_treaty" (defArgs s_after_treaty) (defBody s_after_treaty) (defScope s_after_treaty) .none kV7 dc7 pm7 an7 cd7 ct7), sl7⟩) (c7 : PySem.W.codeIn K cd7 "after_treaty" = true) (k7 : PySem.W.keepIn K (.ref f7) = true)
    (a8 : PySem.W.nsIn K mainGlobals "sum_of" = some (some (.ref f8))) (l8 : K.lookup f8 = some ⟨oc8, od8, .func (PySem.W.fnOf "sum_of" "sum_of" (defArgs s_sum_of) (defBody s_sum_of) (defScope s_sum_of) .none kV8 dc8 pm8 an8 cd8 ct8), sl8⟩) (c8 : PySem.W.codeIn K cd8 "sum_of" = true) (k8 : PySem.W.keepIn K (.ref f8) = true)
    (a9 : PySem.W.nsIn K mainGlobals "integer_power" = some (some (.ref f9))) (l9 : K.lookup f9 = some ⟨oc9, od9, .func (PySem.W.fnOf "integer_power" "integer_power" (defArgs s_integer_power) (defBody s_integer_power) (defScope s_integer_power) .none kV9 dc9 pm9 an9 cd9 ct9), sl9⟩) (c9 : PySem.W.codeIn K cd9 "integer_power" = true) (k9 : PySem.W.keepIn K (.ref f9) = true)
    (a10 : PySem.W.nsIn K mainGlobals "power" = some (some (.ref f10))) (l10 : K.lookup f10 = some ⟨oc10, od10, .func (PySem.W.fnOf "power" "power" (defArgs s_power) (defBody s_power) (defScope s_power) .none kV10 dc10 pm10 an10 cd10 ct10), sl10⟩) (c10 : PySem.W.codeIn K cd10 "power" = true) (k10 : PySem.W.keepIn K (.ref f10) = true)
    (a11 : PySem.W.nsIn K mainGlobals "times_power" = some (some (.ref f11))) (l11 : K.lookup f11 = some ⟨oc11, od11, .func (PySem.W.fnOf "times_power" "times_power" (defArgs s_times_power) (defBody s_times_power) (defScope s_times_power) .none kV11 dc11 pm11 an11 cd11 ct11), sl11⟩) (c11 : PySem.W.codeIn K cd11 "times_power" = true) (k11 : PySem.W.keepIn K (.ref f11) = true)
    (a12 : PySem.W.nsIn K mainGlobals "summed" = some (some (.ref f12))) (l12 : K.lookup f12 = some ⟨oc12, od12, .func (PySem.W.fnOf "summed" "summed" (defArgs s_summed) (defBody s_summed) (defScope s_summed) .none kV12 dc12 pm12 an12 cd12 ct12), sl12⟩) (c12 : PySem.W.codeIn K cd12 "summed" = true) (k12 : PySem.W.keepIn K (.ref f12) = true)
    (a13 : PySem.W.nsIn K mainGlobals "times_pair" = some (some (.ref f13))) (l13 : K.lookup f13 = some ⟨oc13, od13, .func (PySem.W.fnOf "times_pair" "times_pair" (defArgs s_times_pair) (defBody s_times_pair) (defScope s_times_pair) .none kV13 dc13 pm13 an13 cd13 ct13), sl13⟩) (c13 : PySem.W.codeIn K cd13 "times_pair" = true) (k13 : PySem.W.keepIn K (.ref f13) = true)
    (a14 : PySem.W.nsIn K mainGlobals "check_reserve" = some (some (.ref f14))) (l14 : K.lookup f14 = some ⟨oc14, od14, .func (PySem.W.fnOf "check_reserve" "check_reserve" (defArgs s_check_reserve) (defBody s_check_reserve) (defScope s_check_reserve) .none kV14 dc14 pm14 an14 cd14 ct14), sl14⟩) (c14 : PySem.W.codeIn K cd14 "check_reserve" = true) (k14 : PySem.W.keepIn K (.ref f14) = true)
    (a15 : PySem.W.nsIn K mainGlobals "value_at" = some (some (.ref f15))) (l15 : K.lookup f15 = some ⟨oc15, od15, .func (PySem.W.fnOf "value_at" "value_at" (defArgs s_value_at) (defBody s_value_at) (defScope s_value_at) .none kV15 dc15 pm15 an15 cd15 ct15), sl15⟩) (c15 : PySem.W.codeIn K cd15 "value_at" = true) (k15 : PySem.W.keepIn K (.ref f15) = true)
    (a16 : PySem.W.nsIn K mainGlobals "common_low_of" = some (some (.ref f16))) (l16 : K.lookup f16 = some ⟨oc16, od16, .func (PySem.W.fnOf "common_low_of" "common_low_of" (defArgs s_common_low_of) (defBody s_common_low_of) (defScope s_common_low_of) .none kV16 dc16 pm16 an16 cd16 ct16), sl16⟩) (c16 : PySem.W.codeIn K cd16 "common_low_of" = true) (k16 : PySem.W.keepIn K (.ref f16) = true)
    (a17 : PySem.W.nsIn K mainGlobals "common_low" = some (some (.ref f17))) (l17 : K.lookup f17 = some ⟨oc17, od17, .func (PySem.W.fnOf "common_low" "common_low" (defArgs s_common_low) (defBody s_common_low) (defScope s_common_low) .none kV17 dc17 pm17 an17 cd17 ct17), sl17⟩) (c17 : PySem.W.codeIn K cd17 "common_low" = true) (k17 : PySem.W.keepIn K (.ref f17) = true)
    (a18 : PySem.W.nsIn K mainGlobals "tops_over" = some (some (.ref f18))) (l18 : K.lookup f18 = some ⟨oc18, od18, .func (PySem.W.fnOf "tops_over" "tops_over" (defArgs s_tops_over) (defBody s_tops_over) (defScope s_tops_over) .none kV18 dc18 pm18 an18 cd18 ct18), sl18⟩) (c18 : PySem.W.codeIn K cd18 "tops_over" = true) (k18 : PySem.W.keepIn K (.ref f18) = true)
    (a19 : PySem.W.nsIn K mainGlobals "check_index" = some (some (.ref f19))) (l19 : K.lookup f19 = some ⟨oc19, od19, .func (PySem.W.fnOf "check_index" "check_index" (defArgs s_check_index) (defBody s_check_index) (defScope s_check_index) .none kV19 dc19 pm19 an19 cd19 ct19), sl19⟩) (c19 : PySem.W.codeIn K cd19 "check_index" = true) (k19 : PySem.W.keepIn K (.ref f19) = true)
    (a20 : PySem.W.nsIn K mainGlobals "total_damage" = some (some (.ref f20))) (l20 : K.lookup f20 = some ⟨oc20, od20, .func (PySem.W.fnOf "total_damage" "total_damage" (defArgs s_total_damage) (defBody s_total_damage) (defScope s_total_damage) .none kV20 dc20 pm20 an20 cd20 ct20), sl20⟩) (c20 : PySem.W.codeIn K cd20 "total_damage" = true) (k20 : PySem.W.keepIn K (.ref f20) = true)
    (a21 : PySem.W.nsIn K mainGlobals "change_by" = some (some (.ref f21))) (l21 : K.lookup f21 = some ⟨oc21, od21, .func (PySem.W.fnOf "change_by" "change_by" (defArgs s_change_by) (defBody s_change_by) (defScope s_change_by) .none kV21 dc21 pm21 an21 cd21 ct21), sl21⟩) (c21 : PySem.W.codeIn K cd21 "change_by" = true) (k21 : PySem.W.keepIn K (.ref f21) = true)
    (a22 : PySem.W.nsIn K mainGlobals "change_of" = some (some (.ref f22))) (l22 : K.lookup f22 = some ⟨oc22, od22, .func (PySem.W.fnOf "change_of" "change_of" (defArgs s_change_of) (defBody s_change_of) (defScope s_change_of) .none kV22 dc22 pm22 an22 cd22 ct22), sl22⟩) (c22 : PySem.W.codeIn K cd22 "change_of" = true) (k22 : PySem.W.keepIn K (.ref f22) = true)
    (a23 : PySem.W.nsIn K mainGlobals "falls_of" = some (some (.ref f23))) (l23 : K.lookup f23 = some ⟨oc23, od23, .func (PySem.W.fnOf "falls_of" "falls_of" (defArgs s_falls_of) (defBody s_falls_of) (defScope s_falls_of) .none kV23 dc23 pm23 an23 cd23 ct23), sl23⟩) (c23 : PySem.W.codeIn K cd23 "falls_of" = true) (k23 : PySem.W.keepIn K (.ref f23) = true)
    (a24 : PySem.W.findIn K (.ref CC) "__init__" = some (some (.ref f24))) (l24 : K.lookup f24 = some ⟨oc24, od24, .func (PySem.W.fnOf "__init__" "Change.__init__" (defArgs s_Change___init__) (defBody s_Change___init__) (defScope s_Change___init__) .none kV24 dc24 pm24 an24 cd24 ct24), sl24⟩) (c24 : PySem.W.codeIn K cd24 "Change.__init__" = true) (k24 : PySem.W.keepIn K (.ref f24) = true)
    (i24 : PySem.W.isFn K (.ref f24) = true)
    (a25 : PySem.W.findIn K (.ref CC) "fall" = some (some (.ref f25))) (l25 : K.lookup f25 = some ⟨oc25, od25, .func (PySem.W.fnOf "fall" "Change.fall" (defArgs s_Change_fall) (defBody s_Change_fall) (defScope s_Change_fall) .none kV25 dc25 pm25 an25 cd25 ct25), sl25⟩) (c25 : PySem.W.codeIn K cd25 "Change.fall" = true) (k25 : PySem.W.keepIn K (.ref f25) = true)
    (i25 : PySem.W.isFn K (.ref f25) = true)
    (a26 : PySem.W.nsIn K mainGlobals "mean_of" = some (some (.ref f26))) (l26 : K.lookup f26 = some ⟨oc26, od26, .func (PySem.W.fnOf "mean_of" "mean_of" (defArgs s_mean_of) (defBody s_mean_of) (defScope s_mean_of) .none kV26 dc26 pm26 an26 cd26 ct26), sl26⟩) (c26 : PySem.W.codeIn K cd26 "mean_of" = true) (k26 : PySem.W.keepIn K (.ref f26) = true)
    (a27 : PySem.W.nsIn K mainGlobals "tail_parts" = some (some (.ref f27))) (l27 : K.lookup f27 = some ⟨oc27, od27, .func (PySem.W.fnOf "tail_parts" "tail_parts" (defArgs s_tail_parts) (defBody s_tail_parts) (defScope s_tail_parts) .none kV27 dc27 pm27 an27 cd27 ct27), sl27⟩) (c27 : PySem.W.codeIn K cd27 "tail_parts" = true) (k27 : PySem.W.keepIn K (.ref f27) = true)
    (a28 : PySem.W.nsIn K mainGlobals "mean_top" = some (some (.ref f28))) (l28 : K.lookup f28 = some ⟨oc28, od28, .func (PySem.W.fnOf "mean_top" "mean_top" (defArgs s_mean_top) (defBody s_mean_top) (defScope s_mean_top) .none kV28 dc28 pm28 an28 cd28 ct28), sl28⟩) (c28 : PySem.W.codeIn K cd28 "mean_top" = true) (k28 : PySem.W.keepIn K (.ref f28) = true)
    (a29 : PySem.W.nsIn K mainGlobals "mean_after" = some (some (.ref f29))) (l29 : K.lookup f29 = some ⟨oc29, od29, .func (PySem.W.fnOf "mean_after" "mean_after" (defArgs s_mean_after) (defBody s_mean_after) (defScope s_mean_after) .none kV29 dc29 pm29 an29 cd29 ct29), sl29⟩) (c29 : PySem.W.codeIn K cd29 "mean_after" = true) (k29 : PySem.W.keepIn K (.ref f29) = true)
    (a30 : PySem.W.nsIn K mainGlobals "_law_cell" = some (some (.ref f30))) (l30 : K.lookup f30 = some ⟨oc30, od30, .func (PySem.W.fnOf "_law_cell" "_law_cell" (defArgs s__law_cell) (defBody s__law_cell) (defScope s__law_cell) .none kV30 dc30 pm30 an30 cd30 ct30), sl30⟩) (c30 : PySem.W.codeIn K cd30 "_law_cell" = true) (k30 : PySem.W.keepIn K (.ref f30) = true)
    (a31 : PySem.W.nsIn K mainGlobals "_law_digits" = some (some (.ref f31))) (l31 : K.lookup f31 = some ⟨oc31, od31, .func (PySem.W.fnOf "_law_digits" "_law_digits" (defArgs s__law_digits) (defBody s__law_digits) (defScope s__law_digits) .none kV31 dc31 pm31 an31 cd31 ct31), sl31⟩) (c31 : PySem.W.codeIn K cd31 "_law_digits" = true) (k31 : PySem.W.keepIn K (.ref f31) = true)
    (a32 : PySem.W.nsIn K mainGlobals "_law_fraction" = some (some (.ref f32))) (l32 : K.lookup f32 = some ⟨oc32, od32, .func (PySem.W.fnOf "_law_fraction" "_law_fraction" (defArgs s__law_fraction) (defBody s__law_fraction) (defScope s__law_fraction) .none kV32 dc32 pm32 an32 cd32 ct32), sl32⟩) (c32 : PySem.W.codeIn K cd32 "_law_fraction" = true) (k32 : PySem.W.keepIn K (.ref f32) = true)
    (a33 : PySem.W.nsIn K mainGlobals "_law_plus" = some (some (.ref f33))) (l33 : K.lookup f33 = some ⟨oc33, od33, .func (PySem.W.fnOf "_law_plus" "_law_plus" (defArgs s__law_plus) (defBody s__law_plus) (defScope s__law_plus) .none kV33 dc33 pm33 an33 cd33 ct33), sl33⟩) (c33 : PySem.W.codeIn K cd33 "_law_plus" = true) (k33 : PySem.W.keepIn K (.ref f33) = true)
    (a34 : PySem.W.nsIn K mainGlobals "_law_times" = some (some (.ref f34))) (l34 : K.lookup f34 = some ⟨oc34, od34, .func (PySem.W.fnOf "_law_times" "_law_times" (defArgs s__law_times) (defBody s__law_times) (defScope s__law_times) .none kV34 dc34 pm34 an34 cd34 ct34), sl34⟩) (c34 : PySem.W.codeIn K cd34 "_law_times" = true) (k34 : PySem.W.keepIn K (.ref f34) = true)
    (a35 : PySem.W.nsIn K mainGlobals "_law_spread" = some (some (.ref f35))) (l35 : K.lookup f35 = some ⟨oc35, od35, .func (PySem.W.fnOf "_law_spread" "_law_spread" (defArgs s__law_spread) (defBody s__law_spread) (defScope s__law_spread) .none kV35 dc35 pm35 an35 cd35 ct35), sl35⟩) (c35 : PySem.W.codeIn K cd35 "_law_spread" = true) (k35 : PySem.W.keepIn K (.ref f35) = true)
    (a36 : PySem.W.nsIn K mainGlobals "_law_house" = some (some (.ref f36))) (l36 : K.lookup f36 = some ⟨oc36, od36, .func (PySem.W.fnOf "_law_house" "_law_house" (defArgs s__law_house) (defBody s__law_house) (defScope s__law_house) .none kV36 dc36 pm36 an36 cd36 ct36), sl36⟩) (c36 : PySem.W.codeIn K cd36 "_law_house" = true) (k36 : PySem.W.keepIn K (.ref f36) = true)
    (a37 : PySem.W.nsIn K mainGlobals "_law_remaining" = some (some (.ref f37))) (l37 : K.lookup f37 = some ⟨oc37, od37, .func (PySem.W.fnOf "_law_remaining" "_law_remaining" (defArgs s__law_remaining) (defBody s__law_remaining) (defScope s__law_remaining) .none kV37 dc37 pm37 an37 cd37 ct37), sl37⟩) (c37 : PySem.W.codeIn K cd37 "_law_remaining" = true) (k37 : PySem.W.keepIn K (.ref f37) = true)
    (a38 : PySem.W.nsIn K mainGlobals "_law_changes" = some (some (.ref f38))) (l38 : K.lookup f38 = some ⟨oc38, od38, .func (PySem.W.fnOf "_law_changes" "_law_changes" (defArgs s__law_changes) (defBody s__law_changes) (defScope s__law_changes) .none kV38 dc38 pm38 an38 cd38 ct38), sl38⟩) (c38 : PySem.W.codeIn K cd38 "_law_changes" = true) (k38 : PySem.W.keepIn K (.ref f38) = true)
    (a39 : PySem.W.nsIn K mainGlobals "_law_year" = some (some (.ref f39))) (l39 : K.lookup f39 = some ⟨oc39, od39, .func (PySem.W.fnOf "_law_year" "_law_year" (defArgs s__law_year) (defBody s__law_year) (defScope s__law_year) .none kV39 dc39 pm39 an39 cd39 ct39), sl39⟩) (c39 : PySem.W.codeIn K cd39 "_law_year" = true) (k39 : PySem.W.keepIn K (.ref f39) = true)
    (a40 : PySem.W.nsIn K mainGlobals "_law_value" = some (some (.ref f40))) (l40 : K.lookup f40 = some ⟨oc40, od40, .func (PySem.W.fnOf "_law_value" "_law_value" (defArgs s__law_value) (defBody s__law_value) (defScope s__law_value) .none kV40 dc40 pm40 an40 cd40 ct40), sl40⟩) (c40 : PySem.W.codeIn K cd40 "_law_value" = true) (k40 : PySem.W.keepIn K (.ref f40) = true)
    (a41 : PySem.W.nsIn K mainGlobals "_law_mean" = some (some (.ref f41))) (l41 : K.lookup f41 = some ⟨oc41, od41, .func (PySem.W.fnOf "_law_mean" "_law_mean" (defArgs s__law_mean) (defBody s__law_mean) (defScope s__law_mean) .none kV41 dc41 pm41 an41 cd41 ct41), sl41⟩) (c41 : PySem.W.codeIn K cd41 "_law_mean" = true) (k41 : PySem.W.keepIn K (.ref f41) = true)
    (a42 : PySem.W.nsIn K mainGlobals "_law_table" = some (some (.ref f42))) (l42 : K.lookup f42 = some ⟨oc42, od42, .func (PySem.W.fnOf "_law_table" "_law_table" (defArgs s__law_table) (defBody s__law_table) (defScope s__law_table) .none kV42 dc42 pm42 an42 cd42 ct42), sl42⟩) (c42 : PySem.W.codeIn K cd42 "_law_table" = true) (k42 : PySem.W.keepIn K (.ref f42) = true)
    (a43 : PySem.W.nsIn K mainGlobals "_law_refused" = some (some (.ref f43))) (l43 : K.lookup f43 = some ⟨oc43, od43, .func (PySem.W.fnOf "_law_refused" "_law_refused" (defArgs s__law_refused) (defBody s__law_refused) (defScope s__law_refused) .none kV43 dc43 pm43 an43 cd43 ct43), sl43⟩) (c43 : PySem.W.codeIn K cd43 "_law_refused" = true) (k43 : PySem.W.keepIn K (.ref f43) = true)
    (a44 : PySem.W.nsIn K mainGlobals "_law_far" = some (some (.ref f44))) (l44 : K.lookup f44 = some ⟨oc44, od44, .func (PySem.W.fnOf "_law_far" "_law_far" (defArgs s__law_far) (defBody s__law_far) (defScope s__law_far) .none kV44 dc44 pm44 an44 cd44 ct44), sl44⟩) (c44 : PySem.W.codeIn K cd44 "_law_far" = true) (k44 : PySem.W.keepIn K (.ref f44) = true)
    (a45 : PySem.W.nsIn K mainGlobals "law" = some (some (.ref f45))) (l45 : K.lookup f45 = some ⟨oc45, od45, .func (PySem.W.fnOf "law" "law" (defArgs s_law) (defBody s_law) (defScope s_law) .none kV45 dc45 pm45 an45 cd45 ct45), sl45⟩) (c45 : PySem.W.codeIn K cd45 "law" = true) (k45 : PySem.W.keepIn K (.ref f45) = true)
    (z_len : PySem.W.nsIn K mainGlobals "len" = some none)
    (z_int : PySem.W.nsIn K mainGlobals "int" = some none)
    (z_abs : PySem.W.nsIn K mainGlobals "abs" = some none)
    (z_range : PySem.W.nsIn K mainGlobals "range" = some none)
    (z_isinstance : PySem.W.nsIn K mainGlobals "isinstance" = some none)
    (z_dict : PySem.W.nsIn K mainGlobals "dict" = some none)
    (z_repr : PySem.W.nsIn K mainGlobals "repr" = some none)
    (z_min : PySem.W.nsIn K mainGlobals "min" = some none)
    (z_sorted : PySem.W.nsIn K mainGlobals "sorted" = some none)
    (z_reversed : PySem.W.nsIn K mainGlobals "reversed" = some none)
    (z_sum : PySem.W.nsIn K mainGlobals "sum" = some none)
    (q_MOST_RESERVE : PySem.W.nsIn K mainGlobals "MOST_RESERVE" = some (some (.int 10000 tMOST_RESERVE)))
    (z_ZERO : PySem.W.nsIn K mainGlobals "ZERO" = some (some (.ref aZERO)))
    (y_ZERO : K.lookup aZERO = some ⟨.type "tuple", dZERO, .seq #[.int 0 tZERO0, .int 1 tZERO1] nZERO, sZERO⟩)
    (z_ONE : PySem.W.nsIn K mainGlobals "ONE" = some (some (.ref aONE)))
    (y_ONE : K.lookup aONE = some ⟨.type "tuple", dONE, .seq #[.int 1 tONE0, .int 1 tONE1] nONE, sONE⟩)
    (g_C : PySem.W.nsIn K mainGlobals "OutOfRange" = some (some (.ref C)))
    (ex_C : PySem.W.excIn K C [.type "ValueError", .type "Exception", .type "BaseException", .type "object"] "ValueError.__new__" = true)
    (kp_C : PySem.W.keepIn K (.ref C) = true)
    (sub_C : PySem.W.subIn K (.ref C) (.type "BaseException") = some true)
    (ty_C : PySem.W.typeIn K (.ref C) = some (.type "type"))
    (hg_C : PySem.W.findIn K (.ref C) "__getattribute__" = some (some (.builtin "BaseException.__getattribute__")))
    (hk_C : PySem.W.findIn K (.ref C) "__getattr__" = some none)
    (hd_C : PySem.W.hasDictIn K C = true)
    (ha_C : PySem.W.findIn K (.ref C) "__class__" = some (some (.builtin "object.__class__")))
    (hn_C : PySem.W.specialIn K (.builtin "object.__class__") "__get__" = some (some (.builtin "getset_descriptor.__get__")))
    (ht_C : PySem.W.takesIn K (.builtin "object.__class__") = some true)
    (hm_C : PySem.W.mroIn K C (.type "object") = some true)
    (self_C : PySem.W.subIn K (.ref C) (.ref C) = some true)
    (g_C1 : PySem.W.nsIn K mainGlobals "CofferError" = some (some (.ref C1)))
    (g_C3 : PySem.W.nsIn K mainGlobals "TooLong" = some (some (.ref C3)))
    (g_CC : PySem.W.nsIn K mainGlobals "Change" = some (some (.ref CC)))
    (pg_CC : PySem.W.plainGet K CC Str.empty = true)
    (hd_CC : PySem.W.hasDictIn K CC = true)
    (po_CC : PySem.W.plainOver K CC = true)
    (sa_CC : PySem.W.findIn K (.ref CC) "__setattr__" = some (some (.builtin "object.__setattr__")))
    (mk_CC : PySem.W.makesIn K CC = true)
    (kc_CC : PySem.W.keepIn K (.ref CC) = true)
    (n_CC_low : PySem.W.findIn K (.ref CC) "low" = some none)
    (n_CC_parts : PySem.W.findIn K (.ref CC) "parts" = some none)
    (n_CC_falls : PySem.W.findIn K (.ref CC) "falls" = some none)
    (q_gcd : PySem.W.nsIn K mainGlobals "gcd" = some (some (.builtin "math.gcd")))
    (q_lcm : PySem.W.nsIn K mainGlobals "lcm" = some (some (.builtin "math.lcm")))
    (kk1 : PySem.W.kitOne K (.ref C) (.ref C1) = some true)
    (kk3 : PySem.W.kitOne K (.ref C) (.ref C3) = some false) :
    ∃ fd : FuncData, (∀ (s : Shared) (v : Value), BindsTo s fd ⟨[v], []⟩ [("script", v)]) ∧ ∀ base : Heap, K.In base → base.Ns mainGlobals mg → FnG l.prog w K mg base 10 fa fd ["script"] (sp_law K) := by
  have e := hfa.symm.trans (PySem.W.mg_of X G a45)
  cases e
  have m_len : mg "len" = none := PySem.W.mg_none_of X G z_len
  have m_int : mg "int" = none := PySem.W.mg_none_of X G z_int
  have m_abs : mg "abs" = none := PySem.W.mg_none_of X G z_abs
  have m_range : mg "range" = none := PySem.W.mg_none_of X G z_range
  have m_isinstance : mg "isinstance" = none := PySem.W.mg_none_of X G z_isinstance
  have m_dict : mg "dict" = none := PySem.W.mg_none_of X G z_dict
  have m_repr : mg "repr" = none := PySem.W.mg_none_of X G z_repr
  have m_min : mg "min" = none := PySem.W.mg_none_of X G z_min
  have m_sorted : mg "sorted" = none := PySem.W.mg_none_of X G z_sorted
  have m_reversed : mg "reversed" = none := PySem.W.mg_none_of X G z_reversed
  have m_sum : mg "sum" = none := PySem.W.mg_none_of X G z_sum
  have m_MOST_RESERVE := PySem.W.mg_of X G q_MOST_RESERVE
  have m_ZERO := PySem.W.mg_of X G z_ZERO
  have c_ZERO : ∀ G : Hp, Dd K G (.ref aZERO) (encQ 0) := fun G => .tup (xs := [.int 0, .int 1]) (.inr ⟨_, _, _, y_ZERO, rfl, rfl, (by rw [sizeLine_eq]; show 2 ≤ 16777216; omega), (.cons ⟨tZERO0, rfl⟩ (.cons ⟨tZERO1, rfl⟩ .nil))⟩) (.cons (.int 0) (.cons (.int 1) .nil))
  have m_ONE := PySem.W.mg_of X G z_ONE
  have c_ONE : ∀ G : Hp, Dd K G (.ref aONE) (encQ 1) := fun G => .tup (xs := [.int 1, .int 1]) (.inr ⟨_, _, _, y_ONE, rfl, rfl, (by rw [sizeLine_eq]; show 2 ≤ 16777216; omega), (.cons ⟨tONE0, rfl⟩ (.cons ⟨tONE1, rfl⟩ .nil))⟩) (.cons (.int 1) (.cons (.int 1) .nil))
  have M_C := PySem.W.mg_of X G g_C
  have e_C : ErrC K mg "OutOfRange" C := ⟨M_C, ex_C, kp_C, sub_C, ty_C, ⟨hg_C, hk_C, sub_C, hd_C, ha_C, hn_C, ht_C, hm_C⟩, self_C⟩
  have M_C1 := PySem.W.mg_of X G g_C1
  have M_C3 := PySem.W.mg_of X G g_C3
  have m_gcd := PySem.W.mg_of X G q_gcd
  have m_lcm := PySem.W.mg_of X G q_lcm
  have M_CC := PySem.W.mg_of X G g_CC
  have Cl_CC : Cls K CC := ⟨pg_CC, hd_CC, po_CC, sa_CC⟩
  have F_fraction := fun_mk (st := s_fraction) l0 c0 k0
  have F_plus := fun_mk (st := s_plus) l1 c1 k1
  have F_times := fun_mk (st := s_times) l2 c2 k2
  have F_gathered := fun_mk (st := s_gathered) l3 c3 k3
  have F_shifted := fun_mk (st := s_shifted) l4 c4 k4
  have F_after_layer := fun_mk (st := s_after_layer) l5 c5 k5
  have F_remaining := fun_mk (st := s_remaining) l6 c6 k6
  have F_after_treaty := fun_mk (st := s_after_treaty) l7 c7 k7
  have F_sum_of := fun_mk (st := s_sum_of) l8 c8 k8
  have F_integer_power := fun_mk (st := s_integer_power) l9 c9 k9
  have F_power := fun_mk (st := s_power) l10 c10 k10
  have F_times_power := fun_mk (st := s_times_power) l11 c11 k11
  have F_summed := fun_mk (st := s_summed) l12 c12 k12
  have F_times_pair := fun_mk (st := s_times_pair) l13 c13 k13
  have F_check_reserve := fun_mk (st := s_check_reserve) l14 c14 k14
  have F_value_at := fun_mk (st := s_value_at) l15 c15 k15
  have F_common_low_of := fun_mk (st := s_common_low_of) l16 c16 k16
  have F_common_low := fun_mk (st := s_common_low) l17 c17 k17
  have F_tops_over := fun_mk (st := s_tops_over) l18 c18 k18
  have F_check_index := fun_mk (st := s_check_index) l19 c19 k19
  have F_total_damage := fun_mk (st := s_total_damage) l20 c20 k20
  have F_change_by := fun_mk (st := s_change_by) l21 c21 k21
  have F_change_of := fun_mk (st := s_change_of) l22 c22 k22
  have F_falls_of := fun_mk (st := s_falls_of) l23 c23 k23
  have F_Change___init__ := fun_mk (st := s_Change___init__) l24 c24 k24
  have F_Change_fall := fun_mk (st := s_Change_fall) l25 c25 k25
  have F_mean_of := fun_mk (st := s_mean_of) l26 c26 k26
  have F_tail_parts := fun_mk (st := s_tail_parts) l27 c27 k27
  have F_mean_top := fun_mk (st := s_mean_top) l28 c28 k28
  have F_mean_after := fun_mk (st := s_mean_after) l29 c29 k29
  have F__law_cell := fun_mk (st := s__law_cell) l30 c30 k30
  have F__law_digits := fun_mk (st := s__law_digits) l31 c31 k31
  have F__law_fraction := fun_mk (st := s__law_fraction) l32 c32 k32
  have F__law_plus := fun_mk (st := s__law_plus) l33 c33 k33
  have F__law_times := fun_mk (st := s__law_times) l34 c34 k34
  have F__law_spread := fun_mk (st := s__law_spread) l35 c35 k35
  have F__law_house := fun_mk (st := s__law_house) l36 c36 k36
  have F__law_remaining := fun_mk (st := s__law_remaining) l37 c37 k37
  have F__law_changes := fun_mk (st := s__law_changes) l38 c38 k38
  have F__law_year := fun_mk (st := s__law_year) l39 c39 k39
  have F__law_value := fun_mk (st := s__law_value) l40 c40 k40
  have F__law_mean := fun_mk (st := s__law_mean) l41 c41 k41
  have F__law_table := fun_mk (st := s__law_table) l42 c42 k42
  have F__law_refused := fun_mk (st := s__law_refused) l43 c43 k43
  have F__law_far := fun_mk (st := s__law_far) l44 c44 k44
  have F_law := fun_mk (st := s_law) l45 c45 k45
  refine ⟨PySem.W.fnOf "law" "law" (defArgs s_law) (defBody s_law) (defScope s_law) .none kV45 dc45 pm45 an45 cd45 ct45, fun s v => .of_eq rfl, fun base _ _ => ?_⟩
  have C_fraction : Callee l.prog w K mg base (L2.CX l.prog w) 1 "fraction" ["top", "low"] (sp_fraction K C) := ⟨f0, _, ok_fraction F_fraction m_gcd e_C, PySem.W.mg_of X G a0, k0, F_fraction.binds (ps := ["top", "low"]) fun _ _ _ _ _ _ us hl => match us, hl with | [_, _], _ => rfl⟩
  have C_fractionP : Callee l.prog w K mg base (L2.CX l.prog w) 1 "fraction" ["top", "low"] (sp_fractionP K C) := ⟨f0, _, ok_fractionP F_fraction m_gcd e_C, PySem.W.mg_of X G a0, k0, F_fraction.binds (ps := ["top", "low"]) fun _ _ _ _ _ _ us hl => match us, hl with | [_, _], _ => rfl⟩
  have C_plus : Callee l.prog w K mg base CX0 2 "plus" ["first", "second"] (sp_plus K) := ⟨f1, _, ok_plus F_plus C_fraction, PySem.W.mg_of X G a1, k1, F_plus.binds (ps := ["first", "second"]) fun _ _ _ _ _ _ us hl => match us, hl with | [_, _], _ => rfl⟩
  have C_times : Callee l.prog w K mg base CX0 2 "times" ["first", "second"] (sp_times K) := ⟨f2, _, ok_times F_times C_fraction, PySem.W.mg_of X G a2, k2, F_times.binds (ps := ["first", "second"]) fun _ _ _ _ _ _ us hl => match us, hl with | [_, _], _ => rfl⟩
  have C_gathered : Callee l.prog w K mg base CX0 3 "gathered" ["items"] (sp_gathered K) := ⟨f3, _, ok_gathered F_gathered m_ZERO c_ZERO m_sorted C_plus, PySem.W.mg_of X G a3, k3, F_gathered.binds (ps := ["items"]) fun _ _ _ _ _ _ us hl => match us, hl with | [_], _ => rfl⟩
  have C_shifted : Callee l.prog w K mg base CX0 1 "shifted" ["spread", "places"] (sp_shifted K) := ⟨f4, _, ok_shifted F_shifted, PySem.W.mg_of X G a4, k4, F_shifted.binds (ps := ["spread", "places"]) fun _ _ _ _ _ _ us hl => match us, hl with | [_, _], _ => rfl⟩
  have C_after_layer : Callee l.prog w K mg base CX0 1 "after_layer" ["layer", "amount"] (sp_after_layer K) := ⟨f5, _, ok_after_layer F_after_layer m_min, PySem.W.mg_of X G a5, k5, F_after_layer.binds (ps := ["layer", "amount"]) fun _ _ _ _ _ _ us hl => match us, hl with | [_, _], _ => rfl⟩
  have C_remaining : Callee l.prog w K mg base CX0 2 "remaining" ["treaty", "amount"] (sp_remaining K) := ⟨f6, _, ok_remaining F_remaining C_after_layer, PySem.W.mg_of X G a6, k6, F_remaining.binds (ps := ["treaty", "amount"]) fun _ _ _ _ _ _ us hl => match us, hl with | [_, _], _ => rfl⟩
  have C_after_treaty : Callee l.prog w K mg base CX0 4 "after_treaty" ["treaty", "spread"] (sp_after_treaty K) := ⟨f7, _, ok_after_treaty F_after_treaty C_gathered C_remaining, PySem.W.mg_of X G a7, k7, F_after_treaty.binds (ps := ["treaty", "spread"]) fun _ _ _ _ _ _ us hl => match us, hl with | [_, _], _ => rfl⟩
  have C_sum_of : Callee l.prog w K mg base CX0 4 "sum_of" ["first", "second"] (sp_sum_of K) := ⟨f8, _, ok_sum_of F_sum_of C_times C_gathered, PySem.W.mg_of X G a8, k8, F_sum_of.binds (ps := ["first", "second"]) fun _ _ _ _ _ _ us hl => match us, hl with | [_, _], _ => rfl⟩
  have C_integer_power : Callee l.prog w K mg base CX0 1 "integer_power" ["base", "exponent"] (sp_integer_power K) := ⟨f9, _, ok_integer_power F_integer_power, PySem.W.mg_of X G a9, k9, F_integer_power.binds (ps := ["base", "exponent"]) fun _ _ _ _ _ _ us hl => match us, hl with | [_, _], _ => rfl⟩
  have C_power : Callee l.prog w K mg base CX0 2 "power" ["base", "exponent"] (sp_power K) := ⟨f10, _, ok_power F_power C_integer_power, PySem.W.mg_of X G a10, k10, F_power.binds (ps := ["base", "exponent"]) fun _ _ _ _ _ _ us hl => match us, hl with | [_, _], _ => rfl⟩
  have C_times_power : Callee l.prog w K mg base CX0 3 "times_power" ["first", "base", "exponent"] (sp_times_power K) := ⟨f11, _, ok_times_power F_times_power C_power C_fractionP, PySem.W.mg_of X G a11, k11, F_times_power.binds (ps := ["first", "base", "exponent"]) fun _ _ _ _ _ _ us hl => match us, hl with | [_, _, _], _ => rfl⟩
  have C_summed : Callee l.prog w K mg base CX0 1 "summed" ["pairs"] (sp_summed K) := ⟨f12, _, ok_summed F_summed m_lcm, PySem.W.mg_of X G a12, k12, F_summed.binds (ps := ["pairs"]) fun _ _ _ _ _ _ us hl => match us, hl with | [_], _ => rfl⟩
  have C_times_pair : Callee l.prog w K mg base CX0 1 "times_pair" ["first", "second"] (sp_times_pair K) := ⟨f13, _, ok_times_pair F_times_pair, PySem.W.mg_of X G a13, k13, F_times_pair.binds (ps := ["first", "second"]) fun _ _ _ _ _ _ us hl => match us, hl with | [_, _], _ => rfl⟩
  have C_check_reserve : Callee l.prog w K mg base (L2.CX l.prog w) 1 "check_reserve" ["reserve"] (sp_check_reserve K C) := ⟨f14, _, ok_check_reserve F_check_reserve e_C ⟨_, m_MOST_RESERVE⟩, PySem.W.mg_of X G a14, k14, F_check_reserve.binds (ps := ["reserve"]) fun _ _ _ _ _ _ us hl => match us, hl with | [_], _ => rfl⟩
  have C_value_at : Callee l.prog w K mg base (L2.CX l.prog w) 4 "value_at" ["table", "reserve", "weather"] (sp_value_at K C) := ⟨f15, _, ok_value_at F_value_at m_len m_ONE c_ONE C_check_reserve C_times_power, PySem.W.mg_of X G a15, k15, F_value_at.binds (ps := ["table", "reserve", "weather"]) fun _ _ _ _ _ _ us hl => match us, hl with | [_, _, _], _ => rfl⟩
  have C_common_low_of : Callee l.prog w K mg base CX0 1 "common_low_of" ["fractions"] (sp_common_low_of K) := ⟨f16, _, ok_common_low_of F_common_low_of m_lcm, PySem.W.mg_of X G a16, k16, F_common_low_of.binds (ps := ["fractions"]) fun _ _ _ _ _ _ us hl => match us, hl with | [_], _ => rfl⟩
  have C_common_low : Callee l.prog w K mg base CX0 2 "common_low" ["spreads"] (sp_common_low K) := ⟨f17, _, ok_common_low F_common_low C_common_low_of, PySem.W.mg_of X G a17, k17, F_common_low.binds (ps := ["spreads"]) fun _ _ _ _ _ _ us hl => match us, hl with | [_], _ => rfl⟩
  have C_tops_over : Callee l.prog w K mg base CX0 1 "tops_over" ["spread", "low"] (sp_tops_over K) := ⟨f18, _, ok_tops_over F_tops_over, PySem.W.mg_of X G a18, k18, F_tops_over.binds (ps := ["spread", "low"]) fun _ _ _ _ _ _ us hl => match us, hl with | [_, _], _ => rfl⟩
  have C_check_index : Callee l.prog w K mg base (L2.CX l.prog w) 1 "check_index" ["index", "items"] (sp_check_index K C) := ⟨f19, _, ok_check_index F_check_index m_len e_C, PySem.W.mg_of X G a19, k19, F_check_index.binds (ps := ["index", "items"]) fun _ _ _ _ _ _ us hl => match us, hl with | [_, _], _ => rfl⟩
  have C_total_damage : Callee l.prog w K mg base (L2.CX l.prog w) 5 "total_damage" ["house", "weather"] (sp_total_damage K C) := ⟨f20, _, ok_total_damage F_total_damage m_ONE c_ONE C_check_index C_sum_of, PySem.W.mg_of X G a20, k20, F_total_damage.binds (ps := ["house", "weather"]) fun _ _ _ _ _ _ us hl => match us, hl with | [_, _], _ => rfl⟩
  have C_change_by : Callee l.prog w K mg base CX0 5 "change_by" ["premium", "treaty", "damage"] (sp_change_by K) := ⟨f21, _, ok_change_by F_change_by m_reversed C_after_treaty C_shifted, PySem.W.mg_of X G a21, k21, F_change_by.binds (ps := ["premium", "treaty", "damage"]) fun _ _ _ _ _ _ us hl => match us, hl with | [_, _, _], _ => rfl⟩
  have C_change_of : Callee l.prog w K mg base (L2.CX l.prog w) 6 "change_of" ["house", "weather", "treaty"] (sp_change_of K C) := ⟨f22, _, ok_change_of F_change_of C_check_index C_total_damage C_change_by, PySem.W.mg_of X G a22, k22, F_change_of.binds (ps := ["house", "weather", "treaty"]) fun _ _ _ _ _ _ us hl => match us, hl with | [_, _, _], _ => rfl⟩
  have C_falls_of : Callee l.prog w K mg base CX0 1 "falls_of" ["parts"] (sp_falls_of K) := ⟨f23, _, ok_falls_of F_falls_of m_dict m_range, PySem.W.mg_of X G a23, k23, F_falls_of.binds (ps := ["parts"]) fun _ _ _ _ _ _ us hl => match us, hl with | [_], _ => rfl⟩
  have M_Change : CalleeM l.prog w K mg base CX0 2 "Change" CC ["self", "spread", "low"] (sp_ch_init K CC) := ⟨f24, _, ok_ch_init F_Change___init__ ⟨Cl_CC, n_CC_low, n_CC_parts, n_CC_falls⟩ C_tops_over C_falls_of, M_CC, ⟨mk_CC, a24, i24, kc_CC⟩, F_Change___init__.binds (ps := ["self", "spread", "low"]) fun _ _ _ _ _ _ us hl => match us, hl with | [_, _, _], _ => rfl⟩
  have O_Change_fall : CalleeO l.prog w K mg base CX0 1 CC "fall" ["self", "reserve"] (sp_ch_fall K CC) := ⟨f25, _, ok_ch_fall F_Change_fall ⟨Cl_CC, n_CC_low, n_CC_parts, n_CC_falls⟩ m_len, Cl_CC, ⟨a25, i25, k25⟩, F_Change_fall.binds (ps := ["self", "reserve"]) fun _ _ _ _ _ _ us hl => match us, hl with | [_, _], _ => rfl⟩
  have C_mean_of : Callee l.prog w K mg base CX0 2 "mean_of" ["turns", "worths"] (sp_mean_of K) := ⟨f26, _, ok_mean_of F_mean_of C_summed C_times_pair C_fractionP, PySem.W.mg_of X G a26, k26, F_mean_of.binds (ps := ["turns", "worths"]) fun _ _ _ _ _ _ us hl => match us, hl with | [_, _], _ => rfl⟩
  have C_tail_parts : Callee l.prog w K mg base CX0 1 "tail_parts" ["change", "q", "size", "first", "last"] (sp_tail_parts K CC) := ⟨f27, _, ok_tail_parts F_tail_parts ⟨Cl_CC, n_CC_low, n_CC_parts, n_CC_falls⟩ m_dict m_min m_range, PySem.W.mg_of X G a27, k27, F_tail_parts.binds (ps := ["change", "q", "size", "first", "last"]) fun _ _ _ _ _ _ us hl => match us, hl with | [_, _, _, _, _], _ => rfl⟩
  have C_mean_top : Callee l.prog w K mg base CX0 2 "mean_top" ["change", "row", "reserve", "tail"] (sp_mean_top K CC) := ⟨f28, _, ok_mean_top F_mean_top ⟨Cl_CC, n_CC_low, n_CC_parts, n_CC_falls⟩ m_len C_summed O_Change_fall, PySem.W.mg_of X G a28, k28, F_mean_top.binds (ps := ["change", "row", "reserve", "tail"]) fun _ _ _ _ _ _ us hl => match us, hl with | [_, _, _, _], _ => rfl⟩
  have C_mean_after : Callee l.prog w K mg base (L2.CX l.prog w) 7 "mean_after" ["house", "table", "state", "treaty"] (sp_mean_after K C) := ⟨f29, _, ok_mean_after F_mean_after ⟨Cl_CC, n_CC_low, n_CC_parts, n_CC_falls⟩ m_len m_min C_check_reserve C_change_of M_Change C_common_low C_mean_of C_times_pair C_tail_parts C_mean_top C_fractionP C_times_power, PySem.W.mg_of X G a29, k29, F_mean_after.binds (ps := ["house", "table", "state", "treaty"]) fun _ _ _ _ _ _ us hl => match us, hl with | [_, _, _, _], _ => rfl⟩
  have C__law_cell : Callee l.prog w K mg base CX0 1 "_law_cell" ["script", "k"] (sp__law_cell K) := ⟨f30, _, ok__law_cell F__law_cell m_len m_int m_abs, PySem.W.mg_of X G a30, k30, F__law_cell.binds (ps := ["script", "k"]) fun _ _ _ _ _ _ us hl => match us, hl with | [_, _], _ => rfl⟩
  have C__law_digits : Callee l.prog w K mg base CX0 1 "_law_digits" ["cell", "base", "most"] (sp__law_digits K) := ⟨f31, _, ok__law_digits F__law_digits m_int m_range, PySem.W.mg_of X G a31, k31, F__law_digits.binds (ps := ["cell", "base", "most"]) fun _ _ _ _ _ _ us hl => match us, hl with | [_, _, _], _ => rfl⟩
  have C__law_fraction : Callee l.prog w K mg base CX0 1 "_law_fraction" ["top", "low"] (sp__law_fraction K) := ⟨f32, _, ok__law_fraction F__law_fraction m_abs m_int m_range, PySem.W.mg_of X G a32, k32, F__law_fraction.binds (ps := ["top", "low"]) fun _ _ _ _ _ _ us hl => match us, hl with | [_, _], _ => rfl⟩
  have C__law_plus : Callee l.prog w K mg base CX0 2 "_law_plus" ["first", "second"] (sp__law_plus K) := ⟨f33, _, ok__law_plus F__law_plus C__law_fraction, PySem.W.mg_of X G a33, k33, F__law_plus.binds (ps := ["first", "second"]) fun _ _ _ _ _ _ us hl => match us, hl with | [_, _], _ => rfl⟩
  have C__law_times : Callee l.prog w K mg base CX0 2 "_law_times" ["first", "second"] (sp__law_times K) := ⟨f34, _, ok__law_times F__law_times C__law_fraction, PySem.W.mg_of X G a34, k34, F__law_times.binds (ps := ["first", "second"]) fun _ _ _ _ _ _ us hl => match us, hl with | [_, _], _ => rfl⟩
  have C__law_spread : Callee l.prog w K mg base CX0 2 "_law_spread" ["draw", "values"] (sp__law_spread K) := ⟨f35, _, ok__law_spread F__law_spread m_len m_range m_sum C__law_fraction, PySem.W.mg_of X G a35, k35, F__law_spread.binds (ps := ["draw", "values"]) fun _ _ _ _ _ _ us hl => match us, hl with | [_, _], _ => rfl⟩
  have C__law_house : Callee l.prog w K mg base CX0 3 "_law_house" ["first", "second"] (sp__law_house K) := ⟨f36, _, ok__law_house F__law_house m_range C__law_digits C__law_fraction C__law_spread, PySem.W.mg_of X G a36, k36, F__law_house.binds (ps := ["first", "second"]) fun _ _ _ _ _ _ us hl => match us, hl with | [_, _], _ => rfl⟩
  have C__law_remaining : Callee l.prog w K mg base CX0 1 "_law_remaining" ["treaty", "amount"] (sp__law_remaining K) := ⟨f37, _, ok__law_remaining F__law_remaining m_min, PySem.W.mg_of X G a37, k37, F__law_remaining.binds (ps := ["treaty", "amount"]) fun _ _ _ _ _ _ us hl => match us, hl with | [_, _], _ => rfl⟩
  have C__law_changes : Callee l.prog w K mg base CX0 3 "_law_changes" ["house", "weather", "treaty"] (sp__law_changes K) := ⟨f38, _, ok__law_changes F__law_changes C__law_remaining C__law_times, PySem.W.mg_of X G a38, k38, F__law_changes.binds (ps := ["house", "weather", "treaty"]) fun _ _ _ _ _ _ us hl => match us, hl with | [_, _, _], _ => rfl⟩
  have C__law_year : Callee l.prog w K mg base CX0 4 "_law_year" ["house", "reserve", "weather", "treaty"] (sp__law_year K) := ⟨f39, _, ok__law_year F__law_year C__law_changes C__law_times, PySem.W.mg_of X G a39, k39, F__law_year.binds (ps := ["house", "reserve", "weather", "treaty"]) fun _ _ _ _ _ _ us hl => match us, hl with | [_, _, _, _], _ => rfl⟩
  have C__law_value : Callee l.prog w K mg base CX0 2 "_law_value" ["table", "reserve", "weather"] (sp__law_value K) := ⟨f40, _, ok__law_value F__law_value m_len m_range C__law_fraction, PySem.W.mg_of X G a40, k40, F__law_value.binds (ps := ["table", "reserve", "weather"]) fun _ _ _ _ _ _ us hl => match us, hl with | [_, _, _], _ => rfl⟩
  have C__law_mean : Callee l.prog w K mg base CX0 5 "_law_mean" ["house", "table", "reserve", "weather", "treaty"] (sp__law_mean K) := ⟨f41, _, ok__law_mean F__law_mean C__law_plus C__law_times C__law_value C__law_year, PySem.W.mg_of X G a41, k41, F__law_mean.binds (ps := ["house", "table", "reserve", "weather", "treaty"]) fun _ _ _ _ _ _ us hl => match us, hl with | [_, _, _, _, _], _ => rfl⟩
  have C__law_table : Callee l.prog w K mg base CX0 2 "_law_table" ["house", "draws"] (sp__law_table K) := ⟨f42, _, ok__law_table F__law_table m_len m_range C__law_fraction, PySem.W.mg_of X G a42, k42, F__law_table.binds (ps := ["house", "draws"]) fun _ _ _ _ _ _ us hl => match us, hl with | [_, _], _ => rfl⟩
  have C__law_refused : Callee l.prog w K mg base CX0 8 "_law_refused" ["way", "reserve"] (sp__law_refused K) := ⟨f43, _, ok__law_refused F__law_refused ⟨e_C, M_C1, M_C3, kk1, kk3⟩ m_isinstance C_value_at C_mean_after, PySem.W.mg_of X G a43, k43, F__law_refused.binds (ps := ["way", "reserve"]) fun _ _ _ _ _ _ us hl => match us, hl with | [_, _], _ => rfl⟩
  have C__law_far : Callee l.prog w K mg base CX0 9 "_law_far" ["draw"] (sp__law_far K) := ⟨f44, _, ok__law_far F__law_far m_range C__law_refused C_value_at C_mean_after, PySem.W.mg_of X G a44, k44, F__law_far.binds (ps := ["draw"]) fun _ _ _ _ _ _ us hl => match us, hl with | [_], _ => rfl⟩
  exact ok_law F_law m_len m_range m_repr C__law_cell C__law_digits C__law_far C__law_fraction C__law_house C__law_mean C__law_table C__law_value C_value_at C_mean_after
end KP
open PySem PySem.W PyProof.Rows
set_option maxHeartbeats 0 in
theorem PySem.Challenge.cw_lastcoffer_k40_values_and_means_holds : PySem.Challenge.rw_lastcoffer_k40_values_and_means.Holds := by
  w_on; o_law; k_head; (case hw => w_witness2)
  k_fill
  refine DL.law_G (l := PySem.Challenge.rw_lastcoffer_k40_values_and_means) (n := 63) (k := 10) (x := "script") (sp := fun w => KP.sp_law _) rfl (by decide) rfl ⟨rfl, by decide, by decide⟩ (fun w h Y => PySem.W.kIn_of Y) ?F (fun w H a ns hl hS => KP.law_start hl hS)
  case F =>
    intro w mg fa h KX G hmg
    refine' KP.all_mk KX G hmg ?a0 ?l0 ?c0 ?k0 ?a1 ?l1 ?c1 ?k1 ?a2 ?l2 ?c2 ?k2 ?a3 ?l3 ?c3 ?k3 ?a4 ?l4 ?c4 ?k4 ?a5 ?l5 ?c5 ?k5 ?a6 ?l6 ?c6 ?k6 ?a7 ?l7 ?c7 ?k7 ?a8 ?l8 ?c8 ?k8 ?a9 ?l9 ?c9 ?k9 ?a10 ?l10 ?c10 ?k10 ?a11 ?l11 ?c11 ?k11 ?a12 ?l12 ?c12 ?k12 ?a13 ?l13 ?c13 ?k13 ?a14 ?l14 ?c14 ?k14 ?a15 ?l15 ?c15 ?k15 ?a16 ?l16 ?c16 ?k16 ?a17 ?l17 ?c17 ?k17 ?a18 ?l18 ?c18 ?k18 ?a19 ?l19 ?c19 ?k19 ?a20 ?l20 ?c20 ?k20 ?a21 ?l21 ?c21 ?k21 ?a22 ?l22 ?c22 ?k22 ?a23 ?l23 ?c23 ?k23 ?a24 ?l24 ?c24 ?k24 ?i24 ?a25 ?l25 ?c25 ?k25 ?i25 ?a26 ?l26 ?c26 ?k26 ?a27 ?l27 ?c27 ?k27 ?a28 ?l28 ?c28 ?k28 ?a29 ?l29 ?c29 ?k29 ?a30 ?l30 ?c30 ?k30 ?a31 ?l31 ?c31 ?k31 ?a32 ?l32 ?c32 ?k32 ?a33 ?l33 ?c33 ?k33 ?a34 ?l34 ?c34 ?k34 ?a35 ?l35 ?c35 ?k35 ?a36 ?l36 ?c36 ?k36 ?a37 ?l37 ?c37 ?k37 ?a38 ?l38 ?c38 ?k38 ?a39 ?l39 ?c39 ?k39 ?a40 ?l40 ?c40 ?k40 ?a41 ?l41 ?c41 ?k41 ?a42 ?l42 ?c42 ?k42 ?a43 ?l43 ?c43 ?k43 ?a44 ?l44 ?c44 ?k44 ?a45 ?l45 ?c45 ?k45 ?z_len ?z_int ?z_abs ?z_range ?z_isinstance ?z_dict ?z_repr ?z_min ?z_sorted ?z_reversed ?z_sum ?q_MOST_RESERVE ?z_ZERO ?y_ZERO ?z_ONE ?y_ONE ?g_C ?ex_C ?kp_C ?sub_C ?ty_C ?hg_C ?hk_C ?hd_C ?ha_C ?hn_C ?ht_C ?hm_C ?self_C ?g_C1 ?g_C3 ?g_CC ?pg_CC ?hd_CC ?po_CC ?sa_CC ?mk_CC ?kc_CC ?n_CC_low ?n_CC_parts ?n_CC_falls ?q_gcd ?q_lcm ?kk1 ?kk3
    (case g_C => first | k_is | k_exc | rfl)
    (case g_C1 => first | k_is | k_exc | rfl)
    (case g_C3 => first | k_is | k_exc | rfl)
    (case g_CC => first | k_is | k_exc | rfl)
    (case a0 => first | k_is | k_exc | rfl)
    (case l0 => first | k_is | k_exc | rfl)
    (case c0 => first | k_is | k_exc | rfl)
    (case k0 => first | k_is | k_exc | rfl)
    (case a1 => first | k_is | k_exc | rfl)
    (case l1 => first | k_is | k_exc | rfl)
    (case c1 => first | k_is | k_exc | rfl)
    (case k1 => first | k_is | k_exc | rfl)
    (case a2 => first | k_is | k_exc | rfl)
    (case l2 => first | k_is | k_exc | rfl)
    (case c2 => first | k_is | k_exc | rfl)
    (case k2 => first | k_is | k_exc | rfl)
    (case a3 => first | k_is | k_exc | rfl)
    (case l3 => first | k_is | k_exc | rfl)
    (case c3 => first | k_is | k_exc | rfl)
    (case k3 => first | k_is | k_exc | rfl)
    (case a4 => first | k_is | k_exc | rfl)
    (case l4 => first | k_is | k_exc | rfl)
    (case c4 => first | k_is | k_exc | rfl)
    (case k4 => first | k_is | k_exc | rfl)
    (case a5 => first | k_is | k_exc | rfl)
    (case l5 => first | k_is | k_exc | rfl)
    (case c5 => first | k_is | k_exc | rfl)
    (case k5 => first | k_is | k_exc | rfl)
    (case a6 => first | k_is | k_exc | rfl)
    (case l6 => first | k_is | k_exc | rfl)
    (case c6 => first | k_is | k_exc | rfl)
    (case k6 => first | k_is | k_exc | rfl)
    (case a7 => first | k_is | k_exc | rfl)
    (case l7 => first | k_is | k_exc | rfl)
    (case c7 => first | k_is | k_exc | rfl)
    (case k7 => first | k_is | k_exc | rfl)
    (case a8 => first | k_is | k_exc | rfl)
    (case l8 => first | k_is | k_exc | rfl)
    (case c8 => first | k_is | k_exc | rfl)
    (case k8 => first | k_is | k_exc | rfl)
    (case a9 => first | k_is | k_exc | rfl)
    (case l9 => first | k_is | k_exc | rfl)
    (case c9 => first | k_is | k_exc | rfl)
    (case k9 => first | k_is | k_exc | rfl)
    (case a10 => first | k_is | k_exc | rfl)
    (case l10 => first | k_is | k_exc | rfl)
    (case c10 => first | k_is | k_exc | rfl)
    (case k10 => first | k_is | k_exc | rfl)
    (case a11 => first | k_is | k_exc | rfl)
    (case l11 => first | k_is | k_exc | rfl)
    (case c11 => first | k_is | k_exc | rfl)
    (case k11 => first | k_is | k_exc | rfl)
    (case a12 => first | k_is | k_exc | rfl)
    (case l12 => first | k_is | k_exc | rfl)
    (case c12 => first | k_is | k_exc | rfl)
    (case k12 => first | k_is | k_exc | rfl)
    (case a13 => first | k_is | k_exc | rfl)
    (case l13 => first | k_is | k_exc | rfl)
    (case c13 => first | k_is | k_exc | rfl)
    (case k13 => first | k_is | k_exc | rfl)
    (case a14 => first | k_is | k_exc | rfl)
    (case l14 => first | k_is | k_exc | rfl)
    (case c14 => first | k_is | k_exc | rfl)
    (case k14 => first | k_is | k_exc | rfl)
    (case a15 => first | k_is | k_exc | rfl)
    (case l15 => first | k_is | k_exc | rfl)
    (case c15 => first | k_is | k_exc | rfl)
    (case k15 => first | k_is | k_exc | rfl)
    (case a16 => first | k_is | k_exc | rfl)
    (case l16 => first | k_is | k_exc | rfl)
    (case c16 => first | k_is | k_exc | rfl)
    (case k16 => first | k_is | k_exc | rfl)
    (case a17 => first | k_is | k_exc | rfl)
    (case l17 => first | k_is | k_exc | rfl)
    (case c17 => first | k_is | k_exc | rfl)
    (case k17 => first | k_is | k_exc | rfl)
    (case a18 => first | k_is | k_exc | rfl)
    (case l18 => first | k_is | k_exc | rfl)
    (case c18 => first | k_is | k_exc | rfl)
    (case k18 => first | k_is | k_exc | rfl)
    (case a19 => first | k_is | k_exc | rfl)
    (case l19 => first | k_is | k_exc | rfl)
    (case c19 => first | k_is | k_exc | rfl)
    (case k19 => first | k_is | k_exc | rfl)
    (case a20 => first | k_is | k_exc | rfl)
    (case l20 => first | k_is | k_exc | rfl)
    (case c20 => first | k_is | k_exc | rfl)
    (case k20 => first | k_is | k_exc | rfl)
    (case a21 => first | k_is | k_exc | rfl)
    (case l21 => first | k_is | k_exc | rfl)
    (case c21 => first | k_is | k_exc | rfl)
    (case k21 => first | k_is | k_exc | rfl)
    (case a22 => first | k_is | k_exc | rfl)
    (case l22 => first | k_is | k_exc | rfl)
    (case c22 => first | k_is | k_exc | rfl)
    (case k22 => first | k_is | k_exc | rfl)
    (case a23 => first | k_is | k_exc | rfl)
    (case l23 => first | k_is | k_exc | rfl)
    (case c23 => first | k_is | k_exc | rfl)
    (case k23 => first | k_is | k_exc | rfl)
    (case a24 => first | k_is | k_exc | rfl)
    (case l24 => first | k_is | k_exc | rfl)
    (case c24 => first | k_is | k_exc | rfl)
    (case k24 => first | k_is | k_exc | rfl)
    (case i24 => first | k_is | k_exc | rfl)
    (case a25 => first | k_is | k_exc | rfl)
    (case l25 => first | k_is | k_exc | rfl)
    (case c25 => first | k_is | k_exc | rfl)
    (case k25 => first | k_is | k_exc | rfl)
    (case i25 => first | k_is | k_exc | rfl)
    (case a26 => first | k_is | k_exc | rfl)
    (case l26 => first | k_is | k_exc | rfl)
    (case c26 => first | k_is | k_exc | rfl)
    (case k26 => first | k_is | k_exc | rfl)
    (case a27 => first | k_is | k_exc | rfl)
    (case l27 => first | k_is | k_exc | rfl)
    (case c27 => first | k_is | k_exc | rfl)
    (case k27 => first | k_is | k_exc | rfl)
    (case a28 => first | k_is | k_exc | rfl)
    (case l28 => first | k_is | k_exc | rfl)
    (case c28 => first | k_is | k_exc | rfl)
    (case k28 => first | k_is | k_exc | rfl)
    (case a29 => first | k_is | k_exc | rfl)
    (case l29 => first | k_is | k_exc | rfl)
    (case c29 => first | k_is | k_exc | rfl)
    (case k29 => first | k_is | k_exc | rfl)
    (case a30 => first | k_is | k_exc | rfl)
    (case l30 => first | k_is | k_exc | rfl)
    (case c30 => first | k_is | k_exc | rfl)
    (case k30 => first | k_is | k_exc | rfl)
    (case a31 => first | k_is | k_exc | rfl)
    (case l31 => first | k_is | k_exc | rfl)
    (case c31 => first | k_is | k_exc | rfl)
    (case k31 => first | k_is | k_exc | rfl)
    (case a32 => first | k_is | k_exc | rfl)
    (case l32 => first | k_is | k_exc | rfl)
    (case c32 => first | k_is | k_exc | rfl)
    (case k32 => first | k_is | k_exc | rfl)
    (case a33 => first | k_is | k_exc | rfl)
    (case l33 => first | k_is | k_exc | rfl)
    (case c33 => first | k_is | k_exc | rfl)
    (case k33 => first | k_is | k_exc | rfl)
    (case a34 => first | k_is | k_exc | rfl)
    (case l34 => first | k_is | k_exc | rfl)
    (case c34 => first | k_is | k_exc | rfl)
    (case k34 => first | k_is | k_exc | rfl)
    (case a35 => first | k_is | k_exc | rfl)
    (case l35 => first | k_is | k_exc | rfl)
    (case c35 => first | k_is | k_exc | rfl)
    (case k35 => first | k_is | k_exc | rfl)
    (case a36 => first | k_is | k_exc | rfl)
    (case l36 => first | k_is | k_exc | rfl)
    (case c36 => first | k_is | k_exc | rfl)
    (case k36 => first | k_is | k_exc | rfl)
    (case a37 => first | k_is | k_exc | rfl)
    (case l37 => first | k_is | k_exc | rfl)
    (case c37 => first | k_is | k_exc | rfl)
    (case k37 => first | k_is | k_exc | rfl)
    (case a38 => first | k_is | k_exc | rfl)
    (case l38 => first | k_is | k_exc | rfl)
    (case c38 => first | k_is | k_exc | rfl)
    (case k38 => first | k_is | k_exc | rfl)
    (case a39 => first | k_is | k_exc | rfl)
    (case l39 => first | k_is | k_exc | rfl)
    (case c39 => first | k_is | k_exc | rfl)
    (case k39 => first | k_is | k_exc | rfl)
    (case a40 => first | k_is | k_exc | rfl)
    (case l40 => first | k_is | k_exc | rfl)
    (case c40 => first | k_is | k_exc | rfl)
    (case k40 => first | k_is | k_exc | rfl)
    (case a41 => first | k_is | k_exc | rfl)
    (case l41 => first | k_is | k_exc | rfl)
    (case c41 => first | k_is | k_exc | rfl)
    (case k41 => first | k_is | k_exc | rfl)
    (case a42 => first | k_is | k_exc | rfl)
    (case l42 => first | k_is | k_exc | rfl)
    (case c42 => first | k_is | k_exc | rfl)
    (case k42 => first | k_is | k_exc | rfl)
    (case a43 => first | k_is | k_exc | rfl)
    (case l43 => first | k_is | k_exc | rfl)
    (case c43 => first | k_is | k_exc | rfl)
    (case k43 => first | k_is | k_exc | rfl)
    (case a44 => first | k_is | k_exc | rfl)
    (case l44 => first | k_is | k_exc | rfl)
    (case c44 => first | k_is | k_exc | rfl)
    (case k44 => first | k_is | k_exc | rfl)
    (case a45 => first | k_is | k_exc | rfl)
    (case l45 => first | k_is | k_exc | rfl)
    (case c45 => first | k_is | k_exc | rfl)
    (case k45 => first | k_is | k_exc | rfl)
    (case z_len => first | k_is | k_exc | rfl)
    (case z_int => first | k_is | k_exc | rfl)
    (case z_abs => first | k_is | k_exc | rfl)
    (case z_range => first | k_is | k_exc | rfl)
    (case z_isinstance => first | k_is | k_exc | rfl)
    (case z_dict => first | k_is | k_exc | rfl)
    (case z_repr => first | k_is | k_exc | rfl)
    (case z_min => first | k_is | k_exc | rfl)
    (case z_sorted => first | k_is | k_exc | rfl)
    (case z_reversed => first | k_is | k_exc | rfl)
    (case z_sum => first | k_is | k_exc | rfl)
    (case q_MOST_RESERVE => first | k_is | k_exc | rfl)
    (case z_ZERO => first | k_is | k_exc | rfl)
    (case y_ZERO => first | k_is | k_exc | rfl)
    (case z_ONE => first | k_is | k_exc | rfl)
    (case y_ONE => first | k_is | k_exc | rfl)
    (case ex_C => first | k_is | k_exc | rfl)
    (case kp_C => first | k_is | k_exc | rfl)
    (case sub_C => first | k_is | k_exc | rfl)
    (case ty_C => first | k_is | k_exc | rfl)
    (case hg_C => first | k_is | k_exc | rfl)
    (case hk_C => first | k_is | k_exc | rfl)
    (case hd_C => first | k_is | k_exc | rfl)
    (case ha_C => first | k_is | k_exc | rfl)
    (case hn_C => first | k_is | k_exc | rfl)
    (case ht_C => first | k_is | k_exc | rfl)
    (case hm_C => first | k_is | k_exc | rfl)
    (case self_C => first | k_is | k_exc | rfl)
    (case pg_CC => first | k_is | k_exc | rfl)
    (case hd_CC => first | k_is | k_exc | rfl)
    (case po_CC => first | k_is | k_exc | rfl)
    (case sa_CC => first | k_is | k_exc | rfl)
    (case mk_CC => first | k_is | k_exc | rfl)
    (case kc_CC => first | k_is | k_exc | rfl)
    (case n_CC_low => first | k_is | k_exc | rfl)
    (case n_CC_parts => first | k_is | k_exc | rfl)
    (case n_CC_falls => first | k_is | k_exc | rfl)
    (case q_gcd => first | k_is | k_exc | rfl)
    (case q_lcm => first | k_is | k_exc | rfl)
    (case kk1 => first | k_is | k_exc | rfl)
    (case kk3 => first | k_is | k_exc | rfl)

