import PyProof.Rows.All
import Wide.All
import OpenK.AllK
import Wide.FinOn
import HandS.ForMost
import HandS.ForExc
import HandS.Wide
import HandS.WideBits
import HandS.Gcd
import HandS.IsInst
import HandS.ExcIs
import PyProof.ReprRoads
import HandS.More
import PyProof.ReprBulk
import PyProof.FitsInt
import HandS.TryOnly
import HandS.Flt
import HandS.RaiseMore
import HandS.Style
import HandS.SuiteRaise
import HandS.RaiseFrom
import PySem.Challenge.RW_lastcoffer_k50_tables_checked
set_option Elab.async false
set_option linter.all false
set_option maxRecDepth 100000
set_option maxHeartbeats 4000000
/-! Data upon the heap: what a body does, said of plain data. G is the published part (never written again), H all that is tracked. -/
namespace DL
open PySem L2
abbrev D := PyData

/-! ### data at a value -/
mutual
inductive Dd (K : PySem.W.Frag) (G : Hp) : V → D → Prop
  | non : Dd K G .non .none
  | bl (b : Bool) : Dd K G (.bl b) (.bool b)
  | int (i : Int) : Dd K G (.int i) (.int i)
  | str (x : Str) : Dd K G (.str x) (.str x)
  | lst {a : Addr} {xs : List V} {ds : List D} : G a = some (.lst xs) → Dds K G xs ds → Dd K G (.ref a) (.list ds)
  | tup {a : Addr} {xs : List V} {ds : List D} : SqT K G a xs → Dds K G xs ds → Dd K G (.ref a) (.tuple ds)
inductive Dds (K : PySem.W.Frag) (G : Hp) : List V → List D → Prop
  | nil : Dds K G [] []
  | cons {v : V} {vs : List V} {d : D} {ds : List D} : Dd K G v d → Dds K G vs ds → Dds K G (v :: vs) (d :: ds)
end
variable {K : PySem.W.Frag} {G G' G1 G2 H H' H1 H2 : Hp}

theorem sqT_mono {a : Addr} {xs : List V} (e : Same G G') (h : SqT K G a xs) : SqT K G' a xs := by
  rcases h with (h | ⟨o, h⟩) | h
  · exact .inl (.inl (e _ _ h))
  · exact .inl (.inr ⟨o, e _ _ h⟩)
  · exact .inr h
mutual
theorem Dd.mono (e : Same G G') : ∀ {v : V} {d : D}, Dd K G v d → Dd K G' v d
  | _, _, .non => .non
  | _, _, .bl b => .bl b
  | _, _, .int i => .int i
  | _, _, .str x => .str x
  | _, _, .lst h hs => .lst (e _ _ h) (hs.mono e)
  | _, _, .tup h hs => .tup (sqT_mono e h) (hs.mono e)
theorem Dds.mono (e : Same G G') : ∀ {vs : List V} {ds : List D}, Dds K G vs ds → Dds K G' vs ds
  | _, _, .nil => .nil
  | _, _, .cons h hs => .cons (h.mono e) (hs.mono e)
end
mutual
theorem Dd.dp : ∀ {v : V} {d : D}, Dd K G v d → Dp K G v d
  | _, _, .non => .non
  | _, _, .bl b => .bl b
  | _, _, .int i => .int i
  | _, _, .str x => .str x
  | _, _, .lst h hs => .lst (SqL.of h) hs.dp
  | _, _, .tup h hs => .tup h hs.dp
theorem Dds.dp : ∀ {vs : List V} {ds : List D}, Dds K G vs ds → DpAll K G vs ds
  | _, _, .nil => .nil
  | _, _, .cons h hs => .cons h.dp hs.dp
end
theorem Dds.len : ∀ {vs : List V} {ds : List D}, Dds K G vs ds → vs.length = ds.length
  | _, _, .nil => rfl
  | _, _, .cons _ hs => congrArg (· + 1) hs.len
theorem Dds.get : ∀ {vs : List V} {ds : List D} {i : Nat} {d : D}, Dds K G vs ds → ds[i]? = some d → ∃ v, vs[i]? = some v ∧ Dd K G v d
  | _, _, _, _, .nil, e => by simp at e
  | _, _, 0, _, .cons h _, e => ⟨_, rfl, by simp at e; subst e; exact h⟩
  | _, _, i + 1, d, .cons _ hs, e => by
    obtain ⟨v, h1, h2⟩ := hs.get (i := i) (d := d) (by simpa using e)
    exact ⟨v, by simpa using h1, h2⟩
theorem Dds.getV : ∀ {vs : List V} {ds : List D} {i : Nat} {v : V}, Dds K G vs ds → vs[i]? = some v → ∃ d, ds[i]? = some d ∧ Dd K G v d
  | _, _, _, _, .nil, e => by simp at e
  | _, _, 0, _, .cons h _, e => ⟨_, rfl, by simp at e; subst e; exact h⟩
  | _, _, i + 1, d, .cons _ hs, e => by
    obtain ⟨v, h1, h2⟩ := hs.getV (i := i) (v := d) (by simpa using e)
    exact ⟨v, by simpa using h1, h2⟩
theorem Dds.append : ∀ {vs ws : List V} {ds es : List D}, Dds K G vs ds → Dds K G ws es → Dds K G (vs ++ ws) (ds ++ es)
  | _, _, _, _, .nil, h => h
  | _, _, _, _, .cons a b, h => .cons a (b.append h)
theorem Dds.take (n : Nat) : ∀ {vs : List V} {ds : List D}, Dds K G vs ds → Dds K G (vs.take n) (ds.take n) := by
  induction n with
  | zero => intro vs ds _; simp; exact .nil
  | succ n ih =>
    intro vs ds h
    cases h with
    | nil => simp; exact .nil
    | cons a b => simp; exact .cons a (ih b)
theorem Dds.drop (n : Nat) : ∀ {vs : List V} {ds : List D}, Dds K G vs ds → Dds K G (vs.drop n) (ds.drop n) := by
  induction n with
  | zero => intro vs ds h; simpa using h
  | succ n ih =>
    intro vs ds h
    cases h with
    | nil => simp; exact .nil
    | cons a b => simpa using ih b
theorem Dds.set {v : V} {d : D} (hv : Dd K G v d) : ∀ {vs : List V} {ds : List D} (i : Nat), Dds K G vs ds → Dds K G (vs.set i v) (ds.set i d)
  | _, _, _, .nil => .nil
  | _, _, 0, .cons _ b => .cons hv b
  | _, _, i + 1, .cons a b => .cons a (Dds.set hv i b)
theorem Dd.int_inv {v : V} {i : Int} (h : Dd K G v (.int i)) : v = .int i := by cases h; rfl
theorem Dd.bl_inv {v : V} {b : Bool} (h : Dd K G v (.bool b)) : v = .bl b := by cases h; rfl
theorem Dd.str_inv {v : V} {x : Str} (h : Dd K G v (.str x)) : v = .str x := by cases h; rfl
theorem Dd.non_inv {v : V} (h : Dd K G v .none) : v = .non := by cases h; rfl
theorem Dd.tup_inv {v : V} {ds : List D} (h : Dd K G v (.tuple ds)) : ∃ a xs, v = .ref a ∧ SqT K G a xs ∧ Dds K G xs ds := by cases h with | tup a b => exact ⟨_, _, rfl, a, b⟩
theorem Dd.lst_inv {v : V} {ds : List D} (h : Dd K G v (.list ds)) : ∃ a xs, v = .ref a ∧ G a = some (.lst xs) ∧ Dds K G xs ds := by cases h with | lst a b => exact ⟨_, _, rfl, a, b⟩
theorem Dds.ints_inv : ∀ {vs : List V} {ns : List Int}, Dds K G vs (ns.map PyData.int) → vs = ns.map V.int
  | _, [], .nil => rfl
  | _, n :: ns, .cons h hs => by rw [h.int_inv, hs.ints_inv]; rfl
theorem Dds.ints : ∀ (ns : List Int), Dds K G (ns.map V.int) (ns.map PyData.int)
  | [] => .nil
  | n :: ns => .cons (.int n) (Dds.ints ns)
theorem Dds.bls_inv : ∀ {vs : List V} {ns : List Bool}, Dds K G vs (ns.map PyData.bool) → vs = ns.map V.bl
  | _, [], .nil => rfl
  | _, n :: ns, .cons h hs => by rw [h.bl_inv, hs.bls_inv]; rfl

/-! ### going on: G' publishes more, H' keeps all -/
structure Fw (G H G' H' : Hp) : Prop where
  gg : Same G G'
  gh : Same G' H'
  hh : Same H H'
  fr : ∀ l, H l ≠ none → G l = none → G' l = none
theorem Fw.refl (gh : Same G H) : Fw G H G H := ⟨Same.refl _, gh, Same.refl _, fun _ _ h => h⟩
theorem Fw.trans (a : Fw G H G1 H1) (b : Fw G1 H1 G2 H2) : Fw G H G2 H2 :=
  ⟨a.gg.trans b.gg, b.gh, a.hh.trans b.hh, fun l hl gl => b.fr l (fun z => hl (by
    cases q : H l with
    | none => rfl
    | some o => rw [a.hh l o q] at z; cases z)) (a.fr l hl gl)⟩
theorem same_upd {p : Addr} {o : HO} (h : H p = none) : Same H (upd H p o) := fun b x e => by
  rw [upd_ne (ne_of_none e h)]; exact e
theorem same_upd2 {p : Addr} {o : HO} (gh : Same G H) (h : G p = none) : Same G (upd H p o) := fun b x e => by
  rw [upd_ne (ne_of_none e h)]; exact gh _ _ e
/-- a new object, published at once -/
theorem Fw.new {p : Addr} {o : HO} (gh : Same G H) (h : H p = none) : Fw G H (upd G p o) (upd H p o) := by
  have hg : G p = none := gh.free h
  refine ⟨same_upd hg, fun b x e => ?_, same_upd h, fun l hl gl => ?_⟩
  · by_cases hb : b = p
    · subst hb; rw [upd_same] at e ⊢; exact e
    · rw [upd_ne hb] at e ⊢; exact gh _ _ e
  · rw [upd_ne (fun z => hl (by rw [z]; exact h))]; exact gl
/-- a new object, not published -/
theorem Fw.hid {p : Addr} {o : HO} (gh : Same G H) (h : H p = none) : Fw G H G (upd H p o) :=
  ⟨Same.refl _, same_upd2 gh (gh.free h), same_upd h, fun _ _ g => g⟩
/-- what stands hidden is published -/
theorem Fw.pub {p : Addr} {o : HO} (a : Fw G H G' H') (h : H p = none) (h' : H' p = some o) (g' : G' p = none) : Fw G H (upd G' p o) H' := by
  refine ⟨a.gg.trans (same_upd g'), fun b x e => ?_, a.hh, fun l hl gl => ?_⟩
  · by_cases hb : b = p
    · subst hb; rw [upd_same] at e; rw [h', e]
    · rw [upd_ne hb] at e; exact a.gh _ _ e
  · rw [upd_ne (fun z => hl (by rw [z]; exact h))]; exact a.fr l hl gl

/-! ### slots -/
inductive SD
  | un
  | dat (d : D)
  | ml (ds : List D)
  | md (kvs : List (Key × D))
  | raw (v : V)
  | scr (ns : List Int)
def SlOk (K : PySem.W.Frag) (G H : Hp) (o : Option V) : SD → Prop
  | .un => True
  | .dat d => ∃ v, o = some v ∧ Dd K G v d
  | .ml ds => ∃ l xs, o = some (.ref l) ∧ G l = none ∧ H l = some (.lst xs) ∧ Dds K G xs ds
  | .md kvs => ∃ l kv, o = some (.ref l) ∧ G l = none ∧ H l = some (.dK kv) ∧ kv.map (·.1) = kvs.map (·.1) ∧ Dds K G (kv.map (·.2)) (kvs.map (·.2))
  | .raw v => o = some v
  | .scr ns => ∃ a, o = some (.ref a) ∧ SqL K G a (ns.map V.int)
def SD.isMut : SD → Bool
  | .ml _ => true
  | .md _ => true
  | _ => false
abbrev EnvD := List SD
/-- the body's state: entered at G0, H0; now G, H; the slots are as env says -/
structure Ok (K : PySem.W.Frag) (G0 H0 G H : Hp) (σ : St) (env : EnvD) : Prop where
  gh : Same G H
  fw : Fw G0 H0 G H
  len : σ.length = env.length
  sl : ∀ (i : Nat) (s : SD), env[i]? = some s → ∃ o, σ[i]? = some o ∧ SlOk K G H o s
  fresh : ∀ (i : Nat) (s : SD) (l : Addr), env[i]? = some s → s.isMut = true → σ[i]? = some (some (.ref l)) → H0 l = none
  apart : ∀ (i j : Nat) (s t : SD) (l m : Addr), i ≠ j → env[i]? = some s → env[j]? = some t → s.isMut = true → t.isMut = true → σ[i]? = some (some (.ref l)) → σ[j]? = some (some (.ref m)) → l ≠ m
variable {G0 H0 : Hp} {σ σ' : St} {env env' : EnvD}

theorem SlOk.fw {o : Option V} {s : SD} (a : Fw G H G' H') (h : SlOk K G H o s) : SlOk K G' H' o s := by
  cases s with
  | un => trivial
  | dat d => obtain ⟨v, e, hd⟩ := h; exact ⟨v, e, hd.mono a.gg⟩
  | ml ds => obtain ⟨l, xs, e, g, hl, hs⟩ := h; exact ⟨l, xs, e, a.fr l (by rw [hl]; simp) g, a.hh _ _ hl, hs.mono a.gg⟩
  | md kvs => obtain ⟨l, kv, e, g, hl, hk, hs⟩ := h; exact ⟨l, kv, e, a.fr l (by rw [hl]; simp) g, a.hh _ _ hl, hk, hs.mono a.gg⟩
  | raw v => exact h
  | scr ns => obtain ⟨l, e, hl⟩ := h; exact ⟨l, e, a.gg.seq hl⟩
theorem Ok.go (ok : Ok K G0 H0 G H σ env) (a : Fw G H G' H') : Ok K G0 H0 G' H' σ env :=
  ⟨a.gh, ok.fw.trans a, ok.len, fun i s hi => let ⟨o, h1, h2⟩ := ok.sl i s hi; ⟨o, h1, h2.fw a⟩, ok.fresh, ok.apart⟩
theorem get_set {α : Type} {l : List α} {i j : Nat} {x y : α} (h : (l.set i x)[j]? = some y) : (i = j ∧ j < l.length ∧ y = x) ∨ (i ≠ j ∧ l[j]? = some y) := by
  by_cases e : i = j
  · subst e
    rw [List.getElem?_set_self'] at h
    cases q : l[i]? with
    | none => rw [q] at h; simp at h
    | some z =>
      rw [q] at h
      simp at h
      exact .inl ⟨rfl, (List.getElem?_eq_some_iff.mp q).1, h.symm⟩
  · rw [List.getElem?_set_ne e] at h
    exact .inr ⟨e, h⟩
/-- a slot is set; d is no mutable thing -/
theorem Ok.set (ok : Ok K G0 H0 G H σ env) (i : Nat) {v : V} {s : SD} (hm : s.isMut = false) (h : SlOk K G H (some v) s) : Ok K G0 H0 G H (σ.set i (some v)) (env.set i s) := by
  have hl := ok.len
  have key : ∀ (j : Nat) (t : SD) (l : Addr), (env.set i s)[j]? = some t → t.isMut = true → (σ.set i (some v))[j]? = some (some (.ref l)) → env[j]? = some t ∧ σ[j]? = some (some (.ref l)) := fun j t l ht hmt hj => by
    rcases get_set ht with ⟨e, _, e2⟩ | ⟨e, h2⟩
    · rw [e2, hm] at hmt; cases hmt
    · rcases get_set hj with ⟨e', _, _⟩ | ⟨_, h3⟩
      · exact absurd e' e
      · exact ⟨h2, h3⟩
  refine ⟨ok.gh, ok.fw, by rw [List.length_set, List.length_set]; exact hl, fun j t ht => ?_, fun j t l ht hmt hj => ?_, fun j k t u l m hjk ht hu hmt hmu hj hk => ?_⟩
  · rcases get_set ht with ⟨e, hj, e2⟩ | ⟨e, h2⟩
    · subst e2
      subst e
      refine ⟨some v, ?_, h⟩
      rw [List.getElem?_set_self (by omega)]
    · obtain ⟨o, h3, h4⟩ := ok.sl j t h2
      exact ⟨o, by rw [List.getElem?_set_ne e]; exact h3, h4⟩
  · obtain ⟨a, b⟩ := key j t l ht hmt hj
    exact ok.fresh j t l a hmt b
  · obtain ⟨a, b⟩ := key j t l ht hmt hj
    obtain ⟨c, d⟩ := key k u m hu hmu hk
    exact ok.apart j k t u l m hjk a c hmt hmu b d
/-- a slot is set to a new hidden object -/
theorem Ok.setMut (ok : Ok K G0 H0 G H σ env) (i : Nat) {p : Addr} {s : SD} (h : SlOk K G H (some (.ref p)) s) (h0 : H0 p = none)
    (ha : ∀ (j : Nat) (t : SD) (l : Addr), env[j]? = some t → t.isMut = true → σ[j]? = some (some (.ref l)) → l ≠ p) : Ok K G0 H0 G H (σ.set i (some (.ref p))) (env.set i s) := by
  have hl := ok.len
  have key : ∀ (j : Nat) (t : SD) (l : Addr), (env.set i s)[j]? = some t → t.isMut = true → (σ.set i (some (.ref p)))[j]? = some (some (.ref l)) → (i = j ∧ l = p) ∨ (i ≠ j ∧ env[j]? = some t ∧ σ[j]? = some (some (.ref l))) := fun j t l ht hmt hj => by
    rcases get_set ht with ⟨e, _, e2⟩ | ⟨e, h2⟩
    · rcases get_set hj with ⟨_, _, e3⟩ | ⟨e', _⟩
      · injection e3 with e3; injection e3 with e3; exact .inl ⟨e, e3⟩
      · exact absurd e e'
    · rcases get_set hj with ⟨e', _, _⟩ | ⟨_, h3⟩
      · exact absurd e' e
      · exact .inr ⟨e, h2, h3⟩
  refine ⟨ok.gh, ok.fw, by rw [List.length_set, List.length_set]; exact hl, fun j t ht => ?_, fun j t l ht hmt hj => ?_, fun j k t u l m hjk ht hu hmt hmu hj hk => ?_⟩
  · rcases get_set ht with ⟨e, hj, e2⟩ | ⟨e, h2⟩
    · subst e2
      subst e
      refine ⟨some (.ref p), ?_, h⟩
      rw [List.getElem?_set_self (by omega)]
    · obtain ⟨o, h3, h4⟩ := ok.sl j t h2
      exact ⟨o, by rw [List.getElem?_set_ne e]; exact h3, h4⟩
  · rcases key j t l ht hmt hj with ⟨_, e⟩ | ⟨_, a, b⟩
    · rw [e]; exact h0
    · exact ok.fresh j t l a hmt b
  · rcases key j t l ht hmt hj with ⟨e1, e⟩ | ⟨_, a, b⟩
    · rcases key k u m hu hmu hk with ⟨e2, e'⟩ | ⟨_, c, d⟩
      · exact absurd (e1.symm.trans e2) hjk
      · rw [e]; exact (ha k u m c hmu d).symm
    · rcases key k u m hu hmu hk with ⟨e2, e'⟩ | ⟨_, c, d⟩
      · rw [e']; exact ha j t l a hmt b
      · exact ok.apart j k t u l m hjk a c hmt hmu b d
theorem Ok.mutAt (ok : Ok K G0 H0 G H σ env) {j : Nat} {t : SD} {l : Addr} (h : env[j]? = some t) (hm : t.isMut = true) (hj : σ[j]? = some (some (.ref l))) : G l = none ∧ H l ≠ none := by
  obtain ⟨o, h1, h2⟩ := ok.sl j t h
  rw [hj] at h1
  cases h1
  cases t with
  | ml ds => obtain ⟨l', xs, e, g, hl, _⟩ := h2; cases e; exact ⟨g, by rw [hl]; simp⟩
  | md kvs => obtain ⟨l', xs, e, g, hl, _⟩ := h2; cases e; exact ⟨g, by rw [hl]; simp⟩
  | un => cases hm
  | dat _ => cases hm
  | raw _ => cases hm
  | scr _ => cases hm
/-- the hidden object of slot i is written -/
theorem Ok.write (ok : Ok K G0 H0 G H σ env) {i : Nat} {s t : SD} {l : Addr} {o : HO} (hi : env[i]? = some s) (hm : s.isMut = true) (hs : σ[i]? = some (some (.ref l))) (ht : SlOk K G (upd H l o) (some (.ref l)) t) (hmt : t.isMut = true) : Ok K G0 H0 G (upd H l o) σ (env.set i t) := by
  obtain ⟨gl, hl⟩ := ok.mutAt hi hm hs
  have h0 := ok.fresh i s l hi hm hs
  have mutKey : ∀ (j : Nat) (u : SD) (m : Addr), (env.set i t)[j]? = some u → u.isMut = true → ∃ u', env[j]? = some u' ∧ u'.isMut = true := fun j u m hu hmu => by
    rcases get_set hu with ⟨e, _, _⟩ | ⟨_, h2⟩
    · exact ⟨s, by rw [← e]; exact hi, hm⟩
    · exact ⟨u, h2, hmu⟩
  refine ⟨same_upd2 ok.gh gl, ⟨ok.fw.gg, same_upd2 ok.gh gl, fun b x e => ?_, ok.fw.fr⟩, by rw [List.length_set]; exact ok.len, fun j u hu => ?_, fun j u m hu hmu hj => ?_, fun j k u v m n hjk hu hv hmu hmv hj hk => ?_⟩
  · rw [upd_ne (ne_of_none e h0)]; exact ok.fw.hh _ _ e
  · rcases get_set hu with ⟨e, _, e2⟩ | ⟨e, h2⟩
    · subst e2; subst e
      exact ⟨_, hs, ht⟩
    · obtain ⟨ov, h3, h4⟩ := ok.sl j u h2
      refine ⟨ov, h3, ?_⟩
      cases u with
      | un => trivial
      | dat d => exact h4
      | raw v => exact h4
      | scr ns => exact h4
      | ml ds =>
        obtain ⟨m, xs, e1, g, hm', hd⟩ := h4
        subst e1
        have ne : m ≠ l := ok.apart j i _ _ m l (Ne.symm e) h2 hi rfl hm h3 hs
        exact ⟨m, xs, rfl, g, by rw [upd_ne ne]; exact hm', hd⟩
      | md kvs =>
        obtain ⟨m, xs, e1, g, hm', hk, hd⟩ := h4
        subst e1
        have ne : m ≠ l := ok.apart j i _ _ m l (Ne.symm e) h2 hi rfl hm h3 hs
        exact ⟨m, xs, rfl, g, by rw [upd_ne ne]; exact hm', hk, hd⟩
  · obtain ⟨u', h1, h2⟩ := mutKey j u m hu hmu
    exact ok.fresh j u' m h1 h2 hj
  · obtain ⟨u', h1, h2⟩ := mutKey j u m hu hmu
    obtain ⟨v', h3, h4⟩ := mutKey k v n hv hmv
    exact ok.apart j k u' v' m n hjk h1 h3 h2 h4 hj hk
/-- a hidden list of slot i is published -/
theorem Ok.publish (ok : Ok K G0 H0 G H σ env) {i : Nat} {ds : List D} (hi : env[i]? = some (.ml ds)) : ∃ G', Ok K G0 H0 G' H σ (env.set i (.dat (.list ds))) := by
  obtain ⟨o, h1, l, xs, e, gl, hl, hd⟩ := ok.sl i _ hi
  subst e
  have h0 := ok.fresh i _ l hi rfl h1
  have fw2 : Fw G0 H0 (upd G l (.lst xs)) H := Fw.pub ok.fw h0 hl gl
  refine ⟨upd G l (.lst xs), fw2.gh, fw2, by rw [List.length_set]; exact ok.len, fun j u hu => ?_, fun j u m hu hmu hj => ?_, fun j k u v m n hjk hu hv hmu hmv hj hk => ?_⟩
  · rcases get_set hu with ⟨e, _, e2⟩ | ⟨e, h2⟩
    · subst e2; subst e
      exact ⟨_, h1, _, rfl, .lst upd_same (hd.mono (same_upd gl))⟩
    · obtain ⟨ov, h3, h4⟩ := ok.sl j u h2
      refine ⟨ov, h3, ?_⟩
      cases u with
      | un => trivial
      | raw v => exact h4
      | scr ns => obtain ⟨m, e1, hv⟩ := h4; exact ⟨m, e1, (same_upd gl).seq hv⟩
      | dat d => obtain ⟨v, e1, hv⟩ := h4; exact ⟨v, e1, hv.mono (same_upd gl)⟩
      | ml es =>
        obtain ⟨m, ys, e1, g, hm', hd'⟩ := h4
        subst e1
        have ne : m ≠ l := ok.apart j i _ _ m l (Ne.symm e) h2 hi rfl rfl h3 h1
        exact ⟨m, ys, rfl, by rw [upd_ne ne]; exact g, hm', hd'.mono (same_upd gl)⟩
      | md kvs =>
        obtain ⟨m, ys, e1, g, hm', hk, hd'⟩ := h4
        subst e1
        have ne : m ≠ l := ok.apart j i _ _ m l (Ne.symm e) h2 hi rfl rfl h3 h1
        exact ⟨m, ys, rfl, by rw [upd_ne ne]; exact g, hm', hk, hd'.mono (same_upd gl)⟩
  · rcases get_set hu with ⟨_, _, e2⟩ | ⟨e, h2⟩
    · subst e2; cases hmu
    · exact ok.fresh j u m h2 hmu hj
  · rcases get_set hu with ⟨_, _, e2⟩ | ⟨e, h2⟩
    · subst e2; cases hmu
    · rcases get_set hv with ⟨_, _, e3⟩ | ⟨e', h3⟩
      · subst e3; cases hmv
      · exact ok.apart j k u v m n hjk h2 h3 hmu hmv hj hk
end DL

/-! What expressions, targets, iterators and statements do, said of plain data. -/
namespace DL
open PySem L2
variable {K : PySem.W.Frag} {E : XK} {env env' e1 e2 : EnvD}

/-! ### judgements -/
def EvD (K : PySem.W.Frag) (te : TE) (env : EnvD) (d : D) : Prop := ∀ (G0 H0 G H : Hp) (σ : L2.St), Ok K G0 H0 G H σ env → ∀ Q : VK, (∀ v G' H', Fw G H G' H' → Dd K G' v d → Q v H') → te σ H Q
/-- data that need not be published -/
def EvP (K : PySem.W.Frag) (te : TE) (env : EnvD) (d : D) : Prop := ∀ (G0 H0 G H : Hp) (σ : L2.St), Ok K G0 H0 G H σ env → ∀ Q : VK, (∀ v G' H', Fw G H G' H' → Dd K H' v d → Q v H') → te σ H Q
/-- a new list -/
def EvN (K : PySem.W.Frag) (te : TE) (env : EnvD) (ds : List D) : Prop := ∀ (G0 H0 G H : Hp) (σ : L2.St), Ok K G0 H0 G H σ env → ∀ Q : VK,
  (∀ p xs G' H', Fw G H G' H' → H p = none → G' p = none → H' p = some (.lst xs) → Dds K G' xs ds → Q (.ref p) H') → te σ H Q
def EvT (K : PySem.W.Frag) (tt : TT) (env : EnvD) (b : Bool) : Prop := ∀ (G0 H0 G H : Hp) (σ : L2.St), Ok K G0 H0 G H σ env → ∀ Q : Bool → Hp → Prop, (∀ G' H', Fw G H G' H' → Q b H') → tt σ H Q
inductive Args (K : PySem.W.Frag) (G H : Hp) : List V → List SD → Prop
  | nil : Args K G H [] []
  | cons {v : V} {vs : List V} {s : SD} {ss : List SD} : s.isMut = false → SlOk K G H (some v) s → Args K G H vs ss → Args K G H (v :: vs) (s :: ss)
theorem Args.fw {G H G' H' : Hp} (a : Fw G H G' H') : ∀ {vs : List V} {ss : List SD}, Args K G H vs ss → Args K G' H' vs ss
  | _, _, .nil => .nil
  | _, _, .cons m h hs => .cons m (h.fw a) (hs.fw a)
theorem Args.len {G H : Hp} : ∀ {vs : List V} {ss : List SD}, Args K G H vs ss → vs.length = ss.length
  | _, _, .nil => rfl
  | _, _, .cons _ _ hs => congrArg (· + 1) hs.len
def EvA (K : PySem.W.Frag) (ta : TA) (env : EnvD) (ss : List SD) : Prop := ∀ (G0 H0 G H : Hp) (σ : L2.St), Ok K G0 H0 G H σ env → ∀ Q : List V → Hp → Prop, (∀ vs G' H', Fw G H G' H' → Args K G' H' vs ss → Q vs H') → ta σ H Q
/-- the exact value, nothing made -/
def EvV (K : PySem.W.Frag) (te : TE) (env : EnvD) (s : SD) : Prop := ∀ (G0 H0 G H : Hp) (σ : L2.St), Ok K G0 H0 G H σ env → ∀ Q : VK, (∀ v G' H', Fw G H G' H' → SlOk K G' H' (some v) s → Q v H') → te σ H Q

theorem EvN.d {te : TE} {ds : List D} (h : EvN K te env ds) : EvD K te env (.list ds) := fun G0 H0 G H σ ok Q q =>
  h G0 H0 G H σ ok Q fun p xs G' H' a hp g' h' hs => q _ _ _ (Fw.pub a hp h' g') (.lst upd_same (hs.mono (same_upd g')))
theorem EvD.p {te : TE} {d : D} (h : EvD K te env d) : EvP K te env d := fun G0 H0 G H σ ok Q q => h G0 H0 G H σ ok Q fun v G' H' a hd => q v G' H' a (hd.mono a.gh)
theorem EvN.p {te : TE} {ds : List D} (h : EvN K te env ds) : EvP K te env (.list ds) := h.d.p
theorem EvD.v {te : TE} {d : D} (h : EvD K te env d) : EvV K te env (.dat d) := fun G0 H0 G H σ ok Q q => h G0 H0 G H σ ok Q fun v G' H' a hd => q v G' H' a ⟨v, rfl, hd⟩
theorem EvD.is {te : TE} {d d' : D} (h : EvD K te env d) (e : d = d') : EvD K te env d' := e ▸ h
theorem EvN.is {te : TE} {d d' : List D} (h : EvN K te env d) (e : d = d') : EvN K te env d' := e ▸ h
theorem EvT.is {te : TT} {d d' : Bool} (h : EvT K te env d) (e : d = d') : EvT K te env d' := e ▸ h

/-! ### names, constants -/
theorem ed_var {d : D} (i : Nat) (h : env[i]? = some (.dat d) := by rfl) : EvD K (tVar i) env d := fun G0 H0 G H σ ok Q q => by
  obtain ⟨o, h1, v, e, hd⟩ := ok.sl i _ h
  subst e
  exact ⟨v, h1, q v G H (Fw.refl ok.gh) hd⟩
theorem ep_var {ds : List D} (i : Nat) (h : env[i]? = some (.ml ds) := by rfl) : EvP K (tVar i) env (.list ds) := fun G0 H0 G H σ ok Q q => by
  obtain ⟨o, h1, l, xs, e, g, hl, hd⟩ := ok.sl i _ h
  subst e
  exact ⟨_, h1, q _ G H (Fw.refl ok.gh) (.lst hl (hd.mono ok.gh))⟩
theorem ev_raw {v : V} (i : Nat) (h : env[i]? = some (.raw v) := by rfl) : EvV K (tVar i) env (.raw v) := fun G0 H0 G H σ ok Q q => by
  obtain ⟨o, h1, e⟩ := ok.sl i _ h
  exact ⟨v, by rw [h1, show o = some v from e], q v G H (Fw.refl ok.gh) rfl⟩
theorem ed_int (n : Int) : EvD K (tC (.int n)) env (.int n) := fun _ _ G H _ ok _ q => q _ G H (Fw.refl ok.gh) (.int n)
theorem ed_bl (n : Bool) : EvD K (tC (.bl n)) env (.bool n) := fun _ _ G H _ ok _ q => q _ G H (Fw.refl ok.gh) (.bl n)
theorem ed_str (x : Str) : EvD K (tC (.str x)) env (.str x) := fun _ _ G H _ ok _ q => q _ G H (Fw.refl ok.gh) (.str x)
theorem ed_non : EvD K (tC .non) env .none := fun _ _ G H _ ok _ q => q _ G H (Fw.refl ok.gh) .non
/-- a constant of the written part -/
theorem ed_con {v : V} {d : D} (h : ∀ G : Hp, Dd K G v d) : EvD K (tC v) env d := fun _ _ G H _ ok _ q => q _ G H (Fw.refl ok.gh) (h G)

/-! ### operators -/
section
variable {ta tb tc : TE} {i j : Int} {x y : D}
theorem ed_2 {r : R2} {z : D} (ha : EvD K ta env x) (hb : EvD K tb env y) (hr : ∀ (v u : V) (G H : Hp), Same G H → Dd K G v x → Dd K G u y → ∀ Q : VK, (∀ w, Dd K G w z → Q w H) → r v u H Q) : EvD K (tOp r ta tb) env z :=
  fun G0 H0 G H σ ok Q q => ha G0 H0 G H σ ok _ fun v G1 H1 a1 hv => hb G0 H0 G1 H1 σ (ok.go a1) _ fun u G2 H2 a2 hu => hr v u G2 H2 a2.gh (hv.mono a2.gg) hu Q fun w hw => q w G2 H2 (a1.trans a2) hw
theorem ed_I {C : Int → Int → Prop} {g : Int → Int → Int} (ha : EvD K ta env (.int i)) (hb : EvD K tb env (.int j)) (hc : C i j) : EvD K (tOp (rI C fun i j => .int (g i j)) ta tb) env (.int (g i j)) :=
  ed_2 ha hb fun v u G H _ hv hu Q q => ⟨i, j, hv.int_inv, hu.int_inv, hc, q _ (.int _)⟩
theorem ed_I0 {g : Int → Int → Int} (ha : EvD K ta env (.int i)) (hb : EvD K tb env (.int j)) : EvD K (tOp (rI0 fun i j => .int (g i j)) ta tb) env (.int (g i j)) :=
  ed_2 ha hb fun v u G H _ hv hu Q q => ⟨i, j, hv.int_inv, hu.int_inv, q _ (.int _)⟩
theorem ed_B0 {g : Int → Int → Bool} (ha : EvD K ta env (.int i)) (hb : EvD K tb env (.int j)) : EvD K (tOp (rI0 fun i j => .bl (g i j)) ta tb) env (.bool (g i j)) :=
  ed_2 ha hb fun v u G H _ hv hu Q q => ⟨i, j, hv.int_inv, hu.int_inv, q _ (.bl _)⟩
theorem dec_int {i j : Int} : decide ((V.int i) = V.int j) = decide (i = j) := by
  by_cases h : i = j
  · subst h; simp
  · rw [decide_eq_false h, decide_eq_false (fun z => h (V.int.inj z))]
theorem dec_bl {i j : Bool} : decide ((V.bl i) = V.bl j) = decide (i = j) := by
  by_cases h : i = j
  · subst h; simp
  · rw [decide_eq_false h, decide_eq_false (fun z => h (V.bl.inj z))]
theorem dec_str {i j : Str} : decide ((V.str i) = V.str j) = decide (i = j) := by
  by_cases h : i = j
  · subst h; simp
  · rw [decide_eq_false h, decide_eq_false (fun z => h (V.str.inj z))]
theorem ed_eqI (ha : EvD K ta env (.int i)) (hb : EvD K tb env (.int j)) : EvD K (tOp rEq ta tb) env (.bool (decide (i = j))) :=
  ed_2 ha hb fun v u G H _ hv hu Q q => by rw [hv.int_inv, hu.int_inv]; exact ⟨rfl, by rw [dec_int]; exact q _ (.bl _)⟩
theorem ed_neI (ha : EvD K ta env (.int i)) (hb : EvD K tb env (.int j)) : EvD K (tOp rNe ta tb) env (.bool (!decide (i = j))) :=
  ed_2 ha hb fun v u G H _ hv hu Q q => by rw [hv.int_inv, hu.int_inv]; exact ⟨rfl, by rw [dec_int]; exact q _ (.bl _)⟩
theorem ed_eqB {i j : Bool} (ha : EvD K ta env (.bool i)) (hb : EvD K tb env (.bool j)) : EvD K (tOp rEq ta tb) env (.bool (decide (i = j))) :=
  ed_2 ha hb fun v u G H _ hv hu Q q => by rw [hv.bl_inv, hu.bl_inv]; exact ⟨rfl, by rw [dec_bl]; exact q _ (.bl _)⟩
theorem ed_neB {i j : Bool} (ha : EvD K ta env (.bool i)) (hb : EvD K tb env (.bool j)) : EvD K (tOp rNe ta tb) env (.bool (!decide (i = j))) :=
  ed_2 ha hb fun v u G H _ hv hu Q q => by rw [hv.bl_inv, hu.bl_inv]; exact ⟨rfl, by rw [dec_bl]; exact q _ (.bl _)⟩
theorem ed_eqS {i j : Str} (ha : EvD K ta env (.str i)) (hb : EvD K tb env (.str j)) : EvD K (tOp rEq ta tb) env (.bool (decide (i = j))) :=
  ed_2 ha hb fun v u G H _ hv hu Q q => by rw [hv.str_inv, hu.str_inv]; exact ⟨rfl, by rw [dec_str]; exact q _ (.bl _)⟩
theorem ed_neS {i j : Str} (ha : EvD K ta env (.str i)) (hb : EvD K tb env (.str j)) : EvD K (tOp rNe ta tb) env (.bool (!decide (i = j))) :=
  ed_2 ha hb fun v u G H _ hv hu Q q => by rw [hv.str_inv, hu.str_inv]; exact ⟨rfl, by rw [dec_str]; exact q _ (.bl _)⟩
theorem ep_2 {r : R2} {z : D} (ha : EvP K ta env x) (hb : EvP K tb env y) (hr : ∀ (v u : V) (H : Hp), Dd K H v x → Dd K H u y → ∀ Q : VK, (∀ w, (∀ G, Dd K G w z) → Q w H) → r v u H Q) : EvD K (tOp r ta tb) env z :=
  fun G0 H0 G H σ ok Q q => ha G0 H0 G H σ ok _ fun v G1 H1 a1 hv => hb G0 H0 G1 H1 σ (ok.go a1) _ fun u G2 H2 a2 hu => hr v u H2 (hv.mono a2.hh) hu Q fun w hw => q w G2 H2 (a1.trans a2) (hw G2)
/-- data compared -/
theorem ed_eqD (ha : EvP K ta env x) (hb : EvP K tb env y) (hx : SeqAt.shaped x = true) (hy : SeqAt.shaped y = true) : EvD K (tOp (rEqD K) ta tb) env (.bool (PyData.eqv x y)) :=
  ep_2 ha hb fun v u H hv hu Q q => ⟨x, y, hv.dp, hu.dp, hx, hy, q _ fun _ => .bl _⟩
theorem ed_neD (ha : EvP K ta env x) (hb : EvP K tb env y) (hx : SeqAt.shaped x = true) (hy : SeqAt.shaped y = true) : EvD K (tOp (rNeD K) ta tb) env (.bool (!PyData.eqv x y)) :=
  ep_2 ha hb fun v u H hv hu Q q => ⟨x, y, hv.dp, hu.dp, hx, hy, q _ fun _ => .bl _⟩
theorem ed_neg (ha : EvD K ta env (.int i)) : EvD K (tUn (rU fun i => .int (-i)) ta) env (.int (-i)) := fun G0 H0 G H σ ok Q q =>
  ha G0 H0 G H σ ok _ fun v G1 H1 a hv => ⟨i, hv.int_inv, q _ G1 H1 a (.int _)⟩
/-- items -/
theorem ed_ixT {ds : List D} {z : D} (ha : EvD K ta env (.tuple ds)) (hb : EvD K tb env (.int i)) (hz : atI ds i = some z) : EvD K (tOp (rIxT K) ta tb) env z :=
  ed_2 ha hb fun v u G H gh hv hu Q q => by
    obtain ⟨a, xs, e, hs, hd⟩ := hv.tup_inv
    subst e
    unfold atI at hz
    cases hk : ixN ds.length i with
    | none => rw [hk] at hz; cases hz
    | some k =>
      rw [hk] at hz
      obtain ⟨w, h1, h2⟩ := hd.get (i := k) (d := z) hz
      exact ⟨a, xs, i, w, rfl, hu.int_inv, sqT_mono gh hs, by unfold atI; rw [hd.len, hk]; exact h1, q w h2⟩
theorem ed_ixL {ds : List D} {z : D} (ha : EvD K ta env (.list ds)) (hb : EvD K tb env (.int i)) (hz : atI ds i = some z) : EvD K (tOp (rIxL K) ta tb) env z :=
  ed_2 ha hb fun v u G H gh hv hu Q q => by
    obtain ⟨a, xs, e, hs, hd⟩ := hv.lst_inv
    subst e
    unfold atI at hz
    cases hk : ixN ds.length i with
    | none => rw [hk] at hz; cases hz
    | some k =>
      rw [hk] at hz
      obtain ⟨w, h1, h2⟩ := hd.get (i := k) (d := z) hz
      exact ⟨a, xs, i, w, rfl, hu.int_inv, .inl (.inl (gh _ _ hs)), by unfold atI; rw [hd.len, hk]; exact h1, q w h2⟩
end
/-- an item of a hidden list -/
theorem ed_ixM {tb : TE} {m : Nat} {i : Int} {ds : List D} {z : D} (h : env[m]? = some (.ml ds)) (hb : EvD K tb env (.int i)) (hz : atI ds i = some z) : EvD K (tOp (rIxL K) (tVar m) tb) env z :=
  fun G0 H0 G H σ ok Q q => by
    obtain ⟨o, h1, l, xs, e, g, hl, hd⟩ := ok.sl m _ h
    subst e
    refine ⟨_, h1, hb G0 H0 G H σ ok _ fun u G1 H1 a hu => ?_⟩
    unfold atI at hz
    cases hk : ixN ds.length i with
    | none => rw [hk] at hz; cases hz
    | some k =>
      rw [hk] at hz
      obtain ⟨w, h1, h2⟩ := hd.get (i := k) (d := z) hz
      exact ⟨l, xs, i, w, rfl, hu.int_inv, .inl (.inl (a.hh _ _ hl)), by unfold atI; rw [hd.len, hk]; exact h1, q w G1 H1 a (h2.mono a.gg)⟩

/-! ### displays, arguments, calls -/
section
variable {ta tb tc te : TE} {t : TA} {s : SD} {ss : List SD}
theorem ea_nil : EvA K tNil env [] := fun _ _ G H _ ok _ q => q [] G H (Fw.refl ok.gh) .nil
theorem ea_cons (h : EvV K ta env s) (hm : s.isMut = false) (hs : EvA K t env ss) : EvA K (tCons ta t) env (s :: ss) := fun G0 H0 G H σ ok Q q =>
  h G0 H0 G H σ ok _ fun v G1 H1 a1 hv => hs G0 H0 G1 H1 σ (ok.go a1) _ fun vs G2 H2 a2 hvs => q _ G2 H2 (a1.trans a2) (.cons hm (hv.fw a2) hvs)
theorem ea_d {d : D} (h : EvD K ta env d) (hs : EvA K t env ss) : EvA K (tCons ta t) env (.dat d :: ss) := ea_cons h.v rfl hs
theorem Args.dds {G H : Hp} : ∀ {vs : List V} {ds : List D}, Args K G H vs (ds.map SD.dat) → Dds K G vs ds
  | _, [], .nil => .nil
  | _, d :: ds, .cons _ h hs => by
    obtain ⟨v, e, hd⟩ := h
    cases e
    exact .cons hd hs.dds
theorem ed_tup {ds : List D} (h : EvA K t env (ds.map SD.dat)) (hl : Nat.ble ds.length 1000 = true := by rfl) : EvD K (tTup t) env (.tuple ds) := fun G0 H0 G H σ ok Q q =>
  h G0 H0 G H σ ok _ fun vs G1 H1 a hv => ⟨by rw [hv.dds.len]; exact Nat.le_of_lt (small1000 (Nat.le_of_ble_eq_true hl)), fun p hp => q _ _ _ (a.trans (Fw.new a.gh hp)) (.tup (SqT.of upd_same) (hv.dds.mono (same_upd (a.gh.free hp))))⟩
theorem en_lst {ds : List D} (h : EvA K t env (ds.map SD.dat)) (hl : Nat.ble ds.length 1000 = true := by rfl) : EvN K (tLst t) env ds := fun G0 H0 G H σ ok Q q =>
  h G0 H0 G H σ ok _ fun vs G1 H1 a hv => ⟨by rw [hv.dds.len]; exact Nat.le_of_lt (small1000 (Nat.le_of_ble_eq_true hl)), fun p hp => q p vs G1 _ (a.trans (Fw.hid a.gh hp)) (by
    cases z : H p with
    | none => rfl
    | some o => rw [a.hh _ _ z] at hp; cases hp) (a.gh.free hp) upd_same hv.dds⟩
/-- built-in calls by values -/
theorem ed_CB {r : List V → Hp → VK → Prop} {z : D} (h : EvA K t env ss) (hr : ∀ (vs : List V) (G H : Hp), Same G H → Args K G H vs ss → ∀ Q : VK, (∀ w, Dd K G w z → Q w H) → r vs H Q) : EvD K (tCB r t) env z := fun G0 H0 G H σ ok Q q =>
  h G0 H0 G H σ ok _ fun vs G1 H1 a hv => hr vs G1 H1 a.gh hv Q fun w hw => q w G1 H1 a hw
theorem args1 {G H : Hp} {vs : List V} {d : D} (h : Args K G H vs [.dat d]) : ∃ v, vs = [v] ∧ Dd K G v d := by
  cases h with
  | cons _ h hs => cases hs; obtain ⟨v, e, hd⟩ := h; cases e; exact ⟨_, rfl, hd⟩
theorem args2 {G H : Hp} {vs : List V} {d e : D} (h : Args K G H vs [.dat d, .dat e]) : ∃ v u, vs = [v, u] ∧ Dd K G v d ∧ Dd K G u e := by
  cases h with
  | cons _ h hs =>
    obtain ⟨v, e, hd⟩ := h; cases e
    cases hs with
    | cons _ h hs => cases hs; obtain ⟨u, e, he⟩ := h; cases e; exact ⟨_, _, rfl, hd, he⟩
theorem ed_int1 {i : Int} (h : EvD K ta env (.int i)) : EvD K (tCB (fun xs H Q => (∃ i, xs = [.int i] ∧ Q (.int i) H) ∨ ∃ k, xs = [.bl k] ∧ Q (.int (if k then 1 else 0)) H) (tCons ta tNil)) env (.int i) :=
  ed_CB (ea_d h ea_nil) fun vs G H _ hv Q q => by
    obtain ⟨v, rfl, hd⟩ := args1 hv
    rw [hd.int_inv]
    exact .inl ⟨i, rfl, q _ (.int i)⟩
theorem ed_abs {i : Int} (h : EvD K ta env (.int i)) : EvD K (tCB (fun xs H Q => ∃ i, xs = [.int i] ∧ Q (.int (if i < 0 then -i else i)) H) (tCons ta tNil)) env (.int (if i < 0 then -i else i)) :=
  ed_CB (ea_d h ea_nil) fun vs G H _ hv Q q => by
    obtain ⟨v, rfl, hd⟩ := args1 hv
    rw [hd.int_inv]
    exact ⟨i, rfl, q _ (.int _)⟩
theorem ed_min2 {i j : Int} (h : EvD K ta env (.int i)) (h' : EvD K tb env (.int j)) : EvD K (tCB (fun xs H Q => ∃ i j, xs = [.int i, .int j] ∧ Q (.int (if j < i then j else i)) H) (tCons ta (tCons tb tNil))) env (.int (if j < i then j else i)) :=
  ed_CB (ea_d h (ea_d h' ea_nil)) fun vs G H _ hv Q q => by
    obtain ⟨v, u, rfl, hd, he⟩ := args2 hv
    rw [hd.int_inv, he.int_inv]
    exact ⟨i, j, rfl, q _ (.int _)⟩
theorem ed_max2 {i j : Int} (h : EvD K ta env (.int i)) (h' : EvD K tb env (.int j)) : EvD K (tCB (fun xs H Q => ∃ i j, xs = [.int i, .int j] ∧ Q (.int (if j > i then j else i)) H) (tCons ta (tCons tb tNil))) env (.int (if j > i then j else i)) :=
  ed_CB (ea_d h (ea_d h' ea_nil)) fun vs G H _ hv Q q => by
    obtain ⟨v, u, rfl, hd, he⟩ := args2 hv
    rw [hd.int_inv, he.int_inv]
    exact ⟨i, j, rfl, q _ (.int _)⟩
theorem ed_gcd {i j : Int} (h : EvD K ta env (.int i)) (h' : EvD K tb env (.int j)) : EvD K (tCB rGcd (tCons ta (tCons tb tNil))) env (.int ((Nat.gcd i.natAbs j.natAbs : Nat) : Int)) :=
  ed_CB (ea_d h (ea_d h' ea_nil)) fun vs G H _ hv Q q => by
    obtain ⟨v, u, rfl, hd, he⟩ := args2 hv
    rw [hd.int_inv, he.int_inv]
    exact ⟨i, j, rfl, q _ (.int _)⟩
theorem ed_bits {i : Int} (h : EvD K ta env (.int i)) : EvD K (tBits ta) env (.int (Builtin.Int.intBits i : Nat)) := fun G0 H0 G H σ ok Q q =>
  h G0 H0 G H σ ok _ fun v G1 H1 a hv => ⟨i, hv.int_inv, q _ G1 H1 a (.int _)⟩
/-- len of data -/
theorem ed_lenL {ds : List D} (h : EvP K ta env (.list ds)) : EvD K (tCB (fun xs H Q => ∃ p ys, xs = [.ref p] ∧ (SqL K H p ys ∨ SqT K H p ys) ∧ Q (.int ys.length) H) (tCons ta tNil)) env (.int ds.length) := fun G0 H0 G H σ ok Q q =>
  h G0 H0 G H σ ok _ fun v G1 H1 a hv => by
    obtain ⟨p, xs, e, hs, hd⟩ := hv.lst_inv
    subst e
    exact ⟨p, xs, rfl, .inl (SqL.of hs), by rw [hd.len]; exact q _ G1 H1 a (.int _)⟩
theorem ed_lenT {ds : List D} (h : EvP K ta env (.tuple ds)) : EvD K (tCB (fun xs H Q => ∃ p ys, xs = [.ref p] ∧ (SqL K H p ys ∨ SqT K H p ys) ∧ Q (.int ys.length) H) (tCons ta tNil)) env (.int ds.length) := fun G0 H0 G H σ ok Q q =>
  h G0 H0 G H σ ok _ fun v G1 H1 a hv => by
    obtain ⟨p, xs, e, hs, hd⟩ := hv.tup_inv
    subst e
    exact ⟨p, xs, rfl, .inr hs, by rw [hd.len]; exact q _ G1 H1 a (.int _)⟩

/-! ### promises -/
variable {α : Type} {fs : α → List SD} {pre : α → Prop} {f : α → D} {fl : α → List D} {fo : α → Option D} {C : Value} {E' : XK}
/-- hands back data -/
def SpD (K : PySem.W.Frag) (fs : α → List SD) (pre : α → Prop) (f : α → D) : Sp := fun vs H Q _ => ∃ (x : α) (G : Hp), Same G H ∧ Args K G H vs (fs x) ∧ pre x ∧ ∀ v G' H', Fw G H G' H' → Dd K G' v (f x) → Q v H'
/-- hands back a new list -/
def SpN (K : PySem.W.Frag) (fs : α → List SD) (pre : α → Prop) (fl : α → List D) : Sp := fun vs H Q _ => ∃ (x : α) (G : Hp), Same G H ∧ Args K G H vs (fs x) ∧ pre x ∧
  ∀ p xs G' H', Fw G H G' H' → H p = none → G' p = none → H' p = some (.lst xs) → Dds K G' xs (fl x) → Q (.ref p) H'
/-- hands back data, or raises an error of the class C -/
def SpX (K : PySem.W.Frag) (fs : α → List SD) (pre : α → Prop) (C : Value) (fo : α → Option D) : Sp := fun vs H Q E => ∃ (x : α) (G : Hp), Same G H ∧ Args K G H vs (fs x) ∧ pre x ∧
  (∀ d, fo x = some d → ∀ v G' H', Fw G H G' H' → Dd K G' v d → Q v H') ∧ (fo x = none → ∀ G' H', Fw G H G' H' → E C none H')
theorem ed_call {x : α} (h : EvA K t env ss) (e : ss = fs x) (hp : pre x) : EvD K (tCall (SpD K fs pre f) [] E' t) env (f x) := fun G0 H0 G H σ ok Q q =>
  h G0 H0 G H σ ok _ fun vs G1 H1 a hv => ⟨x, G1, a.gh, by rw [List.append_nil, ← e]; exact hv, hp, fun v G2 H2 a2 hd => q v G2 H2 (a.trans a2) hd⟩
theorem en_call {x : α} (h : EvA K t env ss) (e : ss = fs x) (hp : pre x) : EvN K (tCall (SpN K fs pre fl) [] E' t) env (fl x) := fun G0 H0 G H σ ok Q q =>
  h G0 H0 G H σ ok _ fun vs G1 H1 a hv => ⟨x, G1, a.gh, by rw [List.append_nil, ← e]; exact hv, hp, fun p xs G2 H2 a2 hp g2 h2 hd => q p xs G2 H2 (a.trans a2) (by
    cases z : H p with
    | none => rfl
    | some o => rw [a.hh _ _ z] at hp; cases hp) g2 h2 hd⟩
/-- .. where it does not raise -/
theorem ed_callX {x : α} {d : D} (h : EvA K t env ss) (e : ss = fs x) (hp : pre x) (hd : fo x = some d) : EvD K (tCall (SpX K fs pre C fo) [] E' t) env d := fun G0 H0 G H σ ok Q q =>
  h G0 H0 G H σ ok _ fun vs G1 H1 a hv => ⟨x, G1, a.gh, by rw [List.append_nil, ← e]; exact hv, hp, fun d' hd' v G2 H2 a2 hv2 => q v G2 H2 (a.trans a2) (by rw [hd] at hd'; cases hd'; exact hv2), fun z => by rw [hd] at z; cases z⟩

/-! ### tests -/
theorem et_test {b : Bool} (h : EvD K te env (.bool b)) : EvT K (tTest te) env b := fun G0 H0 G H σ ok Q q => h G0 H0 G H σ ok _ fun v G1 H1 a hv => ⟨b, hv.bl_inv, q G1 H1 a⟩
theorem et_B {b : Bool} (h : EvD K te env (.bool b)) : EvT K (tB te) env b := fun G0 H0 G H σ ok Q q => h G0 H0 G H σ ok _ fun v G1 H1 a hv => ⟨b, hv.bl_inv, q G1 H1 a⟩
theorem et_not {t1 : TT} {b : Bool} (h : EvT K t1 env b) : EvT K (tNot t1) env (!b) := fun G0 H0 G H σ ok Q q => h G0 H0 G H σ ok _ fun G1 H1 a => q G1 H1 a
theorem et_and {t1 t2 : TT} {b c : Bool} (h : EvT K t1 env b) (h2 : b = true → EvT K t2 env c) : EvT K (tAnd t1 t2) env (b && c) := fun G0 H0 G H σ ok Q q => h G0 H0 G H σ ok _ fun G1 H1 a => by
  cases b with
  | true => exact iteT (h2 rfl G0 H0 G1 H1 σ (ok.go a) _ fun G2 H2 a2 => q G2 H2 (a.trans a2))
  | false => exact iteF (q G1 H1 a)
theorem et_or {t1 t2 : TT} {b c : Bool} (h : EvT K t1 env b) (h2 : b = false → EvT K t2 env c) : EvT K (tOr t1 t2) env (b || c) := fun G0 H0 G H σ ok Q q => h G0 H0 G H σ ok _ fun G1 H1 a => by
  cases b with
  | true => exact iteT (q G1 H1 a)
  | false => exact iteF (h2 rfl G0 H0 G1 H1 σ (ok.go a) _ fun G2 H2 a2 => q G2 H2 (a.trans a2))
theorem ed_andV {b c : Bool} (h : EvD K ta env (.bool b)) (h2 : b = true → EvD K tb env (.bool c)) : EvD K (tAndV ta tb) env (.bool (b && c)) := fun G0 H0 G H σ ok Q q => h G0 H0 G H σ ok _ fun v G1 H1 a hv => ⟨b, hv.bl_inv, by
  cases b with
  | true => exact iteT (h2 rfl G0 H0 G1 H1 σ (ok.go a) _ fun w G2 H2 a2 hw => q w G2 H2 (a.trans a2) hw)
  | false => exact iteF (q _ G1 H1 a (.bl false))⟩
theorem ed_orV {b c : Bool} (h : EvD K ta env (.bool b)) (h2 : b = false → EvD K tb env (.bool c)) : EvD K (tOrV ta tb) env (.bool (b || c)) := fun G0 H0 G H σ ok Q q => h G0 H0 G H σ ok _ fun v G1 H1 a hv => ⟨b, hv.bl_inv, by
  cases b with
  | true => exact iteT (q _ G1 H1 a (.bl true))
  | false => exact iteF (h2 rfl G0 H0 G1 H1 σ (ok.go a) _ fun w G2 H2 a2 hw => q w G2 H2 (a.trans a2) hw)⟩
theorem ed_notV {b : Bool} (h : EvD K ta env (.bool b)) : EvD K (tNotV ta) env (.bool (!b)) := fun G0 H0 G H σ ok Q q => h G0 H0 G H σ ok _ fun v G1 H1 a hv => ⟨b, hv.bl_inv, q _ G1 H1 a (.bl _)⟩
theorem ed_if {t1 : TT} {b : Bool} {d : D} (h : EvT K t1 env b) (h1 : b = true → EvD K ta env d) (h2 : b = false → EvD K tb env d) : EvD K (tIf t1 ta tb) env d := fun G0 H0 G H σ ok Q q => h G0 H0 G H σ ok _ fun G1 H1 a => by
  cases b with
  | true => exact iteT (h1 rfl G0 H0 G1 H1 σ (ok.go a) _ fun w G2 H2 a2 hw => q w G2 H2 (a.trans a2) hw)
  | false => exact iteF (h2 rfl G0 H0 G1 H1 σ (ok.go a) _ fun w G2 H2 a2 hw => q w G2 H2 (a.trans a2) hw)
end

/-! ### targets -/
def Sets (ts : List Nat) (σ σ' : L2.St) : Prop := σ'.length = σ.length ∧ ∀ i, i ∉ ts → σ'[i]? = σ[i]?
theorem Sets.refl (ts : List Nat) (σ : L2.St) : Sets ts σ σ := ⟨rfl, fun _ _ => rfl⟩
theorem Sets.trans {ts : List Nat} {a b c : L2.St} (h : Sets ts a b) (h' : Sets ts b c) : Sets ts a c := ⟨h'.1.trans h.1, fun i hi => (h'.2 i hi).trans (h.2 i hi)⟩
theorem Sets.set {ts : List Nat} {σ : L2.St} {i : Nat} {v : Option V} (h : i ∈ ts) : Sets ts σ (σ.set i v) := ⟨List.length_set, fun j hj => List.getElem?_set_ne fun e => hj (by rw [← e]; exact h)⟩
/-- the target takes the data d -/
def EvG (K : PySem.W.Frag) (g : TG) (ts : List Nat) (env : EnvD) (d : D) (env' : EnvD) : Prop := ∀ (G0 H0 G H : Hp) (σ : L2.St) (v : V) (Nx : L2.St → Hp → Prop), Ok K G0 H0 G H σ env → Dd K G v d → (∀ σ', Sets ts σ σ' → Ok K G0 H0 G H σ' env' → Nx σ' H) → g v σ H Nx
def EvGs (K : PySem.W.Frag) (g : TGs) (ts : List Nat) (env : EnvD) (ds : List D) (env' : EnvD) : Prop := ∀ (G0 H0 G H : Hp) (σ : L2.St) (vs : List V) (Nx : L2.St → Hp → Prop), Ok K G0 H0 G H σ env → Dds K G vs ds → (∀ σ', Sets ts σ σ' → Ok K G0 H0 G H σ' env' → Nx σ' H) → g vs σ H Nx
theorem eg_name {ts : List Nat} {i : Nat} {d : D} (h : i ∈ ts) : EvG K (gName i) ts env d (env.set i (.dat d)) := fun G0 H0 G H σ v Nx ok hv q => q _ (Sets.set h) (ok.set i rfl ⟨v, rfl, hv⟩)
theorem egs_nil {ts : List Nat} : EvGs K gNil ts env [] env := fun G0 H0 G H σ vs Nx ok hv q => by
  cases hv
  exact ⟨rfl, q σ (Sets.refl _ _) ok⟩
theorem egs_cons {ts : List Nat} {g : TG} {gs : TGs} {d : D} {ds : List D} (h : EvG K g ts env d e1) (hs : EvGs K gs ts e1 ds e2) : EvGs K (gCons g gs) ts env (d :: ds) e2 := fun G0 H0 G H σ vs Nx ok hv q => by
  cases hv with
  | cons a b => exact ⟨_, _, rfl, h G0 H0 G H σ _ _ ok a fun σ1 s1 ok1 => hs G0 H0 G H σ1 _ _ ok1 b fun σ2 s2 ok2 => q σ2 (s1.trans s2) ok2⟩
theorem eg_tup {ts : List Nat} {n : Nat} {gs : TGs} {ds : List D} (h : EvGs K gs ts env ds env') (hn : ds.length = n) : EvG K (gTup K n gs) ts env (.tuple ds) env' := fun G0 H0 G H σ v Nx ok hv q => by
  obtain ⟨a, xs, e, hs, hd⟩ := hv.tup_inv
  subst e
  exact ⟨a, xs, rfl, sqT_mono ok.gh hs, by rw [hd.len]; exact hn, h G0 H0 G H σ xs Nx ok hd q⟩

/-! ### what a for walks -/
/-- it draws the data ds, one after the other -/
structure Walks (K : PySem.W.Frag) (J : It) (G1 : Hp) (ds : List D) : Prop where
  stop : ∀ (G H : Hp), Same G1 G → Same G H → J.stop ds.length H
  go : ∀ (i : Nat) (d : D) (G H : Hp), ds[i]? = some d → Same G1 G → Same G H → J.go i H ∧ ∀ x H', J.yld i H x H' → ∃ G', Fw G H G' H' ∧ Dd K G' x d
def EvI (K : PySem.W.Frag) (wi : TI) (env : EnvD) (ds : List D) : Prop := ∀ (G0 H0 G H : Hp) (σ : L2.St), Ok K G0 H0 G H σ env → ∀ R : It → Hp → Prop, (∀ J G' H', Fw G H G' H' → Walks K J G' ds → R J H') → wi σ H R
theorem SqL.gh {G H : Hp} {a : Addr} {xs : List V} (gh : Same G H) (h : G a = some (.lst xs)) : SqL K H a xs := .inl (.inl (gh _ _ h))
theorem ei_list {tl : TE} {ds : List D} (h : EvD K tl env (.list ds)) : EvI K (iList K tl) env ds := fun G0 H0 G H σ ok R q =>
  h G0 H0 G H σ ok _ fun v G1 H1 a hv => by
    obtain ⟨p, xs, e, hs, hd⟩ := hv.lst_inv
    subst e
    refine ⟨p, rfl, ⟨xs, SqL.gh a.gh hs⟩, q _ G1 H1 a ⟨fun G2 H2 g1 g2 => ⟨xs, SqL.gh g2 (g1 _ _ hs), by rw [hd.len]; exact Nat.le_refl _⟩, fun i d G2 H2 hi g1 g2 => ?_⟩⟩
    obtain ⟨w, h1, h2⟩ := hd.get hi
    refine ⟨⟨xs, w, SqL.gh g2 (g1 _ _ hs), h1⟩, fun x H' hy => ?_⟩
    obtain ⟨e1, e2⟩ := hy
    have e3 := e2 xs (SqL.gh g2 (g1 _ _ hs))
    rw [h1] at e3
    cases e3
    rw [e1]
    exact ⟨G2, Fw.refl g2, h2.mono g1⟩
theorem ei_tup {tl : TE} {ds : List D} (h : EvD K tl env (.tuple ds)) : EvI K (iTup K tl) env ds := fun G0 H0 G H σ ok R q =>
  h G0 H0 G H σ ok _ fun v G1 H1 a hv => by
    obtain ⟨p, xs, e, hs, hd⟩ := hv.tup_inv
    subst e
    refine ⟨p, rfl, ⟨xs, sqT_mono a.gh hs⟩, q _ G1 H1 a ⟨fun G2 H2 g1 g2 => ⟨xs, sqT_mono g2 (sqT_mono g1 hs), by rw [hd.len]; exact Nat.le_refl _⟩, fun i d G2 H2 hi g1 g2 => ?_⟩⟩
    obtain ⟨w, h1, h2⟩ := hd.get hi
    refine ⟨⟨xs, w, sqT_mono g2 (sqT_mono g1 hs), h1⟩, fun x H' hy => ?_⟩
    obtain ⟨e1, e2⟩ := hy
    have e3 := e2 xs (sqT_mono g2 (sqT_mono g1 hs))
    rw [h1] at e3
    cases e3
    rw [e1]
    exact ⟨G2, Fw.refl g2, h2.mono g1⟩
/-- lo, lo + c, .. -/
def rngD (lo c : Int) (n : Nat) : List D := (List.range n).map fun (i : Nat) => .int (lo + (i : Int) * c)
theorem rngD_len (lo c : Int) (n : Nat) : (rngD lo c n).length = n := by unfold rngD; rw [List.length_map, List.length_range]
theorem rngD_get {lo c : Int} {n i : Nat} {d : D} (h : (rngD lo c n)[i]? = some d) : i < n ∧ d = .int (lo + (i : Int) * c) := by
  have hi : i < n := by
    have := (List.getElem?_eq_some_iff.mp h).1
    rwa [rngD_len] at this
  refine ⟨hi, ?_⟩
  unfold rngD at h
  rw [List.getElem?_map, List.getElem?_range hi] at h
  simpa using h.symm
theorem rngD_at {lo c : Int} {n i : Nat} (h : i < n) : (rngD lo c n)[i]? = some (.int (lo + (i : Int) * c)) := by
  unfold rngD
  rw [List.getElem?_map, List.getElem?_range h]
  rfl
theorem walks_r {lo : Int} {n : Nat} {G1 : Hp} : Walks K (Itr lo n) G1 (rngD lo 1 n) := by
  refine ⟨fun G H _ _ => ?_, fun i d G H hi _ gh => ?_⟩
  · rw [rngD_len]; exact Nat.le_refl _
  · obtain ⟨h1, h2⟩ := rngD_get hi
    refine ⟨h1, fun x H' hy => ?_⟩
    obtain ⟨e1, e2⟩ := hy
    rw [e1, e2, h2, Int.mul_one]
    exact ⟨G, Fw.refl gh, .int _⟩
theorem walks_c {lo c : Int} {n : Nat} {G1 : Hp} : Walks K (Itc lo c n) G1 (rngD lo c n) := by
  refine ⟨fun G H _ _ => ?_, fun i d G H hi _ gh => ?_⟩
  · rw [rngD_len]; exact Nat.le_refl _
  · obtain ⟨h1, h2⟩ := rngD_get hi
    refine ⟨h1, fun x H' hy => ?_⟩
    obtain ⟨e1, e2⟩ := hy
    rw [e1, e2, h2]
    exact ⟨G, Fw.refl gh, .int _⟩
theorem ei_rng1 {ta : TE} {j : Int} (h : EvD K ta env (.int j)) (hb : -(2 ^ 62) ≤ j ∧ j < 2 ^ 62) : EvI K (iRng1 (tCons ta tNil)) env (rngD 0 1 j.toNat) := fun G0 H0 G H σ ok R q =>
  h G0 H0 G H σ ok _ fun v G1 H1 a hv => ⟨j, by rw [hv.int_inv], hb.1, hb.2, q _ G1 H1 a walks_r⟩
theorem ei_rng2 {ta tb : TE} {i j : Int} (h : EvD K ta env (.int i)) (h' : EvD K tb env (.int j)) (hb : -(2 ^ 62) ≤ i ∧ i < 2 ^ 62 ∧ -(2 ^ 62) ≤ j ∧ j < 2 ^ 62) : EvI K (iRng2 (tCons ta (tCons tb tNil))) env (rngD i 1 (j - i).toNat) := fun G0 H0 G H σ ok R q =>
  h G0 H0 G H σ ok _ fun v G1 H1 a hv => h' G0 H0 G1 H1 σ (ok.go a) _ fun u G2 H2 a2 hu => ⟨i, j, by rw [hv.int_inv, hu.int_inv], hb, q _ G2 H2 (a.trans a2) walks_r⟩
theorem ei_rng3 {ta tb tc : TE} {i j c : Int} {n : Nat} (h : EvD K ta env (.int i)) (h' : EvD K tb env (.int j)) (h'' : EvD K tc env (.int c)) (hb : RgC i j c n) : EvI K (iRng3 (tCons ta (tCons tb (tCons tc tNil)))) env (rngD i c n) := fun G0 H0 G H σ ok R q =>
  h G0 H0 G H σ ok _ fun v G1 H1 a hv => h' G0 H0 G1 H1 σ (ok.go a) _ fun u G2 H2 a2 hu => h'' G0 H0 G2 H2 σ ((ok.go a).go a2) _ fun w G3 H3 a3 hw => ⟨i, j, c, n, by rw [hv.int_inv, hu.int_inv, hw.int_inv], hb, q _ G3 H3 ((a.trans a2).trans a3) walks_c⟩
end DL

namespace DL
open PySem L2
variable {K : PySem.W.Frag} {E : XK} {env env' e1 e2 : EnvD}

/-! ### statements -/
inductive RD
  | nx (env : EnvD)
  | rt (d : D)
  | rn (ds : List D)
  | ex (cls : Value)
  | bk (env : EnvD)
  | ct (env : EnvD)
def Post (K : PySem.W.Frag) (E : XK) (G0 H0 : Hp) (D : Ends) : RD → Prop
  | .nx e => ∀ G H σ, Ok K G0 H0 G H σ e → D.nx σ H
  | .bk e => ∀ G H σ, Ok K G0 H0 G H σ e → D.bk σ H
  | .ct e => ∀ G H σ, Ok K G0 H0 G H σ e → D.ct σ H
  | .rt d => ∀ v G H, Fw G0 H0 G H → Dd K G v d → D.rt v H
  | .rn ds => ∀ p xs G H, Fw G0 H0 G H → H0 p = none → G p = none → H p = some (.lst xs) → Dds K G xs ds → D.rt (.ref p) H
  | .ex c => ∀ G H, Fw G0 H0 G H → E c none H
def Run (K : PySem.W.Frag) (E : XK) (ts : TS) (env : EnvD) (r : RD) : Prop := ∀ (G0 H0 G H : Hp) (σ : L2.St) (D : Ends), Ok K G0 H0 G H σ env → Post K E G0 H0 D r → ts D σ H
section
variable {t u : TS} {te : TE} {r : RD} {tc : TT}
theorem run_seq (h : Run K E t env (.nx e1)) (h' : Run K E u e1 r) : Run K E (tSeq t u) env r := fun G0 H0 G H σ D ok q => h G0 H0 G H σ _ ok fun G1 H1 σ1 ok1 => h' G0 H0 G1 H1 σ1 D ok1 q
theorem run_seqX (h : Run K E t env r) (hr : ∀ e, r ≠ .nx e) : Run K E (tSeq t u) env r := fun G0 H0 G H σ D ok q => h G0 H0 G H σ _ ok (by
  cases r with
  | nx e => exact absurd rfl (hr e)
  | rt d => exact q
  | rn d => exact q
  | ex d => exact q
  | bk d => exact q
  | ct d => exact q)
theorem run_seqR {d : D} (h : Run K E t env (.rt d)) : Run K E (tSeq t u) env (.rt d) := run_seqX h fun _ z => nomatch z
theorem run_seqN {d : List D} (h : Run K E t env (.rn d)) : Run K E (tSeq t u) env (.rn d) := run_seqX h fun _ z => nomatch z
theorem run_seqE {c : Value} (h : Run K E t env (.ex c)) : Run K E (tSeq t u) env (.ex c) := run_seqX h fun _ z => nomatch z
theorem run_next : Run K E tNext env (.nx env) := fun G0 H0 G H σ D ok q => q G H σ ok
theorem run_break : Run K E tBreak env (.bk env) := fun G0 H0 G H σ D ok q => q G H σ ok
theorem run_cont : Run K E tCont env (.ct env) := fun G0 H0 G H σ D ok q => q G H σ ok
theorem run_set {i : Nat} {d : D} (h : EvD K te env d) : Run K E (tAsg te (gName i)) env (.nx (env.set i (.dat d))) := fun G0 H0 G H σ D ok q =>
  h G0 H0 G H σ ok _ fun v G1 H1 a hv => q G1 H1 _ ((ok.go a).set i rfl ⟨v, rfl, hv⟩)
theorem free0 {G H G' H' : Hp} {p : Addr} (a : Fw G H G' H') (h : H' p = none) : H p = none := a.hh.free h
theorem run_setN {i : Nat} {ds : List D} (h : EvN K te env ds) : Run K E (tAsg te (gName i)) env (.nx (env.set i (.ml ds))) := fun G0 H0 G H σ D ok q =>
  h G0 H0 G H σ ok _ fun p xs G1 H1 a hp g1 h1 hd => q G1 H1 _ ((ok.go a).setMut i ⟨p, xs, rfl, g1, h1, hd⟩ (free0 ok.fw hp) fun j t l hj hm hs e => (ok.mutAt hj hm hs).2 (by rw [e]; exact hp))
theorem run_asg {g : TG} {ts : List Nat} {d : D} (h : EvD K te env d) (hg : EvG K g ts env d e1) : Run K E (tAsg te g) env (.nx e1) := fun G0 H0 G H σ D ok q =>
  h G0 H0 G H σ ok _ fun v G1 H1 a hv => hg G0 H0 G1 H1 σ v _ (ok.go a) hv fun σ' _ ok' => q G1 H1 σ' ok'
theorem run_ret {d : D} (h : EvD K te env d) : Run K E (tRet te) env (.rt d) := fun G0 H0 G H σ D ok q =>
  h G0 H0 G H σ ok _ fun v G1 H1 a hv => q v G1 H1 (ok.fw.trans a) hv
theorem run_retN {ds : List D} (h : EvN K te env ds) : Run K E (tRet te) env (.rn ds) := fun G0 H0 G H σ D ok q =>
  h G0 H0 G H σ ok _ fun p xs G1 H1 a hp g1 h1 hd => q p xs G1 H1 (ok.fw.trans a) (free0 ok.fw hp) g1 h1 hd
/-- a hidden list is handed back -/
theorem run_retM (i : Nat) {ds : List D} (h : env[i]? = some (.ml ds) := by rfl) : Run K E (tRet (tVar i)) env (.rn ds) := fun G0 H0 G H σ D ok q => by
  obtain ⟨o, h1, l, xs, e, g, hl, hd⟩ := ok.sl i _ h
  subst e
  exact ⟨_, h1, q l xs G H ok.fw (ok.fresh i _ l h rfl h1) g hl hd⟩
theorem run_retNone : Run K E tRetN env (.rt .none) := fun G0 H0 G H σ D ok q => q _ G H ok.fw .non
theorem run_if {b : Bool} (h : EvT K tc env b) (h1 : b = true → Run K E t env r) (h2 : b = false → Run K E u env r) : Run K E (tIfS tc t u) env r := fun G0 H0 G H σ D ok q => h G0 H0 G H σ ok _ fun G1 H1 a => by
  cases b with
  | true => exact iteT (h1 rfl G0 H0 G1 H1 σ D (ok.go a) q)
  | false => exact iteF (h2 rfl G0 H0 G1 H1 σ D (ok.go a) q)
theorem run_drop {s : SD} (h : EvV K te env s) : Run K E (tDrop te) env (.nx env) := fun G0 H0 G H σ D ok q => h G0 H0 G H σ ok _ fun v G1 H1 a _ => q G1 H1 σ (ok.go a)
theorem run_is {r' : RD} (h : Run K E t env r) (e : r = r') : Run K E t env r' := e ▸ h
/-- a hidden list is published ahead of a statement -/
theorem run_pub (i : Nat) {ds : List D} (hi : env[i]? = some (.ml ds)) (h : Run K E t (env.set i (.dat (.list ds))) r) : Run K E t env r := fun G0 H0 G H σ D ok q => by
  obtain ⟨G', ok'⟩ := ok.publish hi
  exact h G0 H0 G' H σ D ok' q
/-- xs.append(e) -/
theorem run_append {i : Nat} {ds : List D} {d : D} (hi : env[i]? = some (.ml ds)) (h : EvD K te env d) (hl : ds.length < 10000000) : Run K E (tDrop (tBM K "list" rAppend (tVar i) (tCons te tNil))) env (.nx (env.set i (.ml (ds ++ [d])))) := fun G0 H0 G H σ D ok q => by
  obtain ⟨o, h1, l, xs, e, g, hl0, hd⟩ := ok.sl i _ hi
  subst e
  refine ⟨_, h1, .inl ⟨rfl, xs, SqL.of hl0⟩, h G0 H0 G H σ ok _ fun v G1 H1 a hv => ⟨l, xs, v, rfl, rfl, a.hh _ _ hl0, ?_, ?_⟩⟩
  · rw [hd.len, sizeLine_eq]; omega
  · have g1 : G1 l = none := a.fr l (by rw [hl0]; simp) g
    exact q G1 _ σ ((ok.go a).write hi rfl h1 ⟨l, _, rfl, g1, upd_same, (hd.mono a.gg).append (.cons hv .nil)⟩ rfl)
end

/-! ### less said of the slots -/
inductive Less : EnvD → EnvD → Prop
  | nil : Less [] []
  | un {s : SD} {a b : EnvD} : Less a b → Less (s :: a) (.un :: b)
  | eq {s : SD} {a b : EnvD} : Less a b → Less (s :: a) (s :: b)
theorem Less.refl : ∀ e : EnvD, Less e e
  | [] => .nil
  | _ :: e => .eq (Less.refl e)
theorem Less.get : ∀ {a b : EnvD}, Less a b → ∀ (i : Nat) (s : SD), b[i]? = some s → s = .un ∧ i < a.length ∨ a[i]? = some s
  | _, _, .nil, i, s, h => by simp at h
  | _, _, .un l, 0, s, h => by simp at h; exact .inl ⟨h.symm, by simp⟩
  | _, _, .un l, i + 1, s, h => by
    rcases l.get i s (by simpa using h) with ⟨e, hi⟩ | e
    · exact .inl ⟨e, by simpa using hi⟩
    · exact .inr (by simpa using e)
  | _, _, .eq l, 0, s, h => by simp at h; exact .inr (by simp [h])
  | _, _, .eq l, i + 1, s, h => by
    rcases l.get i s (by simpa using h) with ⟨e, hi⟩ | e
    · exact .inl ⟨e, by simpa using hi⟩
    · exact .inr (by simpa using e)
theorem Less.len : ∀ {a b : EnvD}, Less a b → a.length = b.length
  | _, _, .nil => rfl
  | _, _, .un l => congrArg (· + 1) l.len
  | _, _, .eq l => congrArg (· + 1) l.len
theorem Ok.less {G0 H0 G H : Hp} {σ : L2.St} (ok : Ok K G0 H0 G H σ env) (l : Less env env') : Ok K G0 H0 G H σ env' := by
  have key : ∀ (i : Nat) (s : SD), env'[i]? = some s → s.isMut = true → env[i]? = some s := fun i s hi hm => by
    rcases l.get i s hi with ⟨e, _⟩ | e
    · rw [e] at hm; cases hm
    · exact e
  refine ⟨ok.gh, ok.fw, ok.len.trans l.len, fun i s hi => ?_, fun i s a hi hm hs => ok.fresh i s a (key i s hi hm) hm hs, fun i j s t a b hij hi hj hs ht h1 h2 => ok.apart i j s t a b hij (key i s hi hs) (key j t hj ht) hs ht h1 h2⟩
  rcases l.get i s hi with ⟨e, hl⟩ | e
  · subst e
    have : i < σ.length := by rw [ok.len]; exact hl
    exact ⟨σ[i], List.getElem?_eq_getElem this, trivial⟩
  · exact ok.sl i s e
theorem run_less {t : TS} (h : Run K E t env (.nx e1)) (l : Less e1 e2) : Run K E t env (.nx e2) := fun G0 H0 G H σ D ok q => h G0 H0 G H σ D ok fun G1 H1 σ1 ok1 => q G1 H1 σ1 (ok1.less l)
theorem run_more {t : TS} {r : RD} (l : Less env e1) (h : Run K E t e1 r) : Run K E t env r := fun G0 H0 G H σ D ok q => h G0 H0 G H σ D (ok.less l) q

/-! ### for -/
theorem Fw.base {G0 H0 G1 H1 G H : Hp} (a : Fw G0 H0 G1 H1) (b : Fw G1 H0 G H) : Fw G0 H0 G H := ⟨a.gg.trans b.gg, b.gh, b.hh, fun l hl gl => b.fr l hl (a.fr l hl gl)⟩
theorem Ok.rebase {G0 H0 G H : Hp} {σ : L2.St} (ok : Ok K G0 H0 G H σ env) : Ok K G H0 G H σ env := ⟨ok.gh, ⟨Same.refl _, ok.gh, ok.fw.hh, fun _ _ h => h⟩, ok.len, ok.sl, ok.fresh, ok.apart⟩
theorem Ok.unbase {G0 H0 G1 H1 G H : Hp} {σ : L2.St} (a : Fw G0 H0 G1 H1) (ok : Ok K G1 H0 G H σ env) : Ok K G0 H0 G H σ env := ⟨ok.gh, a.base ok.fw, ok.len, ok.sl, ok.fresh, ok.apart⟩
theorem Post.base {G0 H0 G1 H1 : Hp} {D : Ends} {r : RD} (a : Fw G0 H0 G1 H1) (q : Post K E G0 H0 D r) : Post K E G1 H0 D r := by
  cases r with
  | nx e => exact fun G H σ ok => q G H σ (ok.unbase a)
  | bk e => exact fun G H σ ok => q G H σ (ok.unbase a)
  | ct e => exact fun G H σ ok => q G H σ (ok.unbase a)
  | rt d => exact fun v G H f hv => q v G H (a.base f) hv
  | rn ds => exact fun p xs G H f => q p xs G H (a.base f)
  | ex c => exact fun G H f => q G H (a.base f)
/-- what a turn leaves: the next turn's slots -/
def Turn1 (K : PySem.W.Frag) (E : XK) (tb : TS) (env e' : EnvD) : Prop := Run K E tb env (.nx e') ∨ Run K E tb env (.ct e')
theorem Turn1.n {tb : TS} (h : Run K E tb env (.nx e1)) (l : Less e1 e2) : Turn1 K E tb env e2 := .inl (run_less h l)
/-- n turns go on, then the loop ends (n is all), or the turn n leaves it -/
theorem run_forX {wi : TI} {g : TG} {tb : TS} {ts : List Nat} {ds : List D} {r : RD} (Es : Nat → EnvD) (n : Nat) (hi : EvI K wi env ds) (h0 : Less env (Es 0))
    (ht : ∀ (i : Nat) (d : D), i < n → ds[i]? = some d → ∃ em, EvG K g ts (Es i) d em ∧ Turn1 K E tb em (Es (i + 1)))
    (he : (n = ds.length ∧ r = .nx (Es n)) ∨ (∃ d em, ds[n]? = some d ∧ EvG K g ts (Es n) d em ∧ ((Run K E tb em r ∧ (∀ e, r ≠ .nx e) ∧ (∀ e, r ≠ .ct e) ∧ (∀ e, r ≠ .bk e)) ∨ ∃ e, r = .nx e ∧ Run K E tb em (.bk e)))) :
    Run K E (tFor wi g tb) env r := fun G0 H0 G H σ D ok q =>
  hi G0 H0 G H σ ok _ fun J G1 H1 a wk => by
    have hn : n ≤ ds.length := by
      rcases he with ⟨e, _⟩ | ⟨d, em, h, _⟩
      · omega
      · have := (List.getElem?_eq_some_iff.mp h).1; omega
    refine ⟨fun i m σ2 H2 => i + m = n ∧ ∃ G2, Same G1 G2 ∧ Ok K G0 H0 G2 H2 σ2 (Es i), ⟨n, Nat.zero_add _, G1, Same.refl _, (ok.go a).less h0⟩, ?_⟩
    rintro i m σ2 H2 ⟨him, G2, g2, ok2⟩
    by_cases hlt : i < n
    · have hd := List.getElem?_eq_getElem (show i < ds.length by omega)
      obtain ⟨hgo, hy⟩ := wk.go i _ G2 H2 hd g2 ok2.gh
      refine .inr ⟨hgo, fun σ' H' => ∃ G3, Same G1 G3 ∧ Ok K G0 H0 G3 H' σ' (Es (i + 1)), fun σ' H' hN => ⟨m - 1, by omega, by omega, hN⟩, fun x H3 hx => ?_⟩
      obtain ⟨G3, a3, hx3⟩ := hy x H3 hx
      obtain ⟨em, hg, htb⟩ := ht i _ hlt hd
      refine hg G0 H0 G3 H3 σ2 x _ (ok2.go a3) hx3 fun σ3 _ ok3 => ?_
      have g13 : Same G1 G3 := g2.trans a3.gg
      rcases htb with htb | htb
      · exact htb G3 H0 G3 H3 σ3 _ ok3.rebase fun G4 H4 σ4 ok4 => ⟨G4, g13.trans ok4.fw.gg, ok4.unbase ok3.fw⟩
      · exact htb G3 H0 G3 H3 σ3 _ ok3.rebase fun G4 H4 σ4 ok4 => ⟨G4, g13.trans ok4.fw.gg, ok4.unbase ok3.fw⟩
    · have e : i = n := by omega
      subst e
      rcases he with ⟨e, er⟩ | ⟨d, em, hd, hg, hr⟩
      · subst e
        subst er
        exact .inl ⟨wk.stop G2 H2 g2 ok2.gh, q G2 H2 σ2 ok2⟩
      · obtain ⟨hgo, hy⟩ := wk.go i d G2 H2 hd g2 ok2.gh
        refine .inr ⟨hgo, fun _ _ => False, fun _ _ z => z.elim, fun x H3 hx => ?_⟩
        obtain ⟨G3, a3, hx3⟩ := hy x H3 hx
        refine hg G0 H0 G3 H3 σ2 x _ (ok2.go a3) hx3 fun σ3 _ ok3 => ?_
        rcases hr with ⟨hr, r1, r2, r3⟩ | ⟨e, er, hr⟩
        · refine hr G0 H0 G3 H3 σ3 _ ok3 ?_
          cases r with
          | nx e => exact absurd rfl (r1 e)
          | ct e => exact absurd rfl (r2 e)
          | bk e => exact absurd rfl (r3 e)
          | rt d => exact q
          | rn d => exact q
          | ex d => exact q
        · subst er
          exact hr G0 H0 G3 H3 σ3 _ ok3 q
theorem run_for {wi : TI} {g : TG} {tb : TS} {ts : List Nat} {ds : List D} (Es : Nat → EnvD) (hi : EvI K wi env ds) (h0 : Less env (Es 0))
    (ht : ∀ (i : Nat) (d : D), i < ds.length → ds[i]? = some d → ∃ em, EvG K g ts (Es i) d em ∧ Turn1 K E tb em (Es (i + 1))) : Run K E (tFor wi g tb) env (.nx (Es ds.length)) :=
  run_forX Es ds.length hi h0 ht (.inl ⟨rfl, rfl⟩)
/-- the turn n hands back d -/
theorem run_forR {wi : TI} {g : TG} {tb : TS} {ts : List Nat} {ds : List D} {z : D} (Es : Nat → EnvD) (n : Nat) (hi : EvI K wi env ds) (h0 : Less env (Es 0))
    (ht : ∀ (i : Nat) (d : D), i < n → ds[i]? = some d → ∃ em, EvG K g ts (Es i) d em ∧ Turn1 K E tb em (Es (i + 1)))
    {d : D} {em : EnvD} (hd : ds[n]? = some d) (hg : EvG K g ts (Es n) d em) (hr : Run K E tb em (.rt z)) : Run K E (tFor wi g tb) env (.rt z) :=
  run_forX Es n hi h0 ht (.inr ⟨d, em, hd, hg, .inl ⟨hr, (by intro _ z; cases z), (by intro _ z; cases z), (by intro _ z; cases z)⟩⟩)

/-! ### comprehensions -/
def wipeD (env : EnvD) : List Nat → EnvD
  | [] => env
  | v :: vs => (wipeD env vs).set v .un
theorem Ok.unset {G0 H0 G H : Hp} {σ : L2.St} (ok : Ok K G0 H0 G H σ env) (i : Nat) : Ok K G0 H0 G H (σ.set i none) (env.set i .un) := by
  have key : ∀ (j : Nat) (t : SD) (o : Option V), (env.set i .un)[j]? = some t → t.isMut = true → (σ.set i none)[j]? = some o → env[j]? = some t ∧ σ[j]? = some o := fun j t o ht hm hj => by
    rcases get_set ht with ⟨e, _, e2⟩ | ⟨e, h2⟩
    · rw [e2] at hm; cases hm
    · rw [List.getElem?_set_ne e] at hj
      exact ⟨h2, hj⟩
  refine ⟨ok.gh, ok.fw, by rw [List.length_set, List.length_set]; exact ok.len, fun j t ht => ?_, fun j t l ht hm hj => ?_, fun j k t u l m hjk ht hu hmt hmu hj hk => ?_⟩
  · rcases get_set ht with ⟨e, hj, e2⟩ | ⟨e, h2⟩
    · subst e2
      refine ⟨none, ?_, trivial⟩
      rw [← e, List.getElem?_set_self (by rw [ok.len]; omega)]
    · obtain ⟨o, h3, h4⟩ := ok.sl j t h2
      exact ⟨o, by rw [List.getElem?_set_ne e]; exact h3, h4⟩
  · obtain ⟨a, b⟩ := key j t _ ht hm hj
    exact ok.fresh j t l a hm b
  · obtain ⟨a, b⟩ := key j t _ ht hmt hj
    obtain ⟨c, d⟩ := key k u _ hu hmu hk
    exact ok.apart j k t u l m hjk a c hmt hmu b d
theorem Ok.wipe {G0 H0 G H : Hp} {σ : L2.St} (ok : Ok K G0 H0 G H σ env) : ∀ vs : List Nat, Ok K G0 H0 G H (L2.wipe σ vs) (wipeD env vs)
  | [] => ok
  | v :: vs => (Ok.wipe ok vs).unset v
theorem wipe_get (σ : L2.St) : ∀ (vs : List Nat) (i : Nat), (L2.wipe σ vs)[i]? = if i ∈ vs then (if i < σ.length then some none else none) else σ[i]?
  | [], i => by simp [L2.wipe]
  | v :: vs, i => by
    show ((L2.wipe σ vs).set v none)[i]? = _
    by_cases e : v = i
    · subst e
      rw [if_pos (by simp)]
      by_cases hl : v < σ.length
      · rw [if_pos hl, List.getElem?_set_self (by rw [wipe_length]; exact hl)]
      · rw [if_neg hl, List.getElem?_eq_none (by rw [List.length_set, wipe_length]; omega)]
    · rw [List.getElem?_set_ne e, wipe_get σ vs i]
      have : (i ∈ v :: vs) ↔ (i ∈ vs) := by
        simp only [List.mem_cons]
        exact ⟨fun h => h.resolve_left (fun z => e z.symm), .inr⟩
      by_cases hm : i ∈ vs
      · rw [if_pos hm, if_pos (this.mpr hm)]
      · rw [if_neg hm, if_neg (fun z => hm (this.mp z))]
theorem wipe_sets {σ σ2 : L2.St} {vs ts : List Nat} (h : Sets ts (L2.wipe σ vs) σ2) (hs : ∀ i ∈ ts, i ∈ vs) : L2.wipe σ2 vs = L2.wipe σ vs := by
  have hl : σ2.length = σ.length := by rw [h.1, wipe_length]
  refine List.ext_getElem? fun i => ?_
  rw [wipe_get, wipe_get, hl]
  by_cases hm : i ∈ vs
  · rw [if_pos hm, if_pos hm]
  · rw [if_neg hm, if_neg hm, h.2 i (fun z => hm (hs i z)), wipe_get, if_neg hm]
/-- which items a comprehension keeps -/
inductive Lc (K : PySem.W.Frag) (g : TG) (ts : List Nat) (tt : TT) (te : TE) (env : EnvD) : List D → List D → Prop
  | nil : Lc K g ts tt te env [] []
  | keep {d z : D} {ds zs : List D} {em : EnvD} : EvG K g ts env d em → EvT K tt em true → EvD K te em z → Lc K g ts tt te env ds zs → Lc K g ts tt te env (d :: ds) (z :: zs)
  | skip {d : D} {ds zs : List D} {em : EnvD} : EvG K g ts env d em → EvT K tt em false → Lc K g ts tt te env ds zs → Lc K g ts tt te env (d :: ds) zs
theorem et_yes : EvT K tYes env true := fun _ _ G H σ ok Q q => q G H (Fw.refl ok.gh)
theorem Lc.le {g : TG} {ts : List Nat} {tt : TT} {te : TE} : ∀ {ds zs : List D}, Lc K g ts tt te env ds zs → zs.length ≤ ds.length
  | _, _, .nil => Nat.le_refl _
  | _, _, .keep _ _ _ l => Nat.succ_le_succ l.le
  | _, _, .skip _ _ l => Nat.le_succ_of_le l.le
/-- the turn i: what is left of ds from i on, what is left of zs from j on -/
theorem Lc.at {g : TG} {ts : List Nat} {tt : TT} {te : TE} : ∀ {ds zs : List D}, Lc K g ts tt te env ds zs → ∀ (i : Nat), i ≤ ds.length → ∃ j, j ≤ zs.length ∧ j ≤ i ∧ (i = ds.length → j = zs.length) ∧ Lc K g ts tt te env (ds.drop i) (zs.drop j) ∧ Lc K g ts tt te env (ds.take i) (zs.take j)
  | _, _, .nil, i, hi => ⟨0, Nat.le_refl _, Nat.zero_le _, fun _ => rfl, by simpa using Lc.nil, by simpa using Lc.nil⟩
  | d :: ds, z :: zs, .keep a b c l, 0, hi => ⟨0, Nat.zero_le _, Nat.le_refl _, fun e => by simp at e, .keep a b c l, .nil⟩
  | d :: ds, z :: zs, .keep a b c l, i + 1, hi => by
    obtain ⟨j, h1, h2, h3, h4, h5⟩ := l.at i (by simpa using hi)
    exact ⟨j + 1, by simpa using h1, by omega, fun e => by have := h3 (by simpa using e); simp [this], by simpa using h4, by simpa using Lc.keep a b c h5⟩
  | d :: ds, zs, .skip a b l, 0, hi => ⟨0, Nat.zero_le _, Nat.le_refl _, fun e => by simp at e, .skip a b l, by simpa using Lc.nil⟩
  | d :: ds, zs, .skip a b l, i + 1, hi => by
    obtain ⟨j, h1, h2, h3, h4, h5⟩ := l.at i (by simpa using hi)
    exact ⟨j, h1, by omega, fun e => h3 (by simpa using e), by simpa using h4, by simpa using Lc.skip a b h5⟩
theorem en_lc {wi : TI} {g : TG} {tt : TT} {te : TE} {vs ts : List Nat} {ds zs : List D} (hi : EvI K wi env ds) (hts : ∀ i ∈ ts, i ∈ vs) (hl : Lc K g ts tt te (wipeD env vs) ds zs) (hlen : ds.length ≤ 10000000) : EvN K (tLc wi g tt te vs) env zs := fun G0 H0 G H σ ok Q q =>
  hi G0 H0 G H σ ok _ fun J G1 H1 a wk Dl hD => by
    have hz := hl.le
    have fr1 : Fw G H G1 (upd H1 Dl (.lst [])) := a.trans (Fw.hid a.gh hD)
    have hDH : H Dl = none := a.hh.free hD
    -- turn i: j items so far
    refine ⟨fun i m H2 => i + m = ds.length ∧ ∃ (G2 : Hp) (j : Nat) (acc : List V), Same G1 G2 ∧ Fw G H G2 H2 ∧ G2 Dl = none ∧ H2 Dl = some (.lst acc) ∧ Dds K G2 acc (zs.take j) ∧ j ≤ i ∧ j ≤ zs.length ∧ (i = ds.length → j = zs.length) ∧ Lc K g ts tt te (wipeD env vs) (ds.drop i) (zs.drop j),
      ⟨ds.length, Nat.zero_add _, G1, 0, [], Same.refl _, fr1, a.gh.free hD, upd_same, .nil, Nat.le_refl _, Nat.zero_le _, fun e => by have := hz; omega, hl⟩, ?_⟩
    rintro i m H2 ⟨him, G2, j, acc, g12, f2, gD, hDl, hacc, hji, hjz, hend, hlc⟩
    by_cases hlt : i < ds.length
    · have hd := List.getElem?_eq_getElem hlt
      obtain ⟨hgo, hy⟩ := wk.go i _ G2 H2 hd g12 f2.gh
      refine .inr ⟨hgo, fun H' => ∃ (G3 : Hp) (j' : Nat) (acc' : List V), Same G1 G3 ∧ Fw G H G3 H' ∧ G3 Dl = none ∧ H' Dl = some (.lst acc') ∧ Dds K G3 acc' (zs.take j') ∧ j' ≤ i + 1 ∧ j' ≤ zs.length ∧ (i + 1 = ds.length → j' = zs.length) ∧ Lc K g ts tt te (wipeD env vs) (ds.drop (i + 1)) (zs.drop j'), fun H' hN => ⟨m - 1, by omega, by omega, hN⟩, fun x H3 hx => ?_⟩
      obtain ⟨G3, a3, hx3⟩ := hy x H3 hx
      have ok3 : Ok K G0 H0 G3 H3 (L2.wipe σ vs) (wipeD env vs) := ((ok.go f2).go a3).wipe vs
      have e1 : ds.drop i = ds[i] :: ds.drop (i + 1) := List.drop_eq_getElem_cons hlt
      rw [e1] at hlc
      have hDne : H2 Dl ≠ none := by rw [hDl]; simp
      generalize hr1 : ds.drop (i + 1) = r1 at hlc ⊢
      generalize hr2 : zs.drop j = r2 at hlc
      have endLen : i + 1 = ds.length → r1 = [] := fun e => by rw [← hr1, e]; simp
      cases hlc with
      | keep hg ht he hl' =>
        refine hg G0 H0 G3 H3 _ x _ ok3 hx3 fun σ4 s4 ok4 => ⟨wipe_sets s4 hts, ht G0 H0 G3 H3 σ4 ok4 _ fun G5 H5 a5 => iteT (he G0 H0 G5 H5 σ4 (ok4.go a5) _ fun y G6 H6 a6 hy6 => ?_)⟩
        rename_i z zs'
        have hjz' : j < zs.length := by
          by_cases hh : j < zs.length
          · exact hh
          · rw [List.drop_eq_nil_of_le (by omega)] at hr2; cases hr2
        have ez : zs.drop j = zs[j] :: zs.drop (j + 1) := List.drop_eq_getElem_cons hjz'
        rw [ez] at hr2
        injection hr2 with hr2a hr2b
        have a36 : Fw G2 H2 G6 H6 := (a3.trans a5).trans a6
        have g6 : G6 Dl = none := a36.fr Dl hDne gD
        refine ⟨acc, a36.hh _ _ hDl, ?_, G6, j + 1, acc ++ [y], g12.trans a36.gg, ?_, g6, upd_same, ?_, by omega, by omega, fun e => ?_, ?_⟩
        · rw [hacc.len, List.length_take, sizeLine_eq]; omega
        · exact ⟨(f2.trans a36).gg, same_upd2 a36.gh g6, fun b o e => by rw [upd_ne (ne_of_none e hDH)]; exact (f2.trans a36).hh _ _ e, (f2.trans a36).fr⟩
        · rw [List.take_add_one, List.getElem?_eq_getElem hjz']
          refine (hacc.mono a36.gg).append ?_
          rw [hr2a]
          exact .cons hy6 .nil
        · have hl2 := hl'.le
          rw [endLen e] at hl2
          rw [← hr2b, List.length_drop] at hl2
          simp at hl2
          omega
        · rw [hr2b]; exact hl'
      | skip hg ht hl' =>
        refine hg G0 H0 G3 H3 _ x _ ok3 hx3 fun σ4 s4 ok4 => ⟨wipe_sets s4 hts, ht G0 H0 G3 H3 σ4 ok4 _ fun G5 H5 a5 => iteF ?_⟩
        have a36 : Fw G2 H2 G5 H5 := a3.trans a5
        refine ⟨G5, j, acc, g12.trans a36.gg, f2.trans a36, a36.fr Dl hDne gD, a36.hh _ _ hDl, hacc.mono a36.gg, by omega, hjz, fun e => ?_, ?_⟩
        · have hl2 := hl'.le
          rw [endLen e, ← hr2, List.length_drop] at hl2
          simp at hl2
          omega
        · rw [hr2]; exact hl'
    · have e : i = ds.length := by omega
      subst e
      have ej := hend rfl
      subst ej
      rw [List.take_length] at hacc
      exact .inl ⟨wk.stop G2 H2 g12 f2.gh, q Dl acc G2 H2 f2 hDH gD hDl hacc⟩
end DL

namespace DL
open PySem L2
variable {K : PySem.W.Frag} {E : XK} {env env' e1 e2 : EnvD}

/-! ### defs -/
theorem args_get {G H : Hp} : ∀ {vs : List V} {ss : List SD}, Args K G H vs ss → ∀ (i : Nat) (s : SD), ss[i]? = some s → s.isMut = false ∧ ∃ v, vs[i]? = some v ∧ SlOk K G H (some v) s
  | _, _, .nil, i, s, h => by simp at h
  | _, _, .cons m a r, 0, s, h => by simp at h; subst h; exact ⟨m, _, rfl, a⟩
  | _, _, .cons m a r, i + 1, s, h => by
    obtain ⟨m', v, h1, h2⟩ := args_get r i s (by simpa using h)
    exact ⟨m', v, by simpa using h1, h2⟩
/-- the slots at the entry -/
def envOf (N : List Str) (ss : List SD) : EnvD := ss ++ List.replicate (N.length - ss.length) .un
theorem ok_start {G H : Hp} {N : List Str} {vs : List V} {ss : List SD} (gh : Same G H) (h : Args K G H vs ss) : Ok K G H G H (L2.start N vs) (envOf N ss) := by
  have hl := h.len
  have mutNo : ∀ (i : Nat) (s : SD), (envOf N ss)[i]? = some s → s.isMut = true → False := fun i s hi hm => by
    unfold envOf at hi
    by_cases hlt : i < ss.length
    · rw [List.getElem?_append_left hlt] at hi
      have := (args_get h i s hi).1
      rw [this] at hm; cases hm
    · rw [List.getElem?_append_right (by omega), List.getElem?_replicate] at hi
      split at hi
      · cases hi; cases hm
      · cases hi
  refine ⟨gh, Fw.refl gh, ?_, fun i s hi => ?_, fun i s l hi hm _ => (mutNo i s hi hm).elim, fun i j s t l m _ hi _ hm _ _ _ => (mutNo i s hi hm).elim⟩
  · unfold L2.start envOf
    simp only [List.length_append, List.length_map, List.length_replicate]
    omega
  · unfold envOf at hi
    unfold L2.start
    by_cases hlt : i < ss.length
    · rw [List.getElem?_append_left hlt] at hi
      obtain ⟨_, v, h1, h2⟩ := args_get h i s hi
      refine ⟨some v, ?_, h2⟩
      rw [List.getElem?_append_left (by rw [List.length_map]; omega), List.getElem?_map, h1]
      rfl
    · rw [List.getElem?_append_right (by omega), List.getElem?_replicate] at hi
      split at hi
      · cases hi
        refine ⟨none, ?_, trivial⟩
        rw [List.getElem?_append_right (by rw [List.length_map]; omega), List.getElem?_replicate, List.length_map, if_pos (by omega)]
      · cases hi
section
variable {P : Program} {w : World} {mg : Str → Option Value} {base : Heap} {x qual : Str} {st : Stmt} {f : Addr} {fd : FuncData} {N ps : List Str} {k : Nat} {α : Type} {fs : α → List SD} {pre : α → Prop} {fv : α → D} {fl : α → List D} {fo : α → Option D} {C : Value}
abbrev cx0 (P : Program) (w : World) (K : PySem.W.Frag) (mg : Str → Option Value) (base : Heap) (N : List Str) (qual : Str) (st : Stmt) (f : Addr) (cdv : Value) (A : Around) (outer : List Env) (s : Shared) (H : Hp) (E : XK) : Cx := (cxOf CX0 P w K mg base N qual (defScope st) f cdv A outer s H E).nox
abbrev cxX (P : Program) (w : World) (K : PySem.W.Frag) (mg : Str → Option Value) (base : Heap) (N : List Str) (qual : Str) (st : Stmt) (f : Addr) (cdv : Value) (A : Around) (outer : List Env) (s : Shared) (H : Hp) (E : XK) : Cx := cxOf (L2.CX P w) P w K mg base N qual (defScope st) f cdv A outer s H E
/-- a def that hands back data -/
theorem fn_D (F : Fun K x qual st f fd) (S : FnScope N ps (defScope st)) (hn : ∀ a, (fs a).length = ps.length)
    (body : ∀ (cdv : Value) (A : Around) (outer : List Env) (s : Shared) (H : Hp) (E : XK), Room k (A.deeper (PyProof.Rows.envOfC qual (defScope st) s.heap.objs.size f cdv)) →
      ∃ t, PSs (cx0 P w K mg base N qual st f cdv A outer s H E) (defBody st) t ∧ ∀ a, pre a → Run K E t (envOf N (fs a)) (.rt (fv a))) : FnOk P w K mg base CX0 (k + 1) f fd ps (SpD K fs pre fv) := by
  refine F.ok S (fun vs H Q E h => ?_) (fun cdv A outer s H vs Q E hr h => ?_)
  · obtain ⟨a, G, gh, ha, _⟩ := h
    rw [ha.len, hn a]
  · obtain ⟨a, G, gh, ha, hp, q⟩ := h
    obtain ⟨t, h1, h2⟩ := body cdv A outer s H E hr
    exact ⟨t, h1, h2 a hp G H G H _ _ (ok_start gh ha) fun v G' H' fw hv => q v G' H' fw hv⟩
/-- a def that runs to its end: None -/
theorem fn_0 (F : Fun K x qual st f fd) (S : FnScope N ps (defScope st)) (hn : ∀ a, (fs a).length = ps.length)
    (body : ∀ (cdv : Value) (A : Around) (outer : List Env) (s : Shared) (H : Hp) (E : XK), Room k (A.deeper (PyProof.Rows.envOfC qual (defScope st) s.heap.objs.size f cdv)) →
      ∃ t, PSs (cx0 P w K mg base N qual st f cdv A outer s H E) (defBody st) t ∧ ∀ a, pre a → ∃ e, Run K E t (envOf N (fs a)) (.nx e)) : FnOk P w K mg base CX0 (k + 1) f fd ps (SpD K fs pre fun _ => .none) := by
  refine F.ok S (fun vs H Q E h => ?_) (fun cdv A outer s H vs Q E hr h => ?_)
  · obtain ⟨a, G, gh, ha, _⟩ := h
    rw [ha.len, hn a]
  · obtain ⟨a, G, gh, ha, hp, q⟩ := h
    obtain ⟨t, h1, h2⟩ := body cdv A outer s H E hr
    obtain ⟨e, h3⟩ := h2 a hp
    exact ⟨t, h1, h3 G H G H _ _ (ok_start gh ha) fun G' H' σ' ok' => q _ G' H' ok'.fw .non⟩
/-- a def that hands back a new list -/
theorem fn_N (F : Fun K x qual st f fd) (S : FnScope N ps (defScope st)) (hn : ∀ a, (fs a).length = ps.length)
    (body : ∀ (cdv : Value) (A : Around) (outer : List Env) (s : Shared) (H : Hp) (E : XK), Room k (A.deeper (PyProof.Rows.envOfC qual (defScope st) s.heap.objs.size f cdv)) →
      ∃ t, PSs (cx0 P w K mg base N qual st f cdv A outer s H E) (defBody st) t ∧ ∀ a, pre a → Run K E t (envOf N (fs a)) (.rn (fl a))) : FnOk P w K mg base CX0 (k + 1) f fd ps (SpN K fs pre fl) := by
  refine F.ok S (fun vs H Q E h => ?_) (fun cdv A outer s H vs Q E hr h => ?_)
  · obtain ⟨a, G, gh, ha, _⟩ := h
    rw [ha.len, hn a]
  · obtain ⟨a, G, gh, ha, hp, q⟩ := h
    obtain ⟨t, h1, h2⟩ := body cdv A outer s H E hr
    exact ⟨t, h1, h2 a hp G H G H _ _ (ok_start gh ha) fun p xs G' H' fw h0 g' h' hd => q p xs G' H' fw h0 g' h' hd⟩
/-- a def that hands back data or raises -/
theorem fn_X (F : Fun K x qual st f fd) (S : FnScope N ps (defScope st)) (hn : ∀ a, (fs a).length = ps.length)
    (body : ∀ (cdv : Value) (A : Around) (outer : List Env) (s : Shared) (H : Hp) (E : XK), Room k (A.deeper (PyProof.Rows.envOfC qual (defScope st) s.heap.objs.size f cdv)) →
      ∃ t, PSs (cxX P w K mg base N qual st f cdv A outer s H E) (defBody st) t ∧ ∀ a, pre a → (∀ d, fo a = some d → Run K E t (envOf N (fs a)) (.rt d) ∨ (d = .none ∧ ∃ e, Run K E t (envOf N (fs a)) (.nx e))) ∧ (fo a = none → Run K E t (envOf N (fs a)) (.ex C))) :
    FnOk P w K mg base (L2.CX P w) (k + 1) f fd ps (SpX K fs pre C fo) := by
  refine F.okX S (fun vs H Q E h => ?_) (fun cdv A outer s H vs Q E hr h => ?_)
  · obtain ⟨a, G, gh, ha, _⟩ := h
    rw [ha.len, hn a]
  · obtain ⟨a, G, gh, ha, hp, q1, q2⟩ := h
    obtain ⟨t, h1, h2⟩ := body cdv A outer s H E hr
    refine ⟨t, h1, ?_⟩
    obtain ⟨h3, h4⟩ := h2 a hp
    cases e : fo a with
    | none => exact h4 e G H G H _ _ (ok_start gh ha) fun G' H' fw => q2 e G' H' fw
    | some d =>
      rcases h3 d e with h5 | ⟨ed, en, h5⟩
      · exact h5 G H G H _ _ (ok_start gh ha) fun v G' H' fw hv => q1 d e v G' H' fw hv
      · subst ed
        exact h5 G H G H _ _ (ok_start gh ha) fun G' H' σ' ok' => q1 _ e _ G' H' ok'.fw .non
/-- a def that stands in the module's names -/
def Callee (P : Program) (w : World) (K : PySem.W.Frag) (mg : Str → Option Value) (base : Heap) (CX : CXT) (k : Nat) (x : Str) (ps : List Str) (sp : Sp) : Prop :=
  ∃ f fd, FnOk P w K mg base CX k f fd ps sp ∧ mg x = some (.ref f) ∧ PySem.W.keepIn K (.ref f) = true ∧ Binds K fd ps []
end
section
variable {X : Cx} {CX : CXT} {k : Nat} {ps : List Str} {sp : Sp} {x : Str} {p pos : Pos} {e : Expr} {es : List Expr} {t : TA}
theorem pe_c (C : Callee X.prog X.w X.K X.mg X.base CX k x ps sp) (hr : Room k X.A) (hx : Passes CX X E) (ha : PA X (e :: es) t) (hg : Gl X x := by rfl)
    (hdb : (x == ("__debug__" : Str)) = false := by decide) (he : starEach (e :: es) X.env = (false, eval e X.env) :: starEach es X.env := by rfl) (hpl : (backTo pos (starEach es X.env)).any (·.1) = false := by rfl) :
    PE X (.Call (.Name x p) (e :: es) [] pos) (tCall sp [] E t) := by
  obtain ⟨f, fd, F, m, kp, b⟩ := C
  exact pe_call F hr hg m kp b .nil hx ha hdb he hpl
end
/-- // by any divisor but 0, below 2 ^ 9000 -/
def CDivZ (_ j : Int) : Prop := j ≠ 0 ∧ j.natAbs.log2 < 9000
theorem op_fdivZ {X : Cx} : OpR X (binaryOp .FloorDiv) (rI CDivZ fun i j => .int (i.fdiv j)) := opI fun i j _ _ _ _ _ hc q =>
  PyProof.Rows.floordiv_int hc.1 q (.inl (PyProof.noPylong_of_log2 hc.2))
end DL

namespace DL
open PySem L2
variable {K : PySem.W.Frag} {E : XK} {env env' e1 e2 : EnvD}
/-! ### lists, published or not -/
def EvL (K : PySem.W.Frag) (te : TE) (env : EnvD) (ds : List D) : Prop := ∀ (G0 H0 G H : Hp) (σ : L2.St), Ok K G0 H0 G H σ env → ∀ Q : VK, (∀ p xs G' H', Fw G H G' H' → H' p = some (.lst xs) → Dds K G' xs ds → Q (.ref p) H') → te σ H Q
theorem EvD.l {te : TE} {ds : List D} (h : EvD K te env (.list ds)) : EvL K te env ds := fun G0 H0 G H σ ok Q q => h G0 H0 G H σ ok _ fun v G1 H1 a hv => by
  obtain ⟨p, xs, e, hs, hd⟩ := hv.lst_inv
  subst e
  exact q p xs G1 H1 a (a.gh _ _ hs) hd
theorem EvN.l {te : TE} {ds : List D} (h : EvN K te env ds) : EvL K te env ds := fun G0 H0 G H σ ok Q q => h G0 H0 G H σ ok _ fun p xs G1 H1 a _ _ h1 hd => q p xs G1 H1 a h1 hd
theorem EvL.p {te : TE} {ds : List D} (h : EvL K te env ds) : EvP K te env (.list ds) := fun G0 H0 G H σ ok Q q => h G0 H0 G H σ ok _ fun p xs G1 H1 a h1 hd => q _ G1 H1 a (.lst h1 (hd.mono a.gh))
theorem el_var {ds : List D} (i : Nat) (h : env[i]? = some (.ml ds)) : EvL K (tVar i) env ds := fun G0 H0 G H σ ok Q q => by
  obtain ⟨o, h1, l, xs, e, g, hl, hd⟩ := ok.sl i _ h
  subst e
  exact ⟨_, h1, q _ xs G H (Fw.refl ok.gh) hl hd⟩
section
variable {ta tb tc te : TE} {ds es : List D} {i j : Int} {z : D}
theorem ed_ixl (ha : EvL K ta env ds) (hb : EvD K tb env (.int i)) (hz : atI ds i = some z) : EvD K (tOp (rIxL K) ta tb) env z := fun G0 H0 G H σ ok Q q =>
  ha G0 H0 G H σ ok _ fun p xs G1 H1 a h1 hd => hb G0 H0 G1 H1 σ (ok.go a) _ fun u G2 H2 a2 hu => by
    unfold atI at hz
    cases hk : ixN ds.length i with
    | none => rw [hk] at hz; cases hz
    | some k =>
      rw [hk] at hz
      obtain ⟨w, h3, h4⟩ := hd.get (i := k) (d := z) hz
      exact ⟨p, xs, i, w, rfl, hu.int_inv, .inl (.inl (a2.hh _ _ h1)), by unfold atI; rw [hd.len, hk]; exact h3, q w G2 H2 (a.trans a2) (h4.mono a2.gg)⟩
theorem ed_lenl (ha : EvL K ta env ds) : EvD K (tCB (fun xs H Q => ∃ p ys, xs = [.ref p] ∧ (SqL K H p ys ∨ SqT K H p ys) ∧ Q (.int ys.length) H) (tCons ta tNil)) env (.int ds.length) := ed_lenL ha.p
theorem en_cat (ha : EvL K ta env ds) (hb : EvL K tb env es) (hl : ds.length + es.length ≤ 1000000) : EvN K (tOp rCat ta tb) env (ds ++ es) := fun G0 H0 G H σ ok Q q =>
  ha G0 H0 G H σ ok _ fun p xs G1 H1 a h1 hd => hb G0 H0 G1 H1 σ (ok.go a) _ fun u ys G2 H2 a2 h2 he =>
    ⟨p, u, xs, ys, rfl, rfl, a2.hh _ _ h1, h2, by rw [hd.len, he.len, sizeLine_eq]; omega, fun r hr => q r _ G2 _ ((a.trans a2).trans (Fw.hid a2.gh hr)) ((a.trans a2).hh.free hr) (a2.gh.free hr) upd_same ((hd.mono a2.gg).append he)⟩
theorem Dds.rep {G : Hp} {xs : List V} (h : Dds K G xs ds) : ∀ n : Nat, Dds K G (List.replicate n xs).flatten (List.replicate n ds).flatten
  | 0 => .nil
  | n + 1 => by rw [List.replicate_succ, List.replicate_succ, List.flatten_cons, List.flatten_cons]; exact h.append (Dds.rep h n)
theorem en_rep (ha : EvL K ta env ds) (hb : EvD K tb env (.int i)) (hl : ds.length * i.toNat ≤ 1000000 ∧ -1000000 ≤ i ∧ i ≤ 1000000) : EvN K (tOp rRep ta tb) env (List.replicate i.toNat ds).flatten := fun G0 H0 G H σ ok Q q =>
  ha G0 H0 G H σ ok _ fun p xs G1 H1 a h1 hd => hb G0 H0 G1 H1 σ (ok.go a) _ fun u G2 H2 a2 hu =>
    ⟨p, i, xs, rfl, hu.int_inv, a2.hh _ _ h1, by omega, by omega, by rw [hd.len, sizeLine_eq]; omega, fun r hr => q r _ G2 _ ((a.trans a2).trans (Fw.hid a2.gh hr)) ((a.trans a2).hh.free hr) (a2.gh.free hr) upd_same ((hd.mono a2.gg).rep _)⟩
/-- slices -/
def EvO (K : PySem.W.Frag) (to : TO) (env : EnvD) (o : Option Int) : Prop := ∀ (G0 H0 G H : Hp) (σ : L2.St), Ok K G0 H0 G H σ env → ∀ Q : Option Int → Hp → Prop, (∀ G' H', Fw G H G' H' → Q o H') → to σ H Q
theorem eo_none : EvO K tNoPart env none := fun _ _ G H _ ok _ q => q G H (Fw.refl ok.gh)
theorem eo_some (h : EvD K ta env (.int i)) : EvO K (tPart ta) env (some i) := fun G0 H0 G H σ ok Q q => h G0 H0 G H σ ok _ fun v G1 H1 a hv => ⟨i, hv.int_inv, q G1 H1 a⟩
def cutD (xs : List D) (lo hi : Option Int) : List D := (xs.drop (HT.sIx xs.length 0 lo)).take (HT.sIx xs.length xs.length hi - HT.sIx xs.length 0 lo)
theorem en_slice {tl th : TO} {lo hi : Option Int} (ha : EvL K ta env ds) (hl : EvO K tl env lo) (hh : EvO K th env hi) : EvN K (tSl (rSlL K) ta tl th) env (cutD ds lo hi) := fun G0 H0 G H σ ok Q q =>
  ha G0 H0 G H σ ok _ fun p xs G1 H1 a h1 hd => hl G0 H0 G1 H1 σ (ok.go a) _ fun G2 H2 a2 => hh G0 H0 G2 H2 σ ((ok.go a).go a2) _ fun G3 H3 a3 =>
    ⟨p, xs, rfl, .inl (.inl ((a2.trans a3).hh _ _ h1)), fun r hr => q r _ G3 _ (((a.trans a2).trans a3).trans (Fw.hid a3.gh hr)) (((a.trans a2).trans a3).hh.free hr) (a3.gh.free hr) upd_same (by
      unfold cutV cutD
      rw [hd.len]
      exact ((hd.mono (a2.trans a3).gg).drop _).take _)⟩
theorem ed_sum {ns : List Int} (ha : EvL K ta env (ns.map PyData.int)) : EvD K (tCB (rSum K) (tCons ta tNil)) env (.int ns.sum) := fun G0 H0 G H σ ok Q q =>
  ha G0 H0 G H σ ok _ fun p xs G1 H1 a h1 hd => ⟨p, ns, rfl, by rw [← hd.ints_inv]; exact SqL.of h1, q _ G1 H1 a (.int _)⟩
theorem ed_any {bs : List Bool} (ha : EvL K ta env (bs.map PyData.bool)) : EvD K (tCB (rAny K) (tCons ta tNil)) env (.bool (bs.any id)) := fun G0 H0 G H σ ok Q q =>
  ha G0 H0 G H σ ok _ fun p xs G1 H1 a h1 hd => ⟨p, bs, rfl, by rw [← hd.bls_inv]; exact SqL.of h1, q _ G1 H1 a (.bl _)⟩
/-- the script -/
theorem ev_scr {ns : List Int} (i : Nat) (h : env[i]? = some (.scr ns)) : EvV K (tVar i) env (.scr ns) := fun G0 H0 G H σ ok Q q => by
  obtain ⟨o, h1, a, e, hs⟩ := ok.sl i _ h
  subst e
  exact ⟨_, h1, q _ G H (Fw.refl ok.gh) ⟨a, rfl, hs⟩⟩
theorem ed_lenR {ns : List Int} (i : Nat) (h : env[i]? = some (.scr ns)) : EvD K (tCB (fun xs H Q => ∃ p ys, xs = [.ref p] ∧ (SqL K H p ys ∨ SqT K H p ys) ∧ Q (.int ys.length) H) (tCons (tVar i) tNil)) env (.int ns.length) := fun G0 H0 G H σ ok Q q =>
  ev_scr i h G0 H0 G H σ ok _ fun v G1 H1 a hv => by
    obtain ⟨p, e, hs⟩ := hv
    cases e
    refine ⟨p, _, rfl, .inl (a.gh.seq hs), ?_⟩
    rw [List.length_map]
    exact q _ G1 H1 a (.int _)
theorem ed_ixR {ns : List Int} {n : Int} (m : Nat) (h : env[m]? = some (.scr ns)) (hb : EvD K tb env (.int i)) (hz : atI ns i = some n) : EvD K (tOp (rIxL K) (tVar m) tb) env (.int n) := fun G0 H0 G H σ ok Q q =>
  ev_scr m h G0 H0 G H σ ok _ fun v G1 H1 a hv => by
    obtain ⟨p, e, hs⟩ := hv
    cases e
    refine hb G0 H0 G1 H1 σ (ok.go a) _ fun u G2 H2 a2 hu => ⟨p, _, i, .int n, rfl, hu.int_inv, (a.trans a2).gh.seq (a2.gg.seq hs) |> fun z => a2.gh.seq (a2.gg.seq hs), ?_, q _ G2 H2 (a.trans a2) (.int n)⟩
    unfold atI at hz ⊢
    rw [List.length_map]
    cases hk : ixN ns.length i with
    | none => rw [hk] at hz; cases hz
    | some k =>
      rw [hk] at hz
      show (ns.map V.int)[k]? = _
      rw [List.getElem?_map, show ns[k]? = some n from hz]
      rfl
/-- isinstance -/
def tyName : D → String
  | .none => "NoneType"
  | .bool _ => "bool"
  | .int _ => "int"
  | .str _ => "str"
  | .list _ => "list"
  | .tuple _ => "tuple"
  | .dict _ => "dict"
theorem Dd.tyx {H : Hp} {v : V} {d : D} (h : Dd K H v d) : TyX K H v (.type (tyName d)) := by
  cases h with
  | non => exact .base .non
  | bl b => exact .base (.bl b)
  | int i => exact .base (.int i)
  | str x => exact .base (.str x)
  | lst hs _ => exact .base (.lst hs)
  | tup hs _ =>
    rcases hs with (h | ⟨o, h⟩) | ⟨o, its, n, hk, hc, _⟩
    · exact .base (.tup h)
    · exact .fTuple h
    · exact .kTuple hk hc
theorem ed_isi {d : D} {T : String} {b : Bool} (h : EvP K ta env d) (hb : kitB (tyName d) T = some b) : EvD K (tCB (rIsi K) (tCons ta (tCons (tC (.ty T)) tNil))) env (.bool b) := fun G0 H0 G H σ ok Q q =>
  h G0 H0 G H σ ok _ fun v G1 H1 a hv => ⟨v, .ty T, _, _, b, rfl, .ty T, hv.tyx, kit_ty hb, q _ G1 H1 a (.bl b)⟩
theorem ed_isN {d : D} (h : EvP K ta env d) : EvD K (tOp (fun x y H Q => y = .non ∧ Q (.bl (decide (x = .non))) H) ta (tC .non)) env (.bool (match d with | .none => true | _ => false)) := fun G0 H0 G H σ ok Q q =>
  h G0 H0 G H σ ok _ fun v G1 H1 a hv => ⟨rfl, by
    cases hv with
    | non => exact q _ G1 H1 a (.bl true)
    | bl b => exact q _ G1 H1 a (.bl false)
    | int b => exact q _ G1 H1 a (.bl false)
    | str b => exact q _ G1 H1 a (.bl false)
    | lst _ _ => exact q _ G1 H1 a (.bl false)
    | tup _ _ => exact q _ G1 H1 a (.bl false)⟩
theorem ed_notN {d : D} (h : EvP K ta env d) : EvD K (tOp (fun x y H Q => y = .non ∧ Q (.bl (!decide (x = .non))) H) ta (tC .non)) env (.bool (match d with | .none => false | _ => true)) := fun G0 H0 G H σ ok Q q =>
  h G0 H0 G H σ ok _ fun v G1 H1 a hv => ⟨rfl, by
    cases hv with
    | non => exact q _ G1 H1 a (.bl false)
    | bl b => exact q _ G1 H1 a (.bl true)
    | int b => exact q _ G1 H1 a (.bl true)
    | str b => exact q _ G1 H1 a (.bl true)
    | lst _ _ => exact q _ G1 H1 a (.bl true)
    | tup _ _ => exact q _ G1 H1 a (.bl true)⟩
end
/-! ### an if whose test is known -/
theorem run_ifF {tc : TT} {t u : TS} {r : RD} (h : EvT K tc env false) (h2 : Run K E u env r) : Run K E (tIfS tc t u) env r := run_if h (fun z => nomatch z) fun _ => h2
theorem run_ifT {tc : TT} {t u : TS} {r : RD} (h : EvT K tc env true) (h2 : Run K E t env r) : Run K E (tIfS tc t u) env r := run_if h (fun _ => h2) fun z => nomatch z
theorem et_orF {t1 t2 : TT} (h : EvT K t1 env false) (h2 : EvT K t2 env false) : EvT K (tOr t1 t2) env false := et_or h fun _ => h2
theorem et_andF {t1 t2 : TT} (h : EvT K t1 env false) : EvT K (tAnd t1 t2) env false := fun G0 H0 G H σ ok Q q => h G0 H0 G H σ ok _ fun G1 H1 a => iteF (q G1 H1 a)
theorem et_notT {t1 : TT} (h : EvT K t1 env true) : EvT K (tNot t1) env false := et_not h

/-! ### errors -/
/-- a class of errors of the program's own, as the written part has it -/
structure ErrC (K : PySem.W.Frag) (mg : Str → Option Value) (x : Str) (C : Addr) : Prop where
  g : mg x = some (.ref C)
  ex : PySem.W.excIn K C [.type "ValueError", .type "Exception", .type "BaseException", .type "object"] "ValueError.__new__" = true
  kp : PySem.W.keepIn K (.ref C) = true
  sub : PySem.W.subIn K (.ref C) (.type "BaseException") = some true
  ty : PySem.W.typeIn K (.ref C) = some (.type "type")
  own : ExcC K C
  self : PySem.W.subIn K (.ref C) (.ref C) = some true
theorem ErrC.exm {K : PySem.W.Frag} {mg : Str → Option Value} {x : Str} {C : Addr} (F : ErrC K mg x C) : PySem.W.exmOne K (.ref C) (.ref C) = some true := PySem.W.exm_ref F.sub F.own.hd F.ty F.self
theorem ps_err {X : Cx} {W : WX} {x m : Str} {C : Addr} {j : Nat} {p p2 pos pos2 : Pos} (hc : X.calm = true) (tk : Takes X W) (F : ErrC X.K X.mg x C) (hg : Gl X x) (hdb : (x == ("__debug__" : Str)) = false := by decide) :
    PS X (.Raise (some (.Call (.Name x p) [.Constant (.str m) j p2] [] pos)) none pos2) (fun _ σ H => W (.ref C) none σ H) :=
  ps_raise hc tk (pmk_own PySem.F.excBase_ValueError F.ex F.g F.kp (raises_own F.sub F.ty) hg hdb)
theorem run_err {C : Value} : Run K E (fun _ _ H => E C none H) env (.ex C) := fun G0 H0 G H σ D ok q => q G H ok.fw
/-- isinstance(e, T) of the error that a suite holds, its class cls -/
def rIsF (K : PySem.W.Frag) (C a : Addr) (cls : Value) (d : Option Addr) : List V → Hp → VK → Prop := fun xs H Q => cls = .ref C ∧ d = none ∧ rIsE K C a xs H Q
theorem call_isF {X : Cx} {a C : Addr} {oe : Obj} {cls : Value} {d : Option Addr} {pn : List (Addr × Obj)} (F : ExcC X.K C) (hz : Zc cls d oe) (hf : ∃ vs, oe.data = .fields vs) : CallR (X.suite a ((a, oe) :: pn)) (.builtin "isinstance") (rIsF X.K C a cls d) := by
  intro pins s σ H xs us Q I r h
  obtain ⟨e1, e2, h⟩ := h
  subst e1; subst e2
  exact call_isE F hz hf pins s σ H xs us Q I r h
theorem ed_isF {i : Nat} {a C : Addr} {c : V} {cv : Value} {b : Bool} (h : env[i]? = some (.raw (.ref a))) (hc : ∀ u, RelV c u → u = cv) (hk : PySem.W.kitOne K (.ref C) cv = some b) : EvD K (tCB (rIsF K C a (.ref C) none) (tCons (tVar i) (tCons (tC c) tNil))) env (.bool b) := fun G0 H0 G H σ ok Q q =>
  ev_raw i h G0 H0 G H σ ok _ fun v G1 H1 f hv => ⟨rfl, rfl, c, cv, b, by cases hv; rfl, hc, hk, q _ G1 H1 f (.bl b)⟩
def rIsFT (K : PySem.W.Frag) (C a : Addr) (cls : Value) (d : Option Addr) : List V → Hp → VK → Prop := fun xs H Q => cls = .ref C ∧ d = none ∧ ∃ (tp : Addr) (cs : List V) (us : List Value) (b : Bool), xs = [.ref a, .ref tp] ∧ H tp = some (.tup cs) ∧ Paired ClsV cs us ∧ PySem.W.kitAny K (.ref C) us = some b ∧ Q (.bl b) H
theorem call_isFT {X : Cx} {a C : Addr} {oe : Obj} {cls : Value} {d : Option Addr} {pn : List (Addr × Obj)} (F : ExcC X.K C) (hz : Zc cls d oe) (hf : ∃ vs, oe.data = .fields vs) : CallR (X.suite a ((a, oe) :: pn)) (.builtin "isinstance") (rIsFT X.K C a cls d) := by
  intro pins s σ H xs us Q I r h
  obtain ⟨e1, e2, tp, cs, ws, b, rfl, hT, hp, e, q⟩ := h
  subst e1; subst e2
  match us, r with
  | [u1, u2], .cons r1 (.cons r2 .nil) =>
    obtain rfl : u1 = Value.ref a := r1
    obtain rfl : u2 = Value.ref tp := r2
    have hobj := (I.pin (a, oe) (List.mem_append_left _ (List.mem_cons_self))).1
    obtain ⟨fv, hfv⟩ := hf
    have inst : PySem.W.InstAt s.heap a oe C none := by
      cases oe with
      | mk c d da sl =>
        cases hz.1; cases hz.2; cases hfv
        exact ⟨hobj, rfl, rfl, trivial⟩
    obtain ⟨_, its, rv, ot, ht1, ht2, nt, ht3⟩ : ObjOk X.prog X.w H s.heap tp (.tup cs) := I.hok tp _ hT
    cases ot with
    | mk tc td tda tsl =>
      cases ht2; cases ht3
      cases ClsV.all hp rv
      exact PySem.W.kia_tup (PySem.W.handS_kitx_exc F.hg F.hk F.hs F.hd F.ha F.hn F.ht F.hm) I.kIn inst ht1 e (fun z => Value.noConfusion z) fun tk => ⟨V.bl b, H, I.kept (t' := tk) (fun _ _ w => w), rfl, q⟩
theorem ed_isFT2 {i : Nat} {a C : Addr} {c1 c2 : V} {u1 u2 : Value} {b : Bool} (h : env[i]? = some (.raw (.ref a))) (h1 : ClsV c1 u1) (h2 : ClsV c2 u2) (hk : PySem.W.kitAny K (.ref C) [u1, u2] = some b) :
    EvD K (tCB (rIsFT K C a (.ref C) none) (tCons (tVar i) (tCons (tTup (tCons (tC c1) (tCons (tC c2) tNil))) tNil))) env (.bool b) := fun G0 H0 G H σ ok Q q =>
  ev_raw i h G0 H0 G H σ ok _ fun v G1 H1 f hv => ⟨by show 2 ≤ sizeLine; decide, fun p hp => ⟨rfl, rfl, p, [c1, c2], [u1, u2], b, by cases hv; rfl, upd_same, .cons h1 (.cons h2 .nil), hk, q _ _ _ (f.trans (Fw.new f.gh hp)) (.bl b)⟩⟩
section
variable {X : Cx} {CX : CXT} {k : Nat} {ps : List Str} {sp : Sp} {x : Str} {p pos : Pos} {e : Expr} {es : List Expr} {t : TA} {Es : L2.St → XK}
theorem pe_cS (C : Callee X.prog X.w X.K X.mg X.base CX k x ps sp) (hr : Room k X.A) (hx : ∀ σ, PassesAt CX X σ (Es σ)) (ha : PA X (e :: es) t) (hg : Gl X x := by rfl)
    (hdb : (x == ("__debug__" : Str)) = false := by decide) (he : starEach (e :: es) X.env = (false, eval e X.env) :: starEach es X.env := by rfl) (hpl : (backTo pos (starEach es X.env)).any (·.1) = false := by rfl) :
    PE X (.Call (.Name x p) (e :: es) [] pos) (tCallS sp Es t) := by
  obtain ⟨f, fd, F, m, kp, b⟩ := C
  exact pe_callS F hr hg m kp b hx ha hdb he hpl
end
section
variable {α : Type} {fs : α → List SD} {pre : α → Prop} {fo : α → Option D} {C c : Value} {t : TA} {ss : List SD} {i : Nat} {ts : Addr → Value → Option Addr → TS} {Wout : WX}
/-- try: f(..) .. except c as n: suite, f raises, the suite hands back d -/
theorem run_tryR {x : α} {d : D} (h : EvA K t env ss) (e : ss = fs x) (hp : pre x) (hn : fo x = none) (hm : PySem.W.exmOne K C c = some true) (hs : ∀ a, Run K E (ts a C none) (env.set i (.raw (.ref a))) (.rt d)) :
    Run K E (fun D σ H => tDrop (tCallS (SpX K fs pre C fo) (WE (wAs K c i ts Wout D)) t) D σ H) env (.rt d) := fun G0 H0 G H σ D ok q =>
  h G0 H0 G H σ ok _ fun vs G1 H1 a hv => ⟨x, G1, a.gh, by rw [← e]; exact hv, hp, fun z hz => (by rw [hn] at hz; cases hz), fun _ G2 H2 a2 => ⟨true, hm, fun _ b _ => hs b G0 H0 G2 H2 _ _ (((ok.go a).go a2).set i rfl rfl) q, fun z => nomatch z⟩⟩
/-- .. f does not raise -/
theorem run_tryN {x : α} {d : D} (h : EvA K t env ss) (e : ss = fs x) (hp : pre x) (hn : fo x = some d) :
    Run K E (fun D σ H => tDrop (tCallS (SpX K fs pre C fo) (WE (wAs K c i ts Wout D)) t) D σ H) env (.nx env) := fun G0 H0 G H σ D ok q =>
  h G0 H0 G H σ ok _ fun vs G1 H1 a hv => ⟨x, G1, a.gh, by rw [← e]; exact hv, hp, fun z hz v G2 H2 a2 _ => q G2 H2 σ ((ok.go a).go a2), fun z => by rw [hn] at z; cases z⟩
end
end DL
namespace DL
open PySem L2
variable {K : PySem.W.Frag} {E : XK} {env : EnvD}
section
variable {α : Type} {fs : α → List SD} {pre : α → Prop} {fo : α → Option D} {C : Value} {t : TA} {ss : List SD}
/-- return f(..), f raises -/
theorem run_retX {x : α} (h : EvA K t env ss) (e : ss = fs x) (hp : pre x) (hn : fo x = none) : Run K E (tRet (tCall (SpX K fs pre C fo) [] E t)) env (.ex C) := fun G0 H0 G H σ D ok q =>
  h G0 H0 G H σ ok _ fun vs G1 H1 a hv => ⟨x, G1, a.gh, by rw [List.append_nil, ← e]; exact hv, hp, fun z hz => (by rw [hn] at hz; cases hz), fun _ G2 H2 a2 => q G2 H2 ((ok.fw.trans a).trans a2)⟩
/-- f(..) as a statement, f raises -/
theorem run_dropX {x : α} (h : EvA K t env ss) (e : ss = fs x) (hp : pre x) (hn : fo x = none) : Run K E (tDrop (tCall (SpX K fs pre C fo) [] E t)) env (.ex C) := fun G0 H0 G H σ D ok q =>
  h G0 H0 G H σ ok _ fun vs G1 H1 a hv => ⟨x, G1, a.gh, by rw [List.append_nil, ← e]; exact hv, hp, fun z hz => (by rw [hn] at hz; cases hz), fun _ G2 H2 a2 => q G2 H2 ((ok.fw.trans a).trans a2)⟩
end
/-- an error of a callee leaves the def -/
theorem pass_up {P : Program} {w : World} {mg : Str → Option Value} {base : Heap} {N : List Str} {qual : Str} {st : Stmt} {f : Addr} {cdv : Value} {A : Around} {outer : List Env} {s : Shared} {H : Hp} :
    Passes (L2.CX P w) (cxX P w K mg base N qual st f cdv A outer s H E) E := passes_call (takes_of rfl rfl rfl rfl) (fun _ _ _ _ h => h)
theorem Turn1.seq {t u : TS} {e1 e' : EnvD} (h : Run K E t env (.nx e1)) (h' : Turn1 K E u e1 e') : Turn1 K E (tSeq t u) env e' := by
  rcases h' with h' | h'
  · exact .inl (run_seq h h')
  · exact .inr (run_seq h h')
end DL

/-! Defs that ask repr: the guards around them are known to be empty. -/
namespace DL
open PySem L2
variable {K : PySem.W.Frag} {E : XK} {env env' e1 e2 : EnvD}

/-- a def's promise where nothing is being shown -/
structure FnG (P : Program) (w : World) (K : PySem.W.Frag) (mg : Str → Option Value) (base : Heap) (k : Nat) (f : Addr) (fd : FuncData) (ps : List Str) (sp : Sp) : Prop where
  many : ∀ vs H Q E, sp vs H Q E → vs.length = ps.length
  go : ∀ (A : Around) (out : List Env) (st : Shared) (H : Hp) (as : PySem.Args) (us : List Value) (vs : List V) (Q : VK) (E : XK), A.guards = some [] → Room k A → Env0 P w K mg base A out st H → BindsTo st fd as (ps.zip us) → Vals vs us → sp vs H Q E →
    codeAny (model P w) A (.call (.ref f) as) (CR CX0 out P w H st Q E) st
section
variable {P : Program} {w : World} {mg : Str → Option Value} {base : Heap} {x qual : Str} {st : Stmt} {f : Addr} {fd : FuncData} {N ps : List Str} {k : Nat} {sp : Sp}
theorem fn_G (F : Fun K x qual st f fd) (S : FnScope N ps (defScope st)) (len : ∀ vs H Q E, sp vs H Q E → vs.length = ps.length)
    (body : ∀ (cdv : Value) (A : Around) (outer : List Env) (s : Shared) (H : Hp) (vs : List V) (Q : VK) (E : XK), A.guards = some [] → Room k (A.deeper (PyProof.Rows.envOfC qual (defScope st) s.heap.objs.size f cdv)) → sp vs H Q E →
      ∃ t, PSs (cx0 P w K mg base N qual st f cdv A outer s H E) (defBody st) t ∧ t { nx := fun _ H' => Q .non H', rt := Q } (L2.start N vs) H) : FnG P w K mg base (k + 1) f fd ps sp := by
  obtain ⟨oc, od, kV, doc, pm, an, cdv, ct, osl, efd, hlk, hcode⟩ := F.ex
  subst efd
  refine ⟨len, fun A out s0 H as us vs Q E hG hroom env0 hbind hvals hsp => ?_⟩
  have hlen := len _ _ _ _ hsp
  have kin : K.In s0.heap := env0.mod.kin.keeps fun b ob q => (env0.bs b ob q).1
  have nolim : s0.heap.NoLimit := env0.mod.nolimit.keeps fun b ob q => (env0.bs b ob q).1
  have places : ∀ y ∈ ps.zip us, (defScope st).names.lookup y.1 = some .local ∨ ((defScope st).names.lookup y.1 = some .cell ∧ ((cellsFrom (s0.heap.objs.size + 1) (defScope st).names []).lookup y.1).isSome = true) := by
    rintro ⟨nm, val⟩ hy
    rcases S.par nm (List.of_mem_zip hy).1 with c | c
    · exact .inl c
    · exact .inr ⟨c, PySem.W.cellsFrom_some _ _ _ (.inl c)⟩
  refine codeAny_call_function hroom.depth (kin _ _ hlk) rfl S.co S.gen rfl (PySem.W.codeRec_of kin hcode) (hbind _ _ _ _ ?_)
  refine wpAny_newFunctionEnv_cells S.kind places fun ev hev s1 inC => ?_
  subst hev
  refine ⟨nolim.keeps inC.toInCall.keep, codeAny_func ?_⟩
  obtain ⟨t, hps, hq⟩ := body cdv A out s0 H vs Q E hG (hroom.deeper _) hsp
  have J : Inv (cxOf CX0 P w K mg base N qual (defScope st) f cdv A out s0 H E) [] (L2.start N vs) H s1 := inv_start S hroom.hd env0 hlen hvals inC
  refine wpAny_mono (hps.nox.run [] s1 (L2.start N vs) H _ J hq) (fun fl s' hfl => ?_) fun _ _ hx => hx
  match fl, hfl with
  | .ret u, hfl =>
    obtain ⟨v, σ', H', I', rv, qv⟩ := hfl
    exact ⟨v, H', I'.os, I'.bare, I'.base, I'.hok, rv, qv⟩
  | .next, hfl =>
    obtain ⟨σ', H', I', qv⟩ := hfl
    exact ⟨V.non, H', I'.os, I'.bare, I'.base, I'.hok, rfl, qv⟩
  | .brk, hfl => obtain ⟨_, _, _, z⟩ := hfl; exact z.elim
  | .cont, hfl => obtain ⟨_, _, _, z⟩ := hfl; exact z.elim
variable {α : Type} {fs : α → List SD} {pre : α → Prop} {fv : α → D}
theorem fn_GD (F : Fun K x qual st f fd) (S : FnScope N ps (defScope st)) (hn : ∀ a, (fs a).length = ps.length)
    (body : ∀ (cdv : Value) (A : Around) (outer : List Env) (s : Shared) (H : Hp) (E : XK), A.guards = some [] → Room k (A.deeper (PyProof.Rows.envOfC qual (defScope st) s.heap.objs.size f cdv)) →
      ∃ t, PSs (cx0 P w K mg base N qual st f cdv A outer s H E) (defBody st) t ∧ ∀ a, pre a → Run K E t (envOf N (fs a)) (.rt (fv a))) : FnG P w K mg base (k + 1) f fd ps (SpD K fs pre fv) := by
  refine fn_G F S (fun vs H Q E h => ?_) (fun cdv A outer s H vs Q E hG hr h => ?_)
  · obtain ⟨a, G, gh, ha, _⟩ := h
    rw [ha.len, hn a]
  · obtain ⟨a, G, gh, ha, hp, q⟩ := h
    obtain ⟨t, h1, h2⟩ := body cdv A outer s H E hG hr
    exact ⟨t, h1, h2 a hp G H G H _ _ (ok_start gh ha) fun v G' H' fw hv => q v G' H' fw hv⟩
def CalleeG (P : Program) (w : World) (K : PySem.W.Frag) (mg : Str → Option Value) (base : Heap) (k : Nat) (x : Str) (ps : List Str) (sp : Sp) : Prop :=
  ∃ f fd, FnG P w K mg base k f fd ps sp ∧ mg x = some (.ref f) ∧ PySem.W.keepIn K (.ref f) = true ∧ Binds K fd ps []
end
section
variable {X : Cx} {k : Nat} {ps : List Str} {sp : Sp} {x : Str} {p pos : Pos} {e : Expr} {es : List Expr} {t : TA}
theorem pe_cG (C : CalleeG X.prog X.w X.K X.mg X.base k x ps sp) (hG : X.A.guards = some []) (hr : Room k X.A) (ha : PA X (e :: es) t) (hg : Gl X x := by rfl)
    (hdb : (x == ("__debug__" : Str)) = false := by decide) (he : starEach (e :: es) X.env = (false, eval e X.env) :: starEach es X.env := by rfl) (hpl : (backTo pos (starEach es X.env)).any (·.1) = false := by rfl) :
    PE X (.Call (.Name x p) (e :: es) [] pos) (tCall sp [] E0 t) := by
  obtain ⟨f, fd, F, m, kp, b⟩ := C
  constructor
  intro pins s σ H Q I h
  refine wpAny_Call_Name_kw (ld_glob I hg m ?_ hdb)
  refine PySem.W.callWith_K (h₀ := X.base) I.ok.mod.kin kp (thn (ha.run pos pins s σ H _ I h) fun us s1 hh => ?_) he hpl
  obtain ⟨vs, H1, I1, rv, q⟩ := hh
  rw [List.append_nil] at q
  have nArgs : us.length = ps.length := by rw [← rv.length]; exact F.many _ _ _ _ q
  have bnd := b s1 us I1.kIn (by rw [List.append_nil]; exact nArgs)
  rw [List.append_nil] at bnd
  refine ⟨I1.kIn, wpAny_call (codeAny_mono (F.go X.A X.stack s1 H1 ⟨us, []⟩ us vs Q E0 hG hr I1.env0 bnd rv q) fun r s' hq => ?_)⟩
  match r, hq with
  | .ok (.ret u), hq => exact I1.after hq
  | .ok .next, hq => exact hq.elim
  | .ok .brk, hq => exact hq.elim
  | .ok .cont, hq => exact hq.elim
  | .error _, hq => exact hq.elim
/-- repr of data -/
def rRepr (K : PySem.W.Frag) : List V → Hp → VK → Prop := fun xs H Q => ∃ (a : Addr) (d : D), xs = [.ref a] ∧ Dp K H (.ref a) d ∧ d.showable = true ∧ d.hasDict = false ∧ d.depth ≤ 60 ∧ d.shown.length ≤ sizeLine ∧ Q (.str d.shown) H
theorem call_repr (hG : X.A.guards = some []) (hu : X.A.units + 64 < cLine) : CallR X (.builtin "repr") (rRepr X.K) := by
  intro pins s σ H xs us Q I r h
  obtain ⟨a, d, rfl, hd, h1, h2, h3, h4, q⟩ := h
  match us, r with
  | [u], .cons ru .nil =>
    obtain ⟨as, rd⟩ := Dp.reads I d _ u hd ru
    obtain rfl : u = Value.ref a := ru
    exact repr_of_reads' rd h1 (fun z => by rw [h2] at z; cases z) hG (by omega) (fun _ _ z => z) (fun h' w' tk keep => ⟨.str d.shown, H, I.kept (t' := tk) keep, ⟨_, rfl⟩, q⟩) h4
end
/-- the script on the heap behind the top -/
theorem first_heap {P : Program} {w : World} {s1 : Shared} {a : Addr} {vs : List Value} {ns : List Int} (kin : K.In s1.heap) (hobj : s1.heap.get? a = some { cls := .type "list", data := .seq vs.toArray }) (hv : Vals (ns.map V.int) vs) (hn : ns.length ≤ sizeLine) :
    ∃ H : Hp, SqL K H a (ns.map V.int) ∧ HOk P w H s1.heap ∧ (∀ b, H b ≠ none → b = a ∧ K.lookup a = none ∧ ∃ o xs, H b = some (.frz o (.lst xs))) := by
  have hlen := hv.length
  rw [List.length_map] at hlen
  cases hk : K.lookup a with
  | some ob =>
    have same := kin a ob hk
    rw [hobj] at same
    cases same
    exact ⟨fun _ => none, .inr ⟨_, vs.toArray, _, hk, rfl, rfl, rfl, by rw [List.size_toArray, ← hlen]; exact hn, by simpa using hv⟩, fun b u z => by simp at z, fun b z => (z rfl).elim⟩
  | none =>
    refine ⟨fun b => if b = a then some (.frz { cls := .type "list", data := .seq vs.toArray } (.lst (ns.map V.int))) else none, .inl (.inr ⟨_, if_pos rfl⟩), fun b u z => ?_, fun b z => ?_⟩
    · by_cases e : b = a
      · subst e
        obtain rfl := Option.some.inj ((if_pos rfl).symm.trans z)
        exact ⟨hobj, by rw [List.length_map]; exact hn, vs, _, hv, hobj⟩
      · exact absurd ((if_neg e).symm.trans z) (by simp)
    · by_cases e : b = a
      · exact ⟨e, rfl, _, _, if_pos e⟩
      · exact absurd (if_neg e) z
open PySem.W in
theorem law_G {l : OpenLaw} {n k : Nat} {q : Program} {loose : List Str} {XP : (Str → Option Value) → Heap → Prop} {YP : World → Heap → Prop} {d : DefRec} {KK : Params → Frag} {sp : World → Sp} {x : Str}
    (hn : l.most = some n) (hn2 : n ≤ sizeLine) (hdf : d.params.defaults = []) (hroom : Room k callerA)
    (hY : ∀ (w : World) (h : Heap), YP w h → (KK w.params).In h)
    (F : ∀ (w : World) (mg : Str → Option Value) (fa : Addr) (h : Heap), (KK w.params).In h → h.Ns mainGlobals mg → mg d.name = some (.ref fa) →
      ∃ fd : FuncData, (∀ (s : Shared) (u : Value), BindsTo s fd ⟨[u], []⟩ [(x, u)]) ∧ ∀ base : Heap, (KK w.params).In base → base.Ns mainGlobals mg → FnG l.prog w (KK w.params) mg base k fa fd [x] (sp w))
    (hsp : ∀ (w : World) (H : Hp) (a : Addr) (ns : List Int), ns.length ≤ n → SqL (KK w.params) H a (ns.map V.int) → sp w [.ref a] H (fun v _ => v = .bl true) fun _ _ _ => False) :
    WalkO q loose XP YP l.row.toRowW d [] (fun f vs => PySem.call f vs) := by
  refine Att.attach_call hn hdf fun w s0 s1 mg mb fa ob pm cd doc a vs ns G Y hob hfun hcode hname hobj hints hlen hgens => ?_
  have kin := hY w _ Y
  obtain ⟨fd, hbind, hfn⟩ := F w mg fa _ kin G.T.g hname
  have hv : Vals (ns.map V.int) vs := vals_ints hints
  obtain ⟨H, hS, hok, honly⟩ := first_heap (P := l.prog) (w := w) kin hobj hv (Nat.le_trans hlen hn2)
  have low : ∀ {b : Addr} {u : Obj}, s1.heap.get? b = some u → H b = none → (hidT s1.heap H).get? b = some u := fun hb hnone => hidT_get hb hnone
  have noDict : ∀ {b : Addr} {u : Obj} {es : Array DictEntry} {ep : Nat}, s1.heap.get? b = some u → u.data = .dict es ep → H b = none := by
    intro b u es ep hb hd
    by_cases z : H b = none
    · exact z
    · obtain ⟨e, _⟩ := honly b z
      rw [e, hobj] at hb
      cases hb
      cases (show Data.seq vs.toArray _ = Data.dict es ep from hd)
  have space : ∀ {b : Addr} {m : Str → Option Value}, s1.heap.Ns b m → (hidT s1.heap H).Ns b m := by
    rintro b m ⟨u, es, ep, hb, hd, rest⟩
    exact ⟨u, es, ep, low hb (noDict hb hd), hd, rest⟩
  have kinB : (KK w.params).In (hidT s1.heap H) := fun b u hb => low (kin b u hb) (by
    by_cases z : H b = none
    · exact z
    · obtain ⟨e, hk, _⟩ := honly b z
      rw [e, hk] at hb; cases hb)
  have lim : (hidT s1.heap H).NoLimit := by
    obtain ⟨mc, z1, z2⟩ := G.T.nolimit
    exact ⟨mc, space z1, z2⟩
  have M : Mod (KK w.params) mg (hidT s1.heap H) := ⟨kinB, space G.T.g, ⟨mb, space G.T.b, G.T.builtins⟩, lim⟩
  have env0 : Env0 l.prog w (KK w.params) mg (hidT s1.heap H) callerA [] s1 H :=
    ⟨rfl, M, fun b u hb => of_hidT hb, by rw [hidT_size]; exact Nat.le_refl _, trivial, fun b hb => (by cases hb), hok, .of_eq hgens⟩
  refine codeAny_mono ((hfn _ kinB (space G.T.g)).go callerA [] s1 H ⟨[.ref a], []⟩ [.ref a] [.ref a] _ _ rfl hroom env0 (hbind s1 (.ref a)) (.cons rfl .nil) (hsp w H a ns hlen hS)) fun r s' hr => ?_
  match r, hr with
  | .ok (.ret u), hr =>
    obtain ⟨v, H', hos, hbare, un, hok', rv, hv⟩ := hr
    have hv : v = .bl true := hv
    subst hv
    cases rv
    refine ⟨rfl, OldK.of_keep fun b ob hb => ?_, hos, hbare⟩
    by_cases z : H b = none
    · exact un.keep b ob hb z (fun m => (by cases m)) (fun m => (by cases m))
    · obtain ⟨_, _, o2, xs, hz⟩ := honly b z
      have h1 := (hok b _ hz).1
      have h2 := (hok' b _ (un.frzs b o2 _ hz)).1
      rw [hb] at h1
      cases h1
      exact h2
  | .ok .next, hr => exact hr.elim
  | .ok .brk, hr => exact hr.elim
  | .ok .cont, hr => exact hr.elim
  | .error _, hr => exact hr.elim
end DL

/-! Fractions: the mathematics. -/
namespace MX
open PySem L2 DL
/-- a fraction as data -/
abbrev encQ (r : Rat) : PyData := .tuple [.int r.num, .int (r.den : Int)]
/-- by what fraction() divides -/
def sgcd (t l : Int) : Int := if l < 0 then -((Nat.gcd t.natAbs l.natAbs : Nat) : Int) else ((Nat.gcd t.natAbs l.natAbs : Nat) : Int)
theorem gcd_pos {t l : Int} (h : l ≠ 0) : 0 < Nat.gcd t.natAbs l.natAbs := Nat.gcd_pos_of_pos_right _ (by omega)
theorem sgcd_ne {t l : Int} (h : l ≠ 0) : sgcd t l ≠ 0 := by
  have := gcd_pos (t := t) h
  unfold sgcd
  split <;> omega
theorem gcd_dvd_top (t l : Int) : ((Nat.gcd t.natAbs l.natAbs : Nat) : Int) ∣ t := Int.dvd_natAbs.mp (Int.natCast_dvd_natCast.mpr (Nat.gcd_dvd_left _ _))
theorem gcd_dvd_low (t l : Int) : ((Nat.gcd t.natAbs l.natAbs : Nat) : Int) ∣ l := Int.dvd_natAbs.mp (Int.natCast_dvd_natCast.mpr (Nat.gcd_dvd_right _ _))
theorem sgcd_top (t l : Int) : sgcd t l ∣ t := by
  unfold sgcd
  split
  · exact Int.neg_dvd.mpr (gcd_dvd_top t l)
  · exact gcd_dvd_top t l
theorem sgcd_low (t l : Int) : sgcd t l ∣ l := by
  unfold sgcd
  split
  · exact Int.neg_dvd.mpr (gcd_dvd_low t l)
  · exact gcd_dvd_low t l
theorem divInt_parts {t l : Int} (h : l ≠ 0) : (Rat.divInt t l).num = t.fdiv (sgcd t l) ∧ ((Rat.divInt t l).den : Int) = l.fdiv (sgcd t l) := by
  rw [Int.fdiv_eq_ediv_of_dvd (sgcd_top t l), Int.fdiv_eq_ediv_of_dvd (sgcd_low t l)]
  unfold sgcd
  rcases Int.lt_or_gt_of_ne h with hl | hl
  · obtain ⟨d, hd⟩ : ∃ d : Nat, l = Int.negSucc d := ⟨(-l - 1).toNat, by omega⟩
    subst hd
    rw [if_pos hl]
    have e : Rat.divInt t (Int.negSucc d) = Rat.normalize (-t) (d + 1) (by omega) := rfl
    rw [e, Rat.normalize_eq]
    have hn : (Int.negSucc d).natAbs = d + 1 := rfl
    rw [hn]
    have hng : (-t).natAbs = t.natAbs := Int.natAbs_neg t
    have hg : ((t.natAbs.gcd (d + 1) : Nat) : Int) ∣ t := gcd_dvd_top t (Int.negSucc d)
    refine ⟨?_, ?_⟩
    · show -t / (((-t).natAbs.gcd (d + 1) : Nat) : Int) = _
      rw [hng, Int.ediv_neg, Int.neg_ediv_of_dvd hg]
    · show (((d + 1) / ((-t).natAbs.gcd (d + 1)) : Nat) : Int) = _
      rw [hng]
      have : Int.negSucc d = -((d + 1 : Nat) : Int) := rfl
      rw [this, Int.ediv_neg, Int.neg_ediv_of_dvd (by exact_mod_cast Nat.gcd_dvd_right _ _), Int.neg_neg]
      rfl
  · obtain ⟨d, hd⟩ : ∃ d : Nat, l = (d : Int) := ⟨l.toNat, by omega⟩
    subst hd
    rw [if_neg (by omega)]
    have hd0 : d ≠ 0 := by omega
    have e : Rat.divInt t (d : Int) = mkRat t d := rfl
    rw [e, Rat.mkRat_def, dif_neg hd0, Rat.normalize_eq]
    exact ⟨rfl, rfl⟩
/-! ### sizes -/
/-- at most n bits -/
def Bt (n : Nat) (x : Int) : Prop := x.natAbs < 2 ^ n
instance (n : Nat) (x : Int) : Decidable (Bt n x) := by unfold Bt; infer_instance
theorem Bt.zero (n : Nat) : Bt n 0 := Nat.two_pow_pos n
theorem Bt.one {n : Nat} (h : 0 < n) : Bt n 1 := Nat.one_lt_two_pow (by omega)
theorem Bt.mono {n m : Nat} {x : Int} (h : Bt n x) (hm : n ≤ m) : Bt m x := Nat.lt_of_lt_of_le h (Nat.pow_le_pow_right (by decide) hm)
theorem Bt.mul {n m : Nat} {x y : Int} (h : Bt n x) (h' : Bt m y) : Bt (n + m) (x * y) := wide_lt h h'
theorem Bt.add {n : Nat} {x y : Int} (h : Bt n x) (h' : Bt n y) : Bt (n + 1) (x + y) := by
  unfold Bt at *
  have : (x + y).natAbs ≤ x.natAbs + y.natAbs := Int.natAbs_add_le x y
  rw [Nat.pow_succ]
  omega
theorem Bt.neg {n : Nat} {x : Int} (h : Bt n x) : Bt n (-x) := by
  unfold Bt at *
  rw [Int.natAbs_neg]; exact h
theorem Bt.mulx {n m : Nat} {x y : Int} (h : Bt n x) (h' : Bt m y) (hnm : n + m ≤ 134217728) : CMulX x y := mulx_ok h h' hnm
theorem sgcd_abs (t l : Int) : (sgcd t l).natAbs = Nat.gcd t.natAbs l.natAbs := by
  unfold sgcd
  split
  · rw [Int.natAbs_neg, Int.natAbs_natCast]
  · rw [Int.natAbs_natCast]
theorem sgcd_div {t l x : Int} (h : l ≠ 0) (hb : Bt 9000 l) : CDivZ x (sgcd t l) := by
  refine ⟨sgcd_ne h, ?_⟩
  rw [sgcd_abs]
  have h1 : Nat.gcd t.natAbs l.natAbs ≤ l.natAbs := Nat.gcd_le_right _ (by omega)
  have h2 : Nat.gcd t.natAbs l.natAbs < 2 ^ 9000 := Nat.lt_of_le_of_lt h1 hb
  exact PySem.Flt.log2_lt_of (by decide) h2
theorem divInt_num_le (t : Int) {l : Int} (h : l ≠ 0) : (Rat.divInt t l).num.natAbs ≤ t.natAbs := by
  rw [(divInt_parts h).1, Int.fdiv_eq_ediv_of_dvd (sgcd_top t l)]
  have h1 := Int.ediv_mul_cancel (sgcd_top t l)
  have h2 : (t / sgcd t l).natAbs * (sgcd t l).natAbs = t.natAbs := by rw [← Int.natAbs_mul, h1]
  have h3 : 1 ≤ (sgcd t l).natAbs := by have := sgcd_ne (t := t) h; omega
  calc (t / sgcd t l).natAbs = (t / sgcd t l).natAbs * 1 := (Nat.mul_one _).symm
    _ ≤ (t / sgcd t l).natAbs * (sgcd t l).natAbs := Nat.mul_le_mul_left _ h3
    _ = t.natAbs := h2
theorem divInt_den_le (t : Int) {l : Int} (h : l ≠ 0) : (Rat.divInt t l).den ≤ l.natAbs := by
  have e := (divInt_parts (t := t) h).2
  rw [Int.fdiv_eq_ediv_of_dvd (sgcd_low t l)] at e
  have h1 := Int.ediv_mul_cancel (sgcd_low t l)
  have h2 : (l / sgcd t l).natAbs * (sgcd t l).natAbs = l.natAbs := by rw [← Int.natAbs_mul, h1]
  have h3 : 1 ≤ (sgcd t l).natAbs := by have := sgcd_ne (t := t) h; omega
  have h4 : (Rat.divInt t l).den = (l / sgcd t l).natAbs := by rw [← e, Int.natAbs_natCast]
  rw [h4]
  calc (l / sgcd t l).natAbs = (l / sgcd t l).natAbs * 1 := (Nat.mul_one _).symm
    _ ≤ (l / sgcd t l).natAbs * (sgcd t l).natAbs := Nat.mul_le_mul_left _ h3
    _ = l.natAbs := h2
/-- both parts of at most n bits -/
structure Qb (n : Nat) (r : Rat) : Prop where
  num : Bt n r.num
  den : Bt n (r.den : Int)
theorem Qb.mono {n m : Nat} {r : Rat} (h : Qb n r) (hm : n ≤ m) : Qb m r := ⟨h.num.mono hm, h.den.mono hm⟩
theorem qb_divInt {n : Nat} {t l : Int} (h : l ≠ 0) (ht : Bt n t) (hl : Bt n l) : Qb n (Rat.divInt t l) :=
  ⟨Nat.lt_of_le_of_lt (divInt_num_le t h) ht, by show ((_ : Nat) : Int).natAbs < _; rw [Int.natAbs_natCast]; exact Nat.lt_of_le_of_lt (divInt_den_le t h) hl⟩
theorem den_ne (r : Rat) : (r.den : Int) ≠ 0 := by have := r.den_nz; omega
/-- what plus, times, over, is_less reckon -/
theorem add_is (p q : Rat) : Rat.divInt (p.num * q.den + q.num * p.den) (p.den * q.den) = p + q := by
  have h := Rat.divInt_add_divInt p.num q.num (den_ne p) (den_ne q)
  rw [Rat.num_divInt_den, Rat.num_divInt_den] at h
  exact h.symm
theorem mul_is (p q : Rat) : Rat.divInt (p.num * q.num) (p.den * q.den) = p * q := by
  have h := Rat.divInt_mul_divInt p.num q.num (d₁ := p.den) (d₂ := q.den)
  rw [Rat.num_divInt_den, Rat.num_divInt_den] at h
  exact h.symm
theorem lt_is (p q : Rat) : decide (p.num * q.den < q.num * p.den) = decide (p < q) := by
  by_cases h : p < q
  · rw [decide_eq_true h, decide_eq_true ((Rat.lt_iff p q).mp h)]
  · rw [decide_eq_false h, decide_eq_false (fun z => h ((Rat.lt_iff p q).mpr z))]
theorem num_is (p : Rat) : p = (p.num : Rat) / ((p.den : Int) : Rat) := by
  have h := Rat.num_divInt_den p
  rw [Rat.divInt_eq_div] at h
  exact h.symm
theorem div_is (p q : Rat) (hq : q ≠ 0) : Rat.divInt (p.num * q.den) (p.den * q.num) = p / q := by
  rw [Rat.divInt_eq_div]
  have h1 := num_is p
  have h2 := num_is q
  have hp : ((p.den : Int) : Rat) ≠ 0 := fun z => den_ne p (Rat.intCast_inj.mp z)
  have hd : ((q.den : Int) : Rat) ≠ 0 := fun z => den_ne q (Rat.intCast_inj.mp z)
  have hn : (q.num : Rat) ≠ 0 := by
    intro z
    rw [z] at h2
    exact hq (h2.trans (by grind))
  rw [Rat.intCast_mul, Rat.intCast_mul]
  generalize hA : (p.num : Rat) = A at *
  generalize hB : ((p.den : Int) : Rat) = B at *
  generalize hC : (q.num : Rat) = C at *
  generalize hD : ((q.den : Int) : Rat) = F at *
  rw [h1, h2]
  grind
theorem qb_add {n : Nat} {p q : Rat} (hp : Qb n p) (hq : Qb n q) : Qb (2 * n + 1) (p + q) := by
  rw [← add_is]
  refine qb_divInt ?_ ?_ ?_
  · exact Int.mul_ne_zero (den_ne p) (den_ne q)
  · exact ((hp.num.mul hq.den).add (hq.num.mul hp.den)).mono (by omega)
  · exact (hp.den.mul hq.den).mono (by omega)
theorem qb_mul {n : Nat} {p q : Rat} (hp : Qb n p) (hq : Qb n q) : Qb (2 * n) (p * q) := by
  rw [← mul_is]
  exact qb_divInt (Int.mul_ne_zero (den_ne p) (den_ne q)) ((hp.num.mul hq.num).mono (by omega)) ((hp.den.mul hq.den).mono (by omega))
end MX

namespace MX
open PySem L2 DL
/-! ### the law's own gcd -/
def eu (a b : Nat) : Nat → Nat × Nat
  | 0 => (a, b)
  | i + 1 => ((eu a b i).2, (eu a b i).1 % (eu a b i).2)
theorem eu_gcd (a b : Nat) : ∀ i, Nat.gcd (eu a b i).1 (eu a b i).2 = Nat.gcd a b
  | 0 => rfl
  | i + 1 => by
    show Nat.gcd (eu a b i).2 ((eu a b i).1 % (eu a b i).2) = _
    rw [Nat.gcd_comm, ← Nat.gcd_rec, Nat.gcd_comm]
    exact eu_gcd a b i
theorem eu_shift (a b : Nat) : ∀ i, eu a b (i + 1) = eu b (a % b) i
  | 0 => rfl
  | i + 1 => by
    show ((eu a b (i + 1)).2, (eu a b (i + 1)).1 % (eu a b (i + 1)).2) = ((eu b (a % b) i).2, _)
    rw [eu_shift a b i]
def sz (n : Nat) : Nat := if n = 0 then 0 else n.log2 + 1
theorem sz_double {r a : Nat} (h : 2 * r ≤ a) (ha : 0 < a) : sz r + 1 ≤ sz a := by
  have e1 : sz a = a.log2 + 1 := by unfold sz; rw [if_neg (by omega)]
  rw [e1]
  by_cases hr : r = 0
  · subst hr; unfold sz; rw [if_pos rfl]; omega
  · have e2 : sz r = r.log2 + 1 := by unfold sz; rw [if_neg hr]
    rw [e2]
    have : (2 * r).log2 = r.log2 + 1 := Nat.log2_two_mul hr
    have h2 : (2 * r).log2 ≤ a.log2 := by
      have h3 : 2 ^ (2 * r).log2 ≤ 2 * r := Nat.log2_self_le (by omega)
      have h4 : a < 2 ^ (a.log2 + 1) := Nat.lt_log2_self
      have h5 : (2 * r).log2 < a.log2 + 1 := (Nat.pow_lt_pow_iff_right (by decide)).mp (Nat.lt_of_le_of_lt (Nat.le_trans h3 h) h4)
      omega
    omega
theorem eu_end : ∀ (n a b : Nat), b ≤ a → sz a + sz b ≤ n → ∃ k, k ≤ n ∧ (eu a b k).2 = 0
  | n, a, 0, _, _ => ⟨0, Nat.zero_le _, rfl⟩
  | 0, a, b + 1, h, hn => by
    have : 0 < sz (b + 1) := by unfold sz; rw [if_neg (by omega)]; omega
    omega
  | n + 1, a, b + 1, h, hn => by
    have hr : a % (b + 1) < b + 1 := Nat.mod_lt _ (by omega)
    have h2 : 2 * (a % (b + 1)) ≤ a := by
      have e := Nat.div_add_mod a (b + 1)
      have q : 1 ≤ a / (b + 1) := (Nat.le_div_iff_mul_le (by omega)).mpr (by omega)
      have : (b + 1) * 1 ≤ (b + 1) * (a / (b + 1)) := Nat.mul_le_mul_left _ q
      omega
    have h3 := sz_double h2 (by omega)
    obtain ⟨k, hk, e⟩ := eu_end n (b + 1) (a % (b + 1)) (by omega) (by omega)
    exact ⟨k + 1, by omega, by rw [eu_shift]; exact e⟩
theorem eu_stop (a b : Nat) : ∃ k, k ≤ sz a + sz b + 1 ∧ (eu a b k).2 = 0 := by
  by_cases h : b ≤ a
  · obtain ⟨k, h1, h2⟩ := eu_end _ a b h (Nat.le_refl _)
    exact ⟨k, by omega, h2⟩
  · have e : a % b = a := Nat.mod_eq_of_lt (by omega)
    obtain ⟨k, h1, h2⟩ := eu_end (sz b + sz a) b a (by omega) (by omega)
    exact ⟨k + 1, by omega, by rw [eu_shift, e]; exact h2⟩
/-- the first turn at which b is 0 -/
theorem eu_first (a b : Nat) : ∃ k, k ≤ sz a + sz b + 1 ∧ (eu a b k).2 = 0 ∧ (∀ i, i < k → (eu a b i).2 ≠ 0) ∧ (eu a b k).1 = Nat.gcd a b := by
  obtain ⟨m, hm, hz⟩ := eu_stop a b
  have key : ∀ n, (∃ k, k ≤ n ∧ (eu a b k).2 = 0) → ∃ k, k ≤ n ∧ (eu a b k).2 = 0 ∧ ∀ i, i < k → (eu a b i).2 ≠ 0 := by
    intro n
    induction n with
    | zero => rintro ⟨k, h1, h2⟩; exact ⟨k, h1, h2, fun i hi => by omega⟩
    | succ n ih =>
      rintro ⟨k, h1, h2⟩
      by_cases h : ∃ k, k ≤ n ∧ (eu a b k).2 = 0
      · obtain ⟨j, a1, a2, a3⟩ := ih h
        exact ⟨j, by omega, a2, a3⟩
      · exact ⟨k, h1, h2, fun i hi z => h ⟨i, by omega, z⟩⟩
  obtain ⟨k, h1, h2, h3⟩ := key m ⟨m, Nat.le_refl _, hz⟩
  refine ⟨k, by omega, h2, h3, ?_⟩
  have := eu_gcd a b k
  rw [h2, Nat.gcd_zero_right] at this
  exact this
theorem bits_sz (x : Int) : Builtin.Int.intBits x = sz x.natAbs := by
  unfold Builtin.Int.intBits sz
  by_cases h : x = 0
  · subst h; rfl
  · rw [if_neg (by simpa using h), if_neg (by omega)]
/-! ### the law's draws -/
def dstep (free : Bool) (s : Int × Int) (lim : Int) : (Int × Int) × Int :=
  if (free && decide (1 < s.1)) = true then ((s.1.fdiv lim, s.2), s.1.fmod lim)
  else ((s.1, (((s.2 * 48271 + 11).fmod 2147483647) * 69621 + 7).fmod 2147483647), (((((s.2 * 48271 + 11).fmod 2147483647) * 69621 + 7).fmod 2147483647).fdiv 13).fmod lim)
def dst (free : Bool) : Int × Int → List Int → Int × Int
  | s, [] => s
  | s, l :: ls => dst free (dstep free s l).1 ls
def drun (free : Bool) : Int × Int → List Int → List Int
  | _, [] => []
  | s, l :: ls => (dstep free s l).2 :: drun free (dstep free s l).1 ls
theorem dst_snoc (free : Bool) : ∀ (ls : List Int) (s : Int × Int) (l : Int), dst free s (ls ++ [l]) = (dstep free (dst free s ls) l).1
  | [], _, _ => rfl
  | _ :: ls, s, l => dst_snoc free ls _ l
theorem drun_snoc (free : Bool) : ∀ (ls : List Int) (s : Int × Int) (l : Int), drun free s (ls ++ [l]) = drun free s ls ++ [(dstep free (dst free s ls) l).2]
  | [], _, _ => rfl
  | a :: ls, s, l => congrArg (_ :: ·) (drun_snoc free ls _ l)
theorem drun_len (free : Bool) : ∀ (ls : List Int) (s : Int × Int), (drun free s ls).length = ls.length
  | [], _ => rfl
  | _ :: ls, _ => congrArg (· + 1) (drun_len free ls _)
theorem fmod_bd {x y : Int} (h : 0 < y) : 0 ≤ x.fmod y ∧ x.fmod y < y := ⟨Int.fmod_nonneg_of_pos x h, Int.fmod_lt_of_pos x h⟩
theorem dstep_bd (free : Bool) (s : Int × Int) {l : Int} (h : 0 < l) : 0 ≤ (dstep free s l).2 ∧ (dstep free s l).2 < l := by
  unfold dstep
  split
  · exact fmod_bd h
  · exact fmod_bd h
theorem drun_bd (free : Bool) : ∀ (ls : List Int) (s : Int × Int) (i : Nat) (x l : Int), (∀ l ∈ ls, 0 < l) → (drun free s ls)[i]? = some x → ls[i]? = some l → 0 ≤ x ∧ x < l
  | [], _, _, _, _, _, _, h => by simp at h
  | a :: ls, s, 0, x, l, hp, hx, hl => by
    have e1 : (dstep free s a).2 = x := by simpa [drun] using hx
    have e2 : a = l := by simpa using hl
    subst e1; subst e2
    exact dstep_bd free s (hp _ (List.mem_cons_self))
  | a :: ls, s, i + 1, x, l, hp, hx, hl => drun_bd free ls _ i x l (fun z hz => hp z (List.mem_cons_of_mem _ hz)) (by simpa [drun] using hx) (by simpa using hl)
theorem dst_bd (free : Bool) : ∀ (ls : List Int) (s : Int × Int), 0 ≤ s.2 → s.2 < 2147483647 → 0 ≤ (dst free s ls).2 ∧ (dst free s ls).2 < 2147483647
  | [], _, h1, h2 => ⟨h1, h2⟩
  | l :: ls, s, h1, h2 => by
    refine dst_bd free ls _ ?_ ?_
    · unfold dstep
      split
      · exact h1
      · exact (fmod_bd (by decide)).1
    · unfold dstep
      split
      · exact h2
      · exact (fmod_bd (by decide)).2
def absI (x : Int) : Int := if x < 0 then -x else x
def freeF (cell : Int) : Bool := decide (cell < 0) || decide (10 ^ 18 ≤ cell)
def drawsF (cell : Int) (ls : List Int) : List Int := drun (freeF cell) (absI cell, (absI cell).fmod 2147483647) ls
theorem drawsF_len (cell : Int) (ls : List Int) : (drawsF cell ls).length = ls.length := drun_len _ _ _
/-- the i-th draw -/
theorem drawsF_at (cell : Int) {ls : List Int} {i : Nat} {l : Int} (hp : ∀ l ∈ ls, 0 < l) (h : ls[i]? = some l) : ∃ x, (drawsF cell ls)[i]? = some x ∧ 0 ≤ x ∧ x < l := by
  have hi : i < (drawsF cell ls).length := by rw [drawsF_len]; exact (List.getElem?_eq_some_iff.mp h).1
  exact ⟨_, List.getElem?_eq_getElem hi, drun_bd _ _ _ _ _ _ hp (List.getElem?_eq_getElem hi) h⟩
def cellF (ns : List Int) (k : Int) : Int := if k < (ns.length : Int) then ns.getD k.toNat 0 else 0
theorem atI_int {α : Type} {xs : List α} {k : Int} {x : α} (h0 : 0 ≤ k) (h : xs[k.toNat]? = some x) : atI xs k = some x := by
  have hk := (List.getElem?_eq_some_iff.mp h).1
  unfold atI ixN
  rw [if_pos h0, if_pos (by omega)]
  exact h
theorem cell_at {ns : List Int} {k : Int} (h0 : 0 ≤ k) (h : k < (ns.length : Int)) : atI ns k = some (cellF ns k) := by
  refine atI_int h0 ?_
  unfold cellF
  rw [if_pos h, List.getD_eq_getElem?_getD, List.getElem?_eq_getElem (by omega)]
  rfl
theorem rgc_up {j c : Int} (h0 : 0 ≤ j) (h1 : j ≤ 1000000) (h2 : 0 < c) (h3 : c ≤ 1000000) : RgC 0 j c (Builtin.Range.rangeSize 0 j c).toNat := by
  have e : Builtin.Range.rangeSize 0 j c = if 0 < j then (j - 1) / c + 1 else 0 := by
    unfold Builtin.Range.rangeSize
    rw [if_pos h2]
    by_cases h : 0 < j
    · rw [if_pos h, if_pos h, Int.sub_zero]
    · rw [if_neg h, if_neg h]
  have hd : 0 ≤ (j - 1) / c ∨ j ≤ 0 := by
    by_cases h : 0 < j
    · exact .inl (Int.ediv_nonneg (by omega) (by omega))
    · exact .inr (by omega)
  have hd2 : 0 < j → (j - 1) / c ≤ j - 1 := fun h => Int.ediv_le_self _ (by omega)
  have hs : 0 ≤ Builtin.Range.rangeSize 0 j c ∧ Builtin.Range.rangeSize 0 j c ≤ 1000001 := by
    rw [e]; split <;> omega
  refine ⟨by omega, by omega, ?_, (Int.toNat_of_nonneg hs.1).symm⟩
  unfold Builtin.Range.small Builtin.Range.rangeFitsLong
  generalize Builtin.Range.rangeSize 0 j c = z at hs ⊢
  rw [if_pos h2]
  simp only [Bool.and_eq_true, Bool.or_eq_true, decide_eq_true_eq]
  exact ⟨⟨⟨⟨by omega, by omega⟩, by omega⟩, by omega⟩, .inr (by omega)⟩
theorem kit_tt : kitB "tuple" "tuple" = some true := by decide +kernel
theorem kit_ib : kitB "int" "bool" = some false := by decide +kernel
theorem kit_bb : kitB "bool" "bool" = some true := by decide +kernel
theorem kit_ll : kitB "list" "list" = some true := by decide +kernel
theorem bit1 (x : Int) : Builtin.bitAnd x 1 = x % 2 := PySem.W.kbt_mask x 1
/-- the sign that a law draws -/
def sgnF (x : Int) : Int := if x % 2 = 0 then 1 else -1
theorem sgn_at (x : Int) : atI [PyData.int 1, PyData.int (-1)] (Builtin.bitAnd x 1) = some (.int (sgnF x)) := by
  rw [bit1]
  unfold sgnF
  have h1 : x % 2 = 0 ∨ x % 2 = 1 := by omega
  rcases h1 with h | h
  · rw [h]; rfl
  · rw [h]; rfl
theorem atI_map {ns : List Int} {i : Nat} {x : Int} (h : ns[i]? = some x) : atI (ns.map PyData.int) (i : Int) = some (.int x) := by
  refine atI_int (by omega) ?_
  rw [Int.toNat_natCast, List.getElem?_map, h]
  rfl
theorem bt_range {n : Nat} {x : Int} (h0 : -(2 ^ n) < x) (h1 : x < 2 ^ n) : Bt n x := by
  have e : ((2 ^ n : Nat) : Int) = 2 ^ n := by norm_cast
  show x.natAbs < 2 ^ n
  omega
end MX

/-! Dicts that a body makes. -/
namespace DL
open PySem L2
variable {K : PySem.W.Frag} {E : XK} {env env' e1 e2 : EnvD}
def lkD (kvs : List (Key × D)) (k : Key) : Option D := (kvs.find? fun p => decide (p.1 = k)).map (·.2)
def putD (kvs : List (Key × D)) (k : Key) (d : D) : List (Key × D) := if (kvs.any fun p => decide (p.1 = k)) = true then kvs.map (fun p => if p.1 = k then (p.1, d) else p) else kvs ++ [(k, d)]
/-- values at the keys -/
inductive Kds (K : PySem.W.Frag) (G : Hp) : List (Key × V) → List (Key × D) → Prop
  | nil : Kds K G [] []
  | cons {k : Key} {v : V} {d : D} {a : List (Key × V)} {b : List (Key × D)} : Dd K G v d → Kds K G a b → Kds K G ((k, v) :: a) ((k, d) :: b)
theorem Kds.of {G : Hp} : ∀ {a : List (Key × V)} {b : List (Key × D)}, a.map (·.1) = b.map (·.1) → Dds K G (a.map (·.2)) (b.map (·.2)) → Kds K G a b
  | [], [], _, _ => .nil
  | (k, v) :: a, (k', d) :: b, hk, hd => by
    have e : k = k' := (List.cons.inj hk).1
    subst e
    cases hd with
    | cons h hs => exact .cons h (Kds.of (List.cons.inj hk).2 hs)
  | [], _ :: _, hk, _ => by cases hk
  | _ :: _, [], hk, _ => by cases hk
theorem Kds.keys {G : Hp} : ∀ {a : List (Key × V)} {b : List (Key × D)}, Kds K G a b → a.map (·.1) = b.map (·.1)
  | _, _, .nil => rfl
  | _, _, .cons _ h => by rw [List.map_cons, List.map_cons, h.keys]
theorem Kds.vals {G : Hp} : ∀ {a : List (Key × V)} {b : List (Key × D)}, Kds K G a b → Dds K G (a.map (·.2)) (b.map (·.2))
  | _, _, .nil => .nil
  | _, _, .cons h hs => .cons h hs.vals
theorem Kds.mono {G G' : Hp} (e : Same G G') : ∀ {a : List (Key × V)} {b : List (Key × D)}, Kds K G a b → Kds K G' a b
  | _, _, .nil => .nil
  | _, _, .cons h hs => .cons (h.mono e) (hs.mono e)
theorem Kds.lk {G : Hp} {k : Key} : ∀ {a : List (Key × V)} {b : List (Key × D)}, Kds K G a b → (valV a k = none ∧ lkD b k = none) ∨ ∃ v d, valV a k = some v ∧ lkD b k = some d ∧ Dd K G v d
  | _, _, .nil => .inl ⟨rfl, rfl⟩
  | _, _, .cons (k := j) (v := v) (d := d) h hs => by
    by_cases e : j = k
    · exact .inr ⟨v, d, by simp [valV, List.find?_cons, e], by simp [lkD, List.find?_cons, e], h⟩
    · rcases hs.lk (k := k) with ⟨a1, a2⟩ | ⟨v', d', a1, a2, a3⟩
      · exact .inl ⟨by unfold valV at *; rw [List.find?_cons_of_neg (by simpa using e)]; exact a1, by unfold lkD at *; rw [List.find?_cons_of_neg (by simpa using e)]; exact a2⟩
      · exact .inr ⟨v', d', by unfold valV at *; rw [List.find?_cons_of_neg (by simpa using e)]; exact a1, by unfold lkD at *; rw [List.find?_cons_of_neg (by simpa using e)]; exact a2, a3⟩
theorem Kds.any {G : Hp} {k : Key} : ∀ {a : List (Key × V)} {b : List (Key × D)}, Kds K G a b → (a.any fun p => decide (p.1 = k)) = (b.any fun p => decide (p.1 = k))
  | _, _, .nil => rfl
  | _, _, .cons _ hs => by rw [List.any_cons, List.any_cons, hs.any]
theorem Kds.upd {G : Hp} {k : Key} {v : V} {d : D} (hv : Dd K G v d) : ∀ {a : List (Key × V)} {b : List (Key × D)}, Kds K G a b → Kds K G (a.map fun p => if p.1 = k then (p.1, v) else p) (b.map fun p => if p.1 = k then (p.1, d) else p)
  | _, _, .nil => .nil
  | _, _, .cons (k := j) h hs => by
    rw [List.map_cons, List.map_cons]
    by_cases e : j = k
    · rw [if_pos e, if_pos e]; exact .cons hv (Kds.upd hv hs)
    · rw [if_neg e, if_neg e]; exact .cons h (Kds.upd hv hs)
theorem Kds.app {G : Hp} : ∀ {a a' : List (Key × V)} {b b' : List (Key × D)}, Kds K G a b → Kds K G a' b' → Kds K G (a ++ a') (b ++ b')
  | _, _, _, _, .nil, h => h
  | _, _, _, _, .cons h hs, h' => .cons h (hs.app h')
theorem Kds.put {G : Hp} {k : Key} {v : V} {d : D} {a : List (Key × V)} {b : List (Key × D)} (h : Kds K G a b) (hv : Dd K G v d) : Kds K G (putK a k v) (putD b k d) := by
  unfold putK putD
  rw [h.any]
  split
  · exact h.upd hv
  · exact h.app (.cons hv .nil)
theorem Kds.len {G : Hp} {a : List (Key × V)} {b : List (Key × D)} (h : Kds K G a b) : a.length = b.length := by
  have := congrArg List.length h.keys
  simpa using this
theorem Ok.dict {G0 H0 G H : Hp} {σ : L2.St} {i : Nat} {kvs : List (Key × D)} (ok : Ok K G0 H0 G H σ env) (h : env[i]? = some (.md kvs)) : ∃ l kv, σ[i]? = some (some (.ref l)) ∧ G l = none ∧ H l = some (.dK kv) ∧ Kds K G kv kvs := by
  obtain ⟨o, h1, l, kv, e, g, hl, hk, hd⟩ := ok.sl i _ h
  subst e
  exact ⟨l, kv, h1, g, hl, Kds.of hk hd⟩
theorem run_setD {i : Nat} : Run K E (tAsg tDNewK (gName i)) env (.nx (env.set i (.md []))) := fun G0 H0 G H σ D ok q p hp =>
  q G _ _ ((ok.go (Fw.hid ok.gh hp)).setMut i ⟨p, [], rfl, ok.gh.free hp, upd_same, rfl, .nil⟩ (ok.fw.hh.free hp) fun j t l hj hm hs e => (ok.mutAt hj hm hs).2 (by rw [e]; exact hp))
section
variable {ty tx tv : TE} {n : Int} {z d : D} {i : Nat} {kvs : List (Key × D)}
theorem ed_dget2 (h : env[i]? = some (.md kvs)) (hy : EvD K ty env (.int n)) (hx : EvD K tx env z) : EvD K (tDGet2 (tVar i) ty tx) env ((lkD kvs (.inl n)).getD z) := fun G0 H0 G H σ ok Q q => by
  obtain ⟨l, kv, h1, g, hl, hk⟩ := ok.dict h
  refine ⟨_, h1, l, rfl, .inl ⟨kv, .inl hl⟩, hy G0 H0 G H σ ok _ fun v G1 H1 a hv => hx G0 H0 G1 H1 σ (ok.go a) _ fun u G2 H2 a2 hu => ?_⟩
  refine ⟨valV kv (.inl n), by rw [hv.int_inv]; exact DGet.k (k := .inl n) ((a.trans a2).hh _ _ hl), ?_⟩
  rcases (hk.mono (a.trans a2).gg).lk (k := .inl n) with ⟨e1, e2⟩ | ⟨v', d', e1, e2, e3⟩
  · rw [e1]
    exact q u G2 H2 (a.trans a2) (by rw [e2]; exact hu)
  · rw [e1]
    exact q v' G2 H2 (a.trans a2) (by rw [e2]; exact e3)
theorem ed_dget (h : env[i]? = some (.md kvs)) (hy : EvD K ty env (.int n)) (hz : lkD kvs (.inl n) = some d) : EvD K (tDGet (tVar i) ty) env d := fun G0 H0 G H σ ok Q q => by
  obtain ⟨l, kv, h1, g, hl, hk⟩ := ok.dict h
  refine ⟨_, h1, hy G0 H0 G H σ ok _ fun v G1 H1 a hv => ?_⟩
  rcases (hk.mono a.gg).lk (k := .inl n) with ⟨e1, e2⟩ | ⟨v', d', e1, e2, e3⟩
  · rw [hz] at e2; cases e2
  · rw [hz] at e2; cases e2
    exact ⟨l, v', rfl, by rw [hv.int_inv, ← e1]; exact DGet.k (k := .inl n) (a.hh _ _ hl), q v' G1 H1 a e3⟩
theorem run_dput (h : env[i]? = some (.md kvs)) (hv : EvD K tv env d) (hy : EvD K ty env (.int n)) (hlen : kvs.length < 1000000) : Run K E (sDPut (tVar i) ty tv) env (.nx (env.set i (.md (putD kvs (.inl n) d)))) := fun G0 H0 G H σ D ok q => by
  obtain ⟨l, kv, h1, g, hl, hk⟩ := ok.dict h
  refine hv G0 H0 G H σ ok _ fun v G1 H1 a hv1 => ⟨_, h1, hy G0 H0 G1 H1 σ (ok.go a) _ fun u G2 H2 a2 hu => ⟨l, upd H2 l (.dK (putK kv (.inl n) v)), rfl, by rw [hu.int_inv]; exact DPut.k (k := .inl n) ((a.trans a2).hh _ _ hl) (by rw [hk.len, sizeLine_eq]; omega), ?_⟩⟩
  have ok2 := (ok.go a).go a2
  have g2 : G2 l = none := (a.trans a2).fr l (by rw [hl]; simp) g
  have hp := (hk.mono (a.trans a2).gg).put (k := .inl n) (hv1.mono a2.gg)
  exact q G2 _ σ (ok2.write h rfl h1 ⟨l, _, rfl, g2, upd_same, hp.keys, hp.vals⟩ rfl)
theorem en_sortedD {ks zs : List Int} (h : env[i]? = some (.md kvs)) (hk : kvs.map (·.1) = ks.map Sum.inl) (hl : ks.length < 64) (hz : ∀ ys : List Int, ys.Perm ks → ys.Pairwise (· ≤ ·) → ys = zs) :
    EvN K (tCB (fun xs H Q => ∃ (a : Addr) (kvs : List (Key × V)) (ks : List Int), xs = [.ref a] ∧ Rd H a (.dK kvs) ∧ kvs.map (·.1) = ks.map Sum.inl ∧ ks.length < 64 ∧ ∀ (ys : List Int) (p : Addr), ys.Perm ks → ys.Pairwise (· ≤ ·) → H p = none → Q (.ref p) (upd H p (.lst (ys.map V.int)))) (tCons (tVar i) tNil)) env (zs.map PyData.int) := fun G0 H0 G H σ ok Q q => by
  obtain ⟨l, kv, h1, g, hl0, hkd⟩ := ok.dict h
  refine ⟨_, h1, l, kv, ks, rfl, .inl hl0, hkd.keys.trans hk, hl, fun ys p hp hs hn => ?_⟩
  have e := hz ys hp hs
  subst e
  exact q p _ G _ (Fw.hid ok.gh hn) hn (ok.gh.free hn) upd_same (Dds.ints _)
end
end DL
namespace DL
open PySem L2
variable {K : PySem.W.Frag} {E : XK} {env : EnvD}
theorem lc_map {α : Type} {g : TG} {ts : List Nat} {tt : TT} {te : TE} (enc res : α → D) : ∀ {xs : List α}, (∀ x ∈ xs, ∃ em, EvG K g ts env (enc x) em ∧ EvT K tt em true ∧ EvD K te em (res x)) → Lc K g ts tt te env (xs.map enc) (xs.map res)
  | [], _ => .nil
  | x :: xs, h => by
    obtain ⟨em, h1, h2, h3⟩ := h x (List.mem_cons_self)
    exact .keep h1 h2 h3 (lc_map enc res fun y hy => h y (List.mem_cons_of_mem _ hy))
theorem lc_filter {α : Type} {g : TG} {ts : List Nat} {tt : TT} {te : TE} (enc : α → D) (res : α → Option D) : ∀ {xs : List α}, (∀ x ∈ xs, ∃ em, EvG K g ts env (enc x) em ∧ ((∃ z, res x = some z ∧ EvT K tt em true ∧ EvD K te em z) ∨ (res x = none ∧ EvT K tt em false))) → Lc K g ts tt te env (xs.map enc) (xs.filterMap res)
  | [], _ => .nil
  | x :: xs, h => by
    have ih := lc_filter (g := g) (ts := ts) (tt := tt) (te := te) enc res (xs := xs) fun y hy => h y (List.mem_cons_of_mem _ hy)
    obtain ⟨em, h1, h2⟩ := h x (List.mem_cons_self)
    rcases h2 with ⟨z, e, h3, h4⟩ | ⟨e, h3⟩
    · rw [List.map_cons, List.filterMap_cons_some e]; exact .keep h1 h3 h4 ih
    · rw [List.map_cons, List.filterMap_cons_none e]; exact .skip h1 h3 ih
theorem cutD_nat {xs : List D} {a b : Nat} (hb : b ≤ xs.length) (hab : a ≤ b) : cutD xs (some (a : Int)) (some (b : Int)) = (xs.drop a).take (b - a) := by
  unfold cutD
  rw [HT.sIx_nat, HT.sIx_nat, Nat.min_eq_left hb, Nat.min_eq_left (Nat.le_trans hab hb)]
end DL

/-! Spreads: the mathematics. -/
namespace MX
open PySem L2 DL
abbrev Spr := List (Int × Rat)
/-- the mean of f -/
def Ex (s : Spr) (f : Int → Rat) : Rat := (s.map fun p => p.2 * f p.1).sum
theorem ex_nil (f : Int → Rat) : Ex [] f = 0 := rfl
theorem ex_cons (p : Int × Rat) (s : Spr) (f : Int → Rat) : Ex (p :: s) f = p.2 * f p.1 + Ex s f := by unfold Ex; rw [List.map_cons, List.sum_cons]
theorem ex_app : ∀ (s t : Spr) (f : Int → Rat), Ex (s ++ t) f = Ex s f + Ex t f
  | [], t, f => by rw [List.nil_append, ex_nil]; grind
  | p :: s, t, f => by rw [List.cons_append, ex_cons, ex_cons, ex_app s t f]; grind
theorem ex_add : ∀ (s : Spr) (f g : Int → Rat), Ex s (fun x => f x + g x) = Ex s f + Ex s g
  | [], f, g => by rw [ex_nil, ex_nil, ex_nil]; grind
  | p :: s, f, g => by rw [ex_cons, ex_cons, ex_cons, ex_add s f g]; grind
theorem ex_mul : ∀ (s : Spr) (c : Rat) (f : Int → Rat), Ex s (fun x => c * f x) = c * Ex s f
  | [], c, f => by rw [ex_nil, ex_nil]; grind
  | p :: s, c, f => by rw [ex_cons, ex_cons, ex_mul s c f]; grind
theorem ex_zero : ∀ (s : Spr), Ex s (fun _ => 0) = 0
  | [] => rfl
  | p :: s => by rw [ex_cons, ex_zero s]; grind
theorem ex_congr {s : Spr} {f g : Int → Rat} (h : ∀ p ∈ s, f p.1 = g p.1) : Ex s f = Ex s g := by
  induction s with
  | nil => rfl
  | cons p s ih => rw [ex_cons, ex_cons, h p (List.mem_cons_self), ih fun q hq => h q (List.mem_cons_of_mem _ hq)]
theorem ex_perm {s t : Spr} (h : s.Perm t) (f : Int → Rat) : Ex s f = Ex t f := by
  induction h with
  | nil => rfl
  | cons x _ ih => rw [ex_cons, ex_cons, ih]
  | swap x y l => rw [ex_cons, ex_cons, ex_cons, ex_cons]; grind
  | trans _ _ h1 h2 => exact h1.trans h2
theorem ex_swap : ∀ (s t : Spr) (f : Int → Int → Rat), Ex s (fun x => Ex t (fun y => f x y)) = Ex t (fun y => Ex s (fun x => f x y))
  | [], t, f => by
    show (0 : Rat) = Ex t (fun y => 0)
    rw [ex_zero]
  | p :: s, t, f => by
    rw [ex_cons, ex_swap s t f]
    have e : (fun y => Ex (p :: s) (fun x => f x y)) = fun y => p.2 * f p.1 y + Ex s (fun x => f x y) := by funext y; rw [ex_cons]
    rw [e, ex_add, ex_mul]
/-- the weight of a value -/
def wt (s : Spr) (v : Int) : Rat := Ex s fun x => if x = v then 1 else 0
theorem wt_cons (p : Int × Rat) (s : Spr) (v : Int) : wt (p :: s) v = (if p.1 = v then p.2 else 0) + wt s v := by
  unfold wt
  rw [ex_cons]
  split <;> grind
theorem wt_app (s t : Spr) (v : Int) : wt (s ++ t) v = wt s v + wt t v := ex_app _ _ _
theorem wt_none {s : Spr} {v : Int} (h : v ∉ s.map (·.1)) : wt s v = 0 := by
  unfold wt
  rw [ex_congr (g := fun _ => 0) (fun p hp => if_neg fun z => h (List.mem_map.mpr ⟨p, hp, z⟩)), ex_zero]
/-! ### the dict of a gathering -/
def lkA (kvs : Spr) (k : Int) : Option Rat := (kvs.find? fun p => decide (p.1 = k)).map (·.2)
def putA (kvs : Spr) (k : Int) (v : Rat) : Spr := if (kvs.any fun p => decide (p.1 = k)) = true then kvs.map (fun p => if p.1 = k then (p.1, v) else p) else kvs ++ [(k, v)]
def stepA (kvs : Spr) (p : Int × Rat) : Spr := putA kvs p.1 ((lkA kvs p.1).getD 0 + p.2)
def acc (items : Spr) : Spr := items.foldl stepA []
theorem acc_snoc (items : Spr) (p : Int × Rat) : acc (items ++ [p]) = stepA (acc items) p := by unfold acc; rw [List.foldl_append]; rfl
theorem any_mem (kvs : Spr) (k : Int) : (kvs.any fun p => decide (p.1 = k)) = true ↔ k ∈ kvs.map (·.1) := by
  rw [List.any_eq_true]
  constructor
  · rintro ⟨p, hp, e⟩; exact List.mem_map.mpr ⟨p, hp, of_decide_eq_true e⟩
  · intro h; obtain ⟨p, hp, e⟩ := List.mem_map.mp h; exact ⟨p, hp, decide_eq_true e⟩
theorem upd_keys (kvs : Spr) (k : Int) (v : Rat) : (kvs.map fun p => if p.1 = k then (p.1, v) else p).map (·.1) = kvs.map (·.1) := by
  rw [List.map_map]
  refine List.map_congr_left fun p _ => ?_
  show (if p.1 = k then (p.1, v) else p).1 = p.1
  split <;> rfl
theorem put_keys (kvs : Spr) (k : Int) (v : Rat) : (putA kvs k v).map (·.1) = if k ∈ kvs.map (·.1) then kvs.map (·.1) else kvs.map (·.1) ++ [k] := by
  unfold putA
  by_cases h : (kvs.any fun p => decide (p.1 = k)) = true
  · rw [if_pos h, if_pos ((any_mem kvs k).mp h), upd_keys]
  · rw [if_neg h, if_neg (fun z => h ((any_mem kvs k).mpr z)), List.map_append]; rfl
theorem lk_mem {kvs : Spr} {k : Int} {v : Rat} (h : lkA kvs k = some v) : (k, v) ∈ kvs := by
  unfold lkA at h
  obtain ⟨p, hp, e⟩ := Option.map_eq_some_iff.mp h
  have h1 := List.find?_some hp
  have h2 := List.mem_of_find?_eq_some hp
  have : p.1 = k := of_decide_eq_true h1
  rw [← this, ← e]; exact h2
theorem lk_none {kvs : Spr} {k : Int} : lkA kvs k = none ↔ k ∉ kvs.map (·.1) := by
  unfold lkA
  rw [Option.map_eq_none_iff, List.find?_eq_none]
  constructor
  · intro h z; obtain ⟨p, hp, e⟩ := List.mem_map.mp z; exact h p hp (decide_eq_true e)
  · intro h p hp z; exact h (List.mem_map.mpr ⟨p, hp, of_decide_eq_true z⟩)
theorem lk_of {kvs : Spr} (hn : (kvs.map (·.1)).Nodup) {k : Int} {v : Rat} (h : (k, v) ∈ kvs) : lkA kvs k = some v := by
  induction kvs with
  | nil => cases h
  | cons p r ih =>
    rw [List.map_cons, List.nodup_cons] at hn
    unfold lkA
    by_cases e : p.1 = k
    · rw [List.find?_cons_of_pos (by simpa using e)]
      rcases List.mem_cons.mp h with z | z
      · rw [← z]; rfl
      · exact absurd (List.mem_map.mpr ⟨_, z, rfl⟩) (by rw [← e]; exact hn.1)
    · rw [List.find?_cons_of_neg (by simpa using e)]
      rcases List.mem_cons.mp h with z | z
      · exact absurd (by rw [← z]) e
      · exact ih hn.2 z
theorem put_nodup {kvs : Spr} (h : (kvs.map (·.1)).Nodup) (k : Int) (v : Rat) : ((putA kvs k v).map (·.1)).Nodup := by
  rw [put_keys]
  split
  · exact h
  · rename_i z
    rw [List.nodup_append]
    exact ⟨h, by simp, fun a ha b hb e => z (by rw [List.mem_singleton] at hb; rw [← hb, ← e]; exact ha)⟩
theorem put_ex {kvs : Spr} (h : (kvs.map (·.1)).Nodup) (k : Int) (c : Rat) (f : Int → Rat) : Ex (putA kvs k ((lkA kvs k).getD 0 + c)) f = Ex kvs f + c * f k := by
  unfold putA
  by_cases hk : (kvs.any fun p => decide (p.1 = k)) = true
  · rw [if_pos hk]
    obtain ⟨⟨k', v⟩, hp, e⟩ := List.mem_map.mp ((any_mem kvs k).mp hk)
    have e : k' = k := e
    subst e
    rw [lk_of h hp, Option.getD_some]
    clear hk
    induction kvs with
    | nil => cases hp
    | cons q r ih =>
      rw [List.map_cons, List.nodup_cons] at h
      rw [List.map_cons, ex_cons, ex_cons]
      rcases List.mem_cons.mp hp with z | z
      · subst z
        have er : r.map (fun p => if p.1 = k' then (p.1, v + c) else p) = r := by
          conv => rhs; rw [← List.map_id r]
          refine List.map_congr_left fun p hpr => ?_
          rw [if_neg fun z => h.1 (List.mem_map.mpr ⟨p, hpr, z⟩)]
          rfl
        rw [er, if_pos rfl]
        show (v + c) * f k' + Ex r f = v * f k' + Ex r f + c * f k'
        grind
      · have ne : ¬ q.1 = k' := fun e => h.1 (List.mem_map.mpr ⟨_, z, e.symm⟩)
        rw [if_neg ne, ih h.2 z]
        grind
  · rw [if_neg hk, ex_app, ex_cons, ex_nil]
    have : lkA kvs k = none := lk_none.mpr fun z => hk ((any_mem kvs k).mpr z)
    rw [this, Option.getD_none]
    show Ex kvs f + ((0 + c) * f k + 0) = Ex kvs f + c * f k
    grind
theorem foldA_nodup : ∀ (items kvs : Spr), (kvs.map (·.1)).Nodup → ((items.foldl stepA kvs).map (·.1)).Nodup
  | [], _, h => h
  | p :: items, kvs, h => foldA_nodup items _ (put_nodup h _ _)
theorem foldA_ex : ∀ (items kvs : Spr) (f : Int → Rat), (kvs.map (·.1)).Nodup → Ex (items.foldl stepA kvs) f = Ex kvs f + Ex items f
  | [], kvs, f, h => by rw [ex_nil]; show Ex kvs f = _; grind
  | p :: items, kvs, f, h => by
    show Ex (items.foldl stepA (stepA kvs p)) f = _
    rw [foldA_ex items (stepA kvs p) f (put_nodup h _ _)]
    unfold stepA
    rw [put_ex h, ex_cons]
    grind
theorem foldA_mem : ∀ (items kvs : Spr) (v : Int), v ∈ (items.foldl stepA kvs).map (·.1) ↔ v ∈ kvs.map (·.1) ∨ v ∈ items.map (·.1)
  | [], kvs, v => by simp
  | p :: items, kvs, v => by
    show v ∈ (items.foldl stepA (stepA kvs p)).map (·.1) ↔ _
    rw [foldA_mem items _ v]
    unfold stepA
    rw [put_keys, List.map_cons, List.mem_cons]
    split
    · rename_i h
      constructor
      · rintro (z | z)
        · exact .inl z
        · exact .inr (.inr z)
      · rintro (z | z | z)
        · exact .inl z
        · exact .inl (by rw [z]; exact h)
        · exact .inr z
    · rw [List.mem_append, List.mem_singleton]
      constructor
      · rintro ((z | z) | z)
        · exact .inl z
        · exact .inr (.inl z)
        · exact .inr (.inr z)
      · rintro (z | z | z)
        · exact .inl (.inl z)
        · exact .inl (.inr z)
        · exact .inr z
theorem acc_nodup (items : Spr) : ((acc items).map (·.1)).Nodup := foldA_nodup items [] (by simp)
theorem acc_ex (items : Spr) (f : Int → Rat) : Ex (acc items) f = Ex items f := by
  have h := foldA_ex items [] f (by simp)
  rw [ex_nil] at h
  show Ex (items.foldl stepA []) f = _
  grind
theorem acc_mem (items : Spr) (v : Int) : v ∈ (acc items).map (·.1) ↔ v ∈ items.map (·.1) := by
  have h := foldA_mem items [] v
  unfold acc
  simpa using h
theorem wt_nodup {kvs : Spr} (h : (kvs.map (·.1)).Nodup) {k : Int} {v : Rat} (hp : (k, v) ∈ kvs) : wt kvs k = v := by
  induction kvs with
  | nil => cases hp
  | cons q r ih =>
    rw [List.map_cons, List.nodup_cons] at h
    rw [wt_cons]
    rcases List.mem_cons.mp hp with z | z
    · subst z
      rw [if_pos rfl, wt_none h.1]; grind
    · rw [if_neg (fun e => h.1 (List.mem_map.mpr ⟨_, z, e.symm⟩)), ih h.2 z]; grind
theorem acc_lk {items : Spr} {v : Int} (h : v ∈ items.map (·.1)) : lkA (acc items) v = some (wt items v) := by
  obtain ⟨⟨k, c⟩, hp, e⟩ := List.mem_map.mp ((acc_mem items v).mpr h)
  have e : k = v := e
  subst e
  rw [lk_of (acc_nodup items) hp]
  have h1 := wt_nodup (acc_nodup items) hp
  unfold wt at h1
  rw [acc_ex] at h1
  exact congrArg some h1.symm
/-! ### sorted keys -/
theorem sorted_eq : ∀ {a b : List Int}, a.Pairwise (· < ·) → b.Pairwise (· < ·) → (∀ v, v ∈ a ↔ v ∈ b) → a = b
  | [], [], _, _, _ => rfl
  | [], y :: b, _, _, h => absurd ((h y).mpr (List.mem_cons_self)) (by simp)
  | x :: a, [], _, _, h => absurd ((h x).mp (List.mem_cons_self)) (by simp)
  | x :: a, y :: b, ha, hb, h => by
    rw [List.pairwise_cons] at ha hb
    have e : x = y := by
      rcases List.mem_cons.mp ((h x).mp List.mem_cons_self) with z | z
      · exact z
      · rcases List.mem_cons.mp ((h y).mpr List.mem_cons_self) with z2 | z2
        · exact z2.symm
        · have := ha.1 y z2; have := hb.1 x z; omega
    subst e
    rw [sorted_eq ha.2 hb.2 fun v => ?_]
    constructor
    · intro hv
      rcases List.mem_cons.mp ((h v).mp (List.mem_cons_of_mem _ hv)) with z | z
      · have := ha.1 v hv; omega
      · exact z
    · intro hv
      rcases List.mem_cons.mp ((h v).mpr (List.mem_cons_of_mem _ hv)) with z | z
      · have := hb.1 v hv; omega
      · exact z
def srt (l : List Int) : List Int := l.mergeSort (fun a b => decide (a ≤ b))
theorem srt_perm (l : List Int) : (srt l).Perm l := List.mergeSort_perm _ _
theorem srt_le (l : List Int) : (srt l).Pairwise (· ≤ ·) := by
  have h := List.pairwise_mergeSort (le := fun a b : Int => decide (a ≤ b)) (fun a b c h1 h2 => by simp at *; omega) (fun a b => by simp; omega) l
  exact h.imp fun h => of_decide_eq_true h
theorem lt_of_nodup {l : List Int} (h : l.Pairwise (· ≤ ·)) (hn : l.Nodup) : l.Pairwise (· < ·) := by
  have := h.and hn
  exact this.imp fun ⟨a, b⟩ => by omega
theorem srt_only {l ys : List Int} (hn : l.Nodup) (hp : ys.Perm l) (hs : ys.Pairwise (· ≤ ·)) : ys = srt l :=
  sorted_eq (lt_of_nodup hs (hp.nodup_iff.mpr hn)) (lt_of_nodup (srt_le l) ((srt_perm l).nodup_iff.mpr hn)) fun v => by rw [hp.mem_iff, (srt_perm l).mem_iff]
/-- what gathering gives -/
def gatF (items : Spr) : Spr := (srt ((acc items).map (·.1))).filterMap fun v => if wt items v = 0 then none else some (v, wt items v)
/-- in ascending order, nothing 0 -/
structure Can (s : Spr) : Prop where
  asc : (s.map (·.1)).Pairwise (· < ·)
  nz : ∀ p ∈ s, p.2 ≠ 0
theorem can_mem {s : Spr} (h : Can s) (v : Int) (c : Rat) : (v, c) ∈ s ↔ wt s v = c ∧ c ≠ 0 := by
  have hn : (s.map (·.1)).Nodup := h.asc.imp fun h => by omega
  constructor
  · intro hp; exact ⟨wt_nodup hn hp, h.nz _ hp⟩
  · rintro ⟨e, hc⟩
    by_cases hv : v ∈ s.map (·.1)
    · obtain ⟨⟨k, d⟩, hp, ek⟩ := List.mem_map.mp hv
      have ek : k = v := ek
      subst ek
      have := wt_nodup hn hp
      rw [← e, this]; exact hp
    · rw [wt_none hv] at e; exact absurd e.symm hc
theorem can_ext : ∀ {a b : Spr}, Can a → Can b → (∀ v, wt a v = wt b v) → a = b := by
  intro a b ha hb h
  have hm : ∀ v c, (v, c) ∈ a ↔ (v, c) ∈ b := fun v c => by rw [can_mem ha, can_mem hb, h]
  have hk : a.map (·.1) = b.map (·.1) := sorted_eq ha.asc hb.asc fun v => by
    constructor
    · intro z; obtain ⟨⟨k, c⟩, hp, e⟩ := List.mem_map.mp z; exact List.mem_map.mpr ⟨(k, c), (hm k c).mp hp, e⟩
    · intro z; obtain ⟨⟨k, c⟩, hp, e⟩ := List.mem_map.mp z; exact List.mem_map.mpr ⟨(k, c), (hm k c).mpr hp, e⟩
  have e : ∀ {s : Spr}, Can s → s = (s.map (·.1)).map fun v => (v, wt s v) := by
    intro s hs
    rw [List.map_map]
    conv => lhs; rw [← List.map_id s]
    refine List.map_congr_left fun p hp => ?_
    show p = (p.1, wt s p.1)
    have := ((can_mem hs p.1 p.2).mp hp).1
    rw [this]
  rw [e ha, e hb, hk]
  exact List.map_congr_left fun v _ => by rw [h v]
theorem gat_keys_lt (items : Spr) : (srt ((acc items).map (·.1))).Pairwise (· < ·) := lt_of_nodup (srt_le _) ((srt_perm _).nodup_iff.mpr (acc_nodup items))
theorem gat_can (items : Spr) : Can (gatF items) := by
  constructor
  · unfold gatF
    have h := gat_keys_lt items
    generalize srt ((acc items).map (·.1)) = l at h
    induction l with
    | nil => simp
    | cons v l ih =>
      rw [List.pairwise_cons] at h
      rw [List.filterMap_cons]
      by_cases e : wt items v = 0
      · rw [if_pos e]; exact ih h.2
      · rw [if_neg e, List.map_cons, List.pairwise_cons]
        refine ⟨fun u hu => ?_, ih h.2⟩
        obtain ⟨p, hp, rfl⟩ := List.mem_map.mp hu
        obtain ⟨x, hx, e2⟩ := List.mem_filterMap.mp hp
        split at e2
        · cases e2
        · cases e2; exact h.1 x hx
  · intro p hp
    obtain ⟨x, hx, e2⟩ := List.mem_filterMap.mp hp
    split at e2
    · cases e2
    · cases e2; assumption
theorem gat_wt (items : Spr) (v : Int) : wt (gatF items) v = wt items v := by
  by_cases e : wt items v = 0
  · have hn : v ∉ (gatF items).map (·.1) := fun z => by
      obtain ⟨p, hp, rfl⟩ := List.mem_map.mp z
      obtain ⟨x, hx, e2⟩ := List.mem_filterMap.mp hp
      split at e2
      · cases e2
      · cases e2; contradiction
    rw [wt_none hn, e]
  · have hv : v ∈ items.map (·.1) := by
      by_cases z : v ∈ items.map (·.1)
      · exact z
      · exact absurd (wt_none z) e
    have hs : v ∈ srt ((acc items).map (·.1)) := (srt_perm _).mem_iff.mpr ((acc_mem items v).mpr hv)
    have hp : (v, wt items v) ∈ gatF items := List.mem_filterMap.mpr ⟨v, hs, if_neg e⟩
    exact ((can_mem (gat_can items) _ _).mp hp).1
theorem gat_ext {a b : Spr} (h : ∀ v, wt a v = wt b v) : gatF a = gatF b := can_ext (gat_can a) (gat_can b) fun v => by rw [gat_wt, gat_wt, h]
theorem can_gat {s : Spr} (h : Can s) : gatF s = s := can_ext (gat_can s) h fun v => gat_wt s v
theorem ex_wt {a b : Spr} (h : ∀ f, Ex a f = Ex b f) : gatF a = gatF b := gat_ext fun v => h _
/-- the mean of f by the weights -/
theorem ex_keys {l : List Int} (hn : l.Nodup) (s : Spr) (hs : ∀ p ∈ s, p.1 ∈ l) (f : Int → Rat) : Ex s f = (l.map fun v => wt s v * f v).sum := by
  induction s with
  | nil =>
    rw [ex_nil]
    have : ∀ l : List Int, (l.map fun v => wt [] v * f v).sum = 0 := fun l => by
      induction l with
      | nil => rfl
      | cons v l ih => rw [List.map_cons, List.sum_cons, ih]; show (0 : Rat) * f v + 0 = 0; grind
    exact (this l).symm
  | cons p s ih =>
    rw [ex_cons, ih fun q hq => hs q (List.mem_cons_of_mem _ hq)]
    have key : ∀ (l : List Int), l.Nodup → (l.map fun v => wt (p :: s) v * f v).sum = (if p.1 ∈ l then p.2 * f p.1 else 0) + (l.map fun v => wt s v * f v).sum := by
      intro l hl
      induction l with
      | nil => rw [if_neg (by simp)]; show (0 : Rat) = 0 + 0; grind
      | cons v l ih2 =>
        rw [List.nodup_cons] at hl
        rw [List.map_cons, List.sum_cons, List.map_cons, List.sum_cons, ih2 hl.2, wt_cons]
        by_cases e : p.1 = v
        · subst e
          rw [if_pos rfl, if_pos (List.mem_cons_self), if_neg hl.1]; grind
        · rw [if_neg e]
          by_cases m : p.1 ∈ l
          · rw [if_pos m, if_pos (List.mem_cons_of_mem _ m)]; grind
          · rw [if_neg m, if_neg (by simp [e, m])]; grind
    rw [key l hn, if_pos (hs p (List.mem_cons_self))]
theorem ex_of_wt {a b : Spr} (h : ∀ v, wt a v = wt b v) (f : Int → Rat) : Ex a f = Ex b f := by
  have hn := acc_nodup (a ++ b)
  have hm : ∀ p, p ∈ a ∨ p ∈ b → p.1 ∈ (acc (a ++ b)).map (·.1) := fun p hp => (acc_mem _ _).mpr (by
    rw [List.map_append, List.mem_append]
    rcases hp with hp | hp
    · exact .inl (List.mem_map.mpr ⟨p, hp, rfl⟩)
    · exact .inr (List.mem_map.mpr ⟨p, hp, rfl⟩))
  rw [ex_keys hn a (fun p hp => hm p (.inl hp)), ex_keys hn b (fun p hp => hm p (.inr hp))]
  exact congrArg List.sum (List.map_congr_left fun v _ => by rw [h v])
theorem ex_gat (items : Spr) (f : Int → Rat) : Ex (gatF items) f = Ex items f := ex_of_wt (gat_wt items) f
end MX

/-! Spreads as data; sizes. -/
namespace MX
open PySem L2 DL
abbrev encI (p : Int × Rat) : PyData := .tuple [.int p.1, encQ p.2]
abbrev encS (s : Spr) : PyData := .list (s.map encI)
def encA (kvs : Spr) : List (Key × PyData) := kvs.map fun p => (Sum.inl p.1, encQ p.2)
theorem encA_keys (kvs : Spr) : (encA kvs).map (·.1) = (kvs.map (·.1)).map Sum.inl := by unfold encA; rw [List.map_map, List.map_map]; rfl
theorem encA_len (kvs : Spr) : (encA kvs).length = kvs.length := by unfold encA; rw [List.length_map]
theorem inl_dec (a b : Int) : decide ((Sum.inl a : Key) = Sum.inl b) = decide (a = b) := by
  by_cases h : a = b
  · subst h; simp
  · rw [decide_eq_false h, decide_eq_false (fun z => h (Sum.inl.inj z))]
theorem encA_lk (k : Int) : ∀ kvs : Spr, lkD (encA kvs) (.inl k) = (lkA kvs k).map encQ
  | [] => rfl
  | p :: r => by
    show lkD ((Sum.inl p.1, encQ p.2) :: encA r) (.inl k) = _
    have ih := encA_lk k r
    unfold lkD lkA at *
    by_cases e : p.1 = k
    · rw [List.find?_cons_of_pos (by simp [e]), List.find?_cons_of_pos (by simpa using e)]; rfl
    · rw [List.find?_cons_of_neg (by simpa using e), List.find?_cons_of_neg (by simpa using e)]; exact ih
theorem encA_any (k : Int) : ∀ kvs : Spr, ((encA kvs).any fun p => decide (p.1 = Sum.inl k)) = kvs.any fun p => decide (p.1 = k)
  | [] => rfl
  | p :: r => by
    show (((Sum.inl p.1, encQ p.2) :: encA r : List (Key × PyData)).any fun p => decide (p.1 = Sum.inl k)) = _
    rw [List.any_cons, List.any_cons, encA_any k r, inl_dec]
theorem encA_put (kvs : Spr) (k : Int) (r : Rat) : putD (encA kvs) (.inl k) (encQ r) = encA (putA kvs k r) := by
  unfold putD putA
  rw [encA_any]
  split
  · unfold encA
    rw [List.map_map, List.map_map]
    refine List.map_congr_left fun p _ => ?_
    show (if (Sum.inl p.1 : Key) = Sum.inl k then (Sum.inl p.1, encQ r) else (Sum.inl p.1, encQ p.2)) = (fun p : Int × Rat => ((Sum.inl p.1 : Key), encQ p.2)) (if p.1 = k then (p.1, r) else p)
    by_cases e : p.1 = k
    · rw [if_pos e, if_pos (by rw [e])]
    · rw [if_neg e, if_neg (fun z => e (Sum.inl.inj z))]
  · unfold encA; rw [List.map_append]; rfl
theorem acc_getD (items : Spr) (v : Int) : (lkA (acc items) v).getD 0 = wt items v := by
  by_cases h : v ∈ items.map (·.1)
  · rw [acc_lk h]; rfl
  · rw [lk_none.mpr (fun z => h ((acc_mem items v).mp z)), wt_none h]; rfl
theorem acc_len (items : Spr) : (acc items).length ≤ items.length := by
  have : ∀ (items kvs : Spr), (items.foldl stepA kvs).length ≤ kvs.length + items.length := by
    intro items
    induction items with
    | nil => intro kvs; simp
    | cons p r ih =>
      intro kvs
      have h := ih (stepA kvs p)
      have h2 : (stepA kvs p).length ≤ kvs.length + 1 := by
        unfold stepA putA
        split
        · rw [List.length_map]; omega
        · rw [List.length_append]; simp
      show (r.foldl stepA (stepA kvs p)).length ≤ _
      rw [List.length_cons]; omega
  have h := this items []
  unfold acc
  simpa using h
/-! ### comparing -/
theorem eqvQ (a b : Rat) : PyData.eqv (encQ a) (encQ b) = decide (a = b) := by
  have h1 : PyData.eqv (encQ a) (encQ b) = ((a.num == b.num) && ((a.den : Int) == b.den)) := by
    simp [PyData.eqv, PyData.eqvAll]
  rw [h1]
  by_cases h : a = b
  · subst h; simp
  · rw [decide_eq_false h]
    rw [Bool.and_eq_false_iff]
    by_cases hn : a.num = b.num
    · right
      simp only [beq_eq_false_iff_ne]
      intro z
      exact h (Rat.ext hn (by omega))
    · left
      simpa using hn
theorem shaped_Q (a : Rat) : SeqAt.shaped (encQ a) = true := rfl
theorem can_all {α : Type} (f : α → PyData) (h : ∀ x, (f x).canLay0 = true) : ∀ l : List α, PyData.canLayAll0 (l.map f) = true
  | [] => by simp [PyData.canLayAll0]
  | x :: l => by simp [PyData.canLayAll0, h x, can_all f h l]
theorem depth_all {α : Type} (f : α → PyData) (n : Nat) (h : ∀ x, (f x).depth ≤ n) : ∀ l : List α, PyData.depthAll (l.map f) ≤ n
  | [] => by simp [PyData.depthAll]
  | x :: l => by have := h x; have := depth_all f n h l; simp [PyData.depthAll]; omega
theorem shaped_S (s : Spr) : SeqAt.shaped (encS s) = true := by
  have h1 : PyData.canLayAll0 (s.map encI) = true := can_all encI (fun _ => rfl) s
  have h2 : PyData.depthAll (s.map encI) ≤ 2 := depth_all encI 2 (fun x => by simp [PyData.depth, PyData.depthAll]) s
  unfold SeqAt.shaped
  simp only [PyData.canLay0, PyData.depth, h1, Bool.true_and, decide_eq_true_eq]
  exact decide_eq_true (by omega)
/-! ### sizes of sums -/
/-- a numerator of at most b over N -/
def Sq (N b : Nat) (r : Rat) : Prop := ∃ k : Int, r = Rat.divInt k N ∧ k.natAbs ≤ b
theorem sq_zero {N : Nat} (b : Nat) : Sq N b 0 := ⟨0, by rw [Rat.zero_divInt], Nat.zero_le _⟩
theorem sq_mono {N b c : Nat} {r : Rat} (h : Sq N b r) (hb : b ≤ c) : Sq N c r := let ⟨k, h1, h2⟩ := h; ⟨k, h1, by omega⟩
theorem divInt_add {N : Int} (hN : N ≠ 0) (a b : Int) : Rat.divInt a N + Rat.divInt b N = Rat.divInt (a + b) N := by
  rw [Rat.divInt_eq_div, Rat.divInt_eq_div, Rat.divInt_eq_div, Rat.intCast_add]
  have : (N : Rat) ≠ 0 := fun z => hN (Rat.intCast_inj.mp z)
  grind
theorem sq_add {N b c : Nat} (hN : 0 < N) {r q : Rat} (h : Sq N b r) (h' : Sq N c q) : Sq N (b + c) (r + q) := by
  obtain ⟨k, e1, h1⟩ := h
  obtain ⟨j, e2, h2⟩ := h'
  exact ⟨k + j, by rw [e1, e2, divInt_add (by omega)], by have := Int.natAbs_add_le k j; omega⟩
theorem sq_neg {N b : Nat} {r : Rat} (h : Sq N b r) : Sq N b (-r) := by
  obtain ⟨k, e1, h1⟩ := h
  refine ⟨-k, ?_, by rw [Int.natAbs_neg]; exact h1⟩
  rw [e1, Rat.divInt_eq_div, Rat.divInt_eq_div, Rat.intCast_neg]
  grind
theorem sq_mul {N M b c : Nat} {r q : Rat} (h : Sq N b r) (h' : Sq M c q) : Sq (N * M) (b * c) (r * q) := by
  obtain ⟨k, e1, h1⟩ := h
  obtain ⟨j, e2, h2⟩ := h'
  refine ⟨k * j, ?_, by rw [Int.natAbs_mul]; exact Nat.mul_le_mul h1 h2⟩
  rw [e1, e2, Rat.divInt_mul_divInt]
  congr 1
theorem sq_lift {N b : Nat} (M : Nat) (hM : 0 < M) {r : Rat} (h : Sq N b r) : Sq (N * M) (b * M) r := by
  obtain ⟨k, e1, h1⟩ := h
  refine ⟨k * M, ?_, by rw [Int.natAbs_mul, Int.natAbs_natCast]; exact Nat.mul_le_mul_right _ h1⟩
  rw [e1, Rat.divInt_eq_div, Rat.divInt_eq_div, Rat.intCast_mul]
  show (k : Rat) / ((N : Int) : Rat) = (k : Rat) * ((M : Int) : Rat) / (((N * M : Nat) : Int) : Rat)
  rw [Int.natCast_mul, Rat.intCast_mul]
  have : ((M : Int) : Rat) ≠ 0 := fun z => (by have h0 : (M : Int) = 0 := Rat.intCast_inj.mp z; omega)
  by_cases hz : ((N : Int) : Rat) = 0
  · rw [hz]; grind
  · grind
theorem sq_qb {n N b : Nat} {r : Rat} (hN : 0 < N) (hn : N < 2 ^ n) (hb : b < 2 ^ n) (h : Sq N b r) : Qb n r := by
  obtain ⟨k, e, hk⟩ := h
  rw [e]
  exact qb_divInt (by omega) (Nat.lt_of_le_of_lt hk hb) (by show ((N : Int)).natAbs < 2 ^ n; rw [Int.natAbs_natCast]; exact hn)
/-- fractions whose sums stay small -/
structure Fin (N b n : Nat) : Prop where
  pos : 0 < N
  low : N < 2 ^ 3900
  top : (n + 1) * (b + 1) < 2 ^ 3900
def Fine (l : List Rat) : Prop := ∃ N b : Nat, Fin N b l.length ∧ ∀ r ∈ l, Sq N b r
theorem fin_qb {N b n m : Nat} {r : Rat} (f : Fin N b n) (hm : m ≤ n + 1) (h : Sq N (m * b) r) : Qb 4000 r := by
  have h1 : m * b < 2 ^ 3900 := Nat.lt_of_le_of_lt (Nat.mul_le_mul hm (Nat.le_succ b)) f.top
  exact (sq_qb (n := 3900) f.pos f.low h1 h).mono (by decide)
theorem sum_sq {N b : Nat} (hN : 0 < N) : ∀ {l : List Rat}, (∀ r ∈ l, Sq N b r) → Sq N (l.length * b) l.sum
  | [], _ => by rw [List.length_nil, Nat.zero_mul]; exact sq_zero 0
  | r :: l, h => by
    rw [List.sum_cons, List.length_cons, Nat.succ_mul, Nat.add_comm]
    exact sq_add hN (h r (List.mem_cons_self)) (sum_sq hN fun q hq => h q (List.mem_cons_of_mem _ hq))
theorem wt_sq {N b : Nat} (hN : 0 < N) : ∀ {s : Spr}, (∀ r ∈ s.map (·.2), Sq N b r) → ∀ v, Sq N (s.length * b) (wt s v)
  | [], _, v => by rw [List.length_nil, Nat.zero_mul]; exact sq_zero 0
  | p :: s, h, v => by
    rw [wt_cons, List.length_cons, Nat.succ_mul, Nat.add_comm]
    refine sq_add hN ?_ (wt_sq hN (fun q hq => h q (List.mem_cons_of_mem _ hq)) v)
    split
    · exact h _ (List.mem_cons_self)
    · exact sq_zero _
theorem fine_sum {l : List Rat} (h : Fine l) (i : Nat) : Qb 4000 (l.take i).sum := by
  obtain ⟨N, b, f, hs⟩ := h
  refine fin_qb f (m := (l.take i).length) ?_ (sum_sq f.pos fun r hr => hs r (List.mem_of_mem_take hr))
  rw [List.length_take]; omega
theorem fine_mem {l : List Rat} (h : Fine l) {r : Rat} (hr : r ∈ l) : Qb 4000 r := by
  obtain ⟨N, b, f, hs⟩ := h
  refine fin_qb f (m := 1) (by omega) (by rw [Nat.one_mul]; exact hs r hr)
theorem fine_wt {s : Spr} (h : Fine (s.map (·.2))) (i : Nat) (v : Int) : Qb 4000 (wt (s.take i) v) := by
  obtain ⟨N, b, f, hs⟩ := h
  refine fin_qb f (m := (s.take i).length) ?_ (wt_sq f.pos (fun r hr => hs r ?_) v)
  · rw [List.length_take, List.length_map]; omega
  · rw [List.map_take] at hr; exact List.mem_of_mem_take hr
end MX
namespace MX
open PySem L2 DL
theorem lk_split : ∀ {s : Spr} {v : Int} {c : Rat}, lkA s v = some c → ∃ i : Nat, s[i]? = some (v, c) ∧ ∀ (j : Nat) (p : Int × Rat), j < i → s[j]? = some p → p.1 ≠ v
  | [], _, _, h => by cases h
  | p :: s, v, c, h => by
    by_cases e : p.1 = v
    · have h2 : lkA (p :: s) v = some p.2 := by unfold lkA; rw [List.find?_cons_of_pos (by simpa using e)]; rfl
      rw [h2] at h
      refine ⟨0, ?_, fun j q hj => (by omega)⟩
      have hc : p.2 = c := Option.some.inj h
      rw [← e, ← hc]; rfl
    · have h2 : lkA (p :: s) v = lkA s v := by unfold lkA; rw [List.find?_cons_of_neg (by simpa using e)]
      rw [h2] at h
      obtain ⟨i, h3, h4⟩ := lk_split h
      refine ⟨i + 1, by simpa using h3, fun j q hj hq => ?_⟩
      cases j with
      | zero => simp at hq; rw [← hq]; exact e
      | succ j => exact h4 j q (by omega) (by simpa using hq)
/-- what is gathered is fine -/
structure Gd (s : Spr) : Prop where
  fine : Fine (s.map (·.2))
  len : s.length ≤ 10000
  few : (acc s).length < 64
theorem sum_ex (s : Spr) : (s.map fun p => (p.1 : Rat) * p.2).sum = Ex s fun x => (x : Rat) := by
  unfold Ex
  exact congrArg List.sum (List.map_congr_left fun p _ => by grind)
structure Mn (s : Spr) : Prop where
  fine : Fine (s.map fun p => (p.1 : Rat) * p.2)
  val : ∀ p ∈ s, Bt 4000 p.1 ∧ Qb 4000 p.2
  len : s.length ≤ 10000
theorem qb_int {n : Nat} {x : Int} (h : Bt n x) (hn : 0 < n) : Qb n (x : Rat) := ⟨h, Bt.one hn⟩
def shF (s : Spr) (k : Int) : Spr := s.map fun p => (p.1 + k, p.2)
/-- weights over their sum -/
def wtd (vs ws : List Int) : Spr := (List.range vs.length).map fun k => (vs.getD k 0, Rat.divInt (ws.getD k 0) ws.sum)
theorem wtd_len (vs ws : List Int) : (wtd vs ws).length = vs.length := by unfold wtd; rw [List.length_map, List.length_range]
structure Wd (vs ws : List Int) : Prop where
  len : vs.length = ws.length
  few : vs.length < 64
  ne : vs ≠ []
  pos : ∀ x ∈ ws, 1 ≤ x ∧ x ≤ 1000000000
theorem sum_bd : ∀ {ws : List Int}, (∀ x ∈ ws, 1 ≤ x ∧ x ≤ 1000000000) → (ws.length : Int) ≤ ws.sum ∧ ws.sum ≤ 1000000000 * (ws.length : Int)
  | [], _ => by simp
  | x :: ws, h => by
    have h1 := h x (List.mem_cons_self)
    have h2 := sum_bd (ws := ws) fun y hy => h y (List.mem_cons_of_mem _ hy)
    rw [List.sum_cons, List.length_cons]
    omega
theorem Wd.sum {vs ws : List Int} (h : Wd vs ws) : 1 ≤ ws.sum ∧ ws.sum < 2 ^ 40 := by
  have h1 := sum_bd h.pos
  have h2 := h.few
  have h3 : 0 < vs.length := List.length_pos_iff.mpr h.ne
  have h4 := h.len
  have : (2 : Int) ^ 40 = 1099511627776 := by decide
  omega
theorem sq_div {n W b : Nat} {k : Int} (h : k.natAbs ≤ b) : Sq W b (Rat.divInt k W) := ⟨k, rfl, h⟩
theorem wtd_fine {vs ws : List Int} (h : Wd vs ws) : Fine ((wtd vs ws).map (·.2)) := by
  obtain ⟨h1, h2⟩ := h.sum
  have e : ((ws.sum.toNat : Nat) : Int) = ws.sum := by omega
  refine ⟨ws.sum.toNat, 1000000000, ⟨by omega, ?_, ?_⟩, fun r hr => ?_⟩
  · have : (2 : Int) ^ 40 = 1099511627776 := by decide
    exact Nat.lt_of_lt_of_le (show ws.sum.toNat < 2 ^ 40 by omega) (Nat.pow_le_pow_right (by decide) (by decide))
  · rw [List.length_map, wtd_len]
    have := h.few
    have h3 : (vs.length + 1) * (1000000000 + 1) ≤ 64 * 1000000001 := Nat.mul_le_mul_right _ (by omega)
    exact Nat.lt_of_le_of_lt h3 (Nat.lt_of_lt_of_le (show 64 * 1000000001 < 2 ^ 40 by decide) (Nat.pow_le_pow_right (by decide) (by decide)))
  · obtain ⟨p, hp, rfl⟩ := List.mem_map.mp hr
    unfold wtd at hp
    obtain ⟨k, hk, rfl⟩ := List.mem_map.mp hp
    rw [List.mem_range, h.len] at hk
    refine ⟨ws.getD k 0, by rw [e], ?_⟩
    rw [List.getD_eq_getElem?_getD, List.getElem?_eq_getElem hk, Option.getD_some]
    have := h.pos _ (List.getElem_mem hk)
    omega
theorem wtd_gd {vs ws : List Int} (h : Wd vs ws) : Gd (wtd vs ws) := ⟨wtd_fine h, by rw [wtd_len]; have := h.few; omega, Nat.lt_of_le_of_lt (acc_len _) (by rw [wtd_len]; exact h.few)⟩
/-! ### the law's spreads -/
def sprLims (n : Nat) (width : Int) : List Int := (n : Int) :: (List.replicate n width ++ List.replicate n 9)
def sprSize (cell : Int) (n : Nat) (width : Int) : Nat := (1 + (drawsF cell (sprLims n width)).getD 0 0).toNat
def sprV (cell : Int) (n : Nat) (low width : Int) : List Int := (((drawsF cell (sprLims n width)).drop 1).take (sprSize cell n width)).map fun v => low + v
def sprW (cell : Int) (n : Nat) (width : Int) : List Int := (((drawsF cell (sprLims n width)).drop (1 + n)).take (sprSize cell n width)).map fun v => 1 + v
def sprF (cell : Int) (n : Nat) (low width : Int) : Spr := gatF (wtd (sprV cell n low width) (sprW cell n width))
structure SprOk (n : Nat) (width : Int) : Prop where
  n1 : 1 ≤ n
  n2 : n < 64
  w1 : 1 ≤ width
  w2 : width ≤ 1000000
theorem sprLims_ok {n : Nat} {width : Int} (h : SprOk n width) : (∀ l ∈ sprLims n width, 0 < l) ∧ (∀ l ∈ sprLims n width, Bt 30 l) ∧ (sprLims n width).length = 1 + 2 * n := by
  have key : ∀ l ∈ sprLims n width, 0 < l ∧ l ≤ 1000000 := by
    intro l hl
    have h1 := h.n1; have h2 := h.n2; have h3 := h.w1; have h4 := h.w2
    rcases List.mem_cons.mp hl with z | z
    · omega
    · rcases List.mem_append.mp z with z | z
      · rw [(List.mem_replicate.mp z).2]; omega
      · rw [(List.mem_replicate.mp z).2]; omega
  refine ⟨fun l hl => (key l hl).1, fun l hl => bt_range (by have := key l hl; omega) (by have := key l hl; omega), ?_⟩
  unfold sprLims
  rw [List.length_cons, List.length_append, List.length_replicate, List.length_replicate]
  omega
theorem spr_size {n : Nat} {width : Int} (h : SprOk n width) (cell : Int) : ∃ x : Int, (drawsF cell (sprLims n width))[0]? = some x ∧ 0 ≤ x ∧ x < n ∧ sprSize cell n width = (1 + x).toNat ∧ 1 ≤ sprSize cell n width ∧ sprSize cell n width ≤ n := by
  obtain ⟨x, h1, h2, h3⟩ := drawsF_at cell (ls := sprLims n width) (i := 0) (sprLims_ok h).1 rfl
  have e : sprSize cell n width = (1 + x).toNat := by unfold sprSize; rw [List.getD_eq_getElem?_getD, h1]; rfl
  refine ⟨x, h1, h2, h3, e, ?_, ?_⟩
  · rw [e]; omega
  · rw [e]; omega
theorem spr_len {n : Nat} {low width : Int} (h : SprOk n width) (cell : Int) : (sprV cell n low width).length = sprSize cell n width ∧ (sprW cell n width).length = sprSize cell n width := by
  obtain ⟨x, _, _, _, _, h1, h2⟩ := spr_size h cell
  have hl := (sprLims_ok h).2.2
  unfold sprV sprW
  rw [List.length_map, List.length_take, List.length_drop, drawsF_len, List.length_map, List.length_take, List.length_drop, drawsF_len, hl]
  omega
theorem spr_draw {n : Nat} {width : Int} (h : SprOk n width) (cell : Int) {i : Nat} {x : Int} (hx : (drawsF cell (sprLims n width))[i + 1]? = some x) : 0 ≤ x ∧ (i < n → x < width) ∧ (n ≤ i → x < 9) := by
  have hi := (List.getElem?_eq_some_iff.mp hx).1
  rw [drawsF_len] at hi
  have hl := (sprLims_ok h).2.2
  have hi2 := hi
  rw [hl] at hi2
  obtain ⟨l, hl2⟩ : ∃ l, (sprLims n width)[i + 1]? = some l := ⟨_, List.getElem?_eq_getElem hi⟩
  obtain ⟨y, h1, h2, h3⟩ := drawsF_at cell (ls := sprLims n width) (i := i + 1) (sprLims_ok h).1 hl2
  rw [hx] at h1
  cases h1
  have e : (List.replicate n width ++ List.replicate n 9)[i]? = some l := hl2
  refine ⟨h2, fun z => ?_, fun z => ?_⟩
  · rw [List.getElem?_append_left (by rw [List.length_replicate]; exact z), List.getElem?_replicate, if_pos z] at e
    cases e; exact h3
  · rw [List.getElem?_append_right (by rw [List.length_replicate]; exact z), List.getElem?_replicate, List.length_replicate, if_pos (by omega)] at e
    cases e; exact h3
theorem sprV_mem {n : Nat} {low width : Int} (h : SprOk n width) (cell : Int) {v : Int} (hv : v ∈ sprV cell n low width) : low ≤ v ∧ v < low + width := by
  unfold sprV at hv
  obtain ⟨x, hx, rfl⟩ := List.mem_map.mp hv
  obtain ⟨i, hi, e⟩ := List.mem_iff_getElem.mp hx
  have e2 := List.getElem?_eq_some_iff.mpr ⟨hi, e⟩
  obtain ⟨_, _, _, _, _, _, h2⟩ := spr_size h cell
  rw [List.length_take] at hi
  rw [List.getElem?_take_of_lt (by omega), List.getElem?_drop] at e2
  have := spr_draw h cell (i := i) (x := x) (by rw [Nat.add_comm]; exact e2)
  have h3 := this.2.1 (by omega)
  omega
theorem sprW_mem {n : Nat} {width : Int} (h : SprOk n width) (cell : Int) {v : Int} (hv : v ∈ sprW cell n width) : 1 ≤ v ∧ v ≤ 9 := by
  unfold sprW at hv
  obtain ⟨x, hx, rfl⟩ := List.mem_map.mp hv
  obtain ⟨i, hi, e⟩ := List.mem_iff_getElem.mp hx
  have e2 := List.getElem?_eq_some_iff.mpr ⟨hi, e⟩
  rw [List.length_take] at hi
  rw [List.getElem?_take_of_lt (by omega), List.getElem?_drop] at e2
  have := spr_draw h cell (i := n + i) (x := x) (by rw [show n + i + 1 = 1 + n + i by omega]; exact e2)
  have h3 := this.2.2 (by omega)
  omega
theorem spr_wd {n : Nat} {low width : Int} (h : SprOk n width) (cell : Int) : Wd (sprV cell n low width) (sprW cell n width) := by
  obtain ⟨h1, h2⟩ := spr_len (low := low) h cell
  obtain ⟨_, _, _, _, _, h3, h4⟩ := spr_size h cell
  refine ⟨by rw [h1, h2], by rw [h1]; have := h.n2; omega, fun z => by rw [z] at h1; simp at h1; omega, fun x hx => ?_⟩
  have := sprW_mem h cell hx
  omega
end MX

namespace DL
open PySem L2
abbrev rLenS (K : PySem.W.Frag) : List V → Hp → VK → Prop := fun xs H Q => ∃ p ys, xs = [.ref p] ∧ (SqL K H p ys ∨ SqT K H p ys) ∧ Q (.int ys.length) H
variable {K : PySem.W.Frag} {E : XK} {env : EnvD}
/-- f(..).append(x): the new list is dropped -/
theorem run_appendN {ta te : TE} {ds : List D} {d : D} (ha : EvN K ta env ds) (h : EvD K te env d) (hl : ds.length < 10000000) : Run K E (tDrop (tBM K "list" rAppend ta (tCons te tNil))) env (.nx env) := fun G0 H0 G H σ D ok q => by
  refine ha G0 H0 G H σ ok _ fun p xs G1 H1 a hp g1 h1 hd => ?_
  refine ⟨.inl ⟨rfl, xs, SqL.of h1⟩, h G0 H0 G1 H1 σ (ok.go a) _ fun v G2 H2 a2 hv => ⟨p, xs, v, rfl, rfl, a2.hh _ _ h1, ?_, ?_⟩⟩
  · rw [hd.len, sizeLine_eq]; omega
  · have g2 : G2 p = none := a2.fr p (by rw [h1]; simp) g1
    have aa := a.trans a2
    exact q G2 _ σ (ok.go ⟨aa.gg, same_upd2 aa.gh g2, fun b o e => by rw [upd_ne (ne_of_none e hp)]; exact aa.hh _ _ e, aa.fr⟩)
/-- what repr may be asked of -/
structure Shw (d : D) : Prop where
  can : d.showable = true
  nod : d.hasDict = false
  dep : d.depth ≤ 60
  len : d.shown.length ≤ sizeLine
  seq : (∃ ds, d = .list ds) ∨ ∃ ds, d = .tuple ds
theorem ed_repr {ta : TE} {d : D} (h : EvP K ta env d) (hs : Shw d) : EvD K (tCB (rRepr K) (tCons ta tNil)) env (.str d.shown) := fun G0 H0 G H σ ok Q q =>
  h G0 H0 G H σ ok _ fun v G1 H1 a hv => by
    have key : ∃ p, v = .ref p := by
      rcases hs.seq with ⟨ds, e⟩ | ⟨ds, e⟩
      · subst e; obtain ⟨p, xs, e, _⟩ := hv.lst_inv; exact ⟨p, e⟩
      · subst e; obtain ⟨p, xs, e, _⟩ := hv.tup_inv; exact ⟨p, e⟩
    obtain ⟨p, rfl⟩ := key
    exact ⟨p, d, rfl, hv.dp, hs.can, hs.nod, hs.dep, hs.len, q _ G1 H1 a (.str _)⟩
end DL
namespace MX
open PySem L2 DL
/-! ### spreads of small numbers -/
structure Ty (n : Nat) (s : Spr) : Prop where
  q : ∃ N b : Nat, 0 < N ∧ N < 2 ^ n ∧ b < 2 ^ n ∧ ∀ p ∈ s, Sq N b p.2
  v : ∀ p ∈ s, Bt n p.1
  len : s.length < 64
theorem pow_lt {n m : Nat} (h : n ≤ m) : 2 ^ n ≤ 2 ^ m := Nat.pow_le_pow_right (by decide) h
theorem few_lt {k b n m : Nat} (hk : k ≤ 64) (hb : b ≤ 2 ^ n) (h : n + 6 ≤ m) : k * b ≤ 2 ^ m := by
  have h1 : k * b ≤ 64 * 2 ^ n := Nat.mul_le_mul hk hb
  have h2 : 64 * 2 ^ n = 2 ^ (n + 6) := by rw [Nat.pow_add]; omega
  exact Nat.le_trans (by omega) (pow_lt h)
theorem Ty.mono {n m : Nat} {s : Spr} (h : Ty n s) (hm : n ≤ m) : Ty m s := by
  obtain ⟨⟨N, b, h1, h2, h3, h4⟩, h5, h6⟩ := h
  exact ⟨⟨N, b, h1, Nat.lt_of_lt_of_le h2 (pow_lt hm), Nat.lt_of_lt_of_le h3 (pow_lt hm), h4⟩, fun p hp => (h5 p hp).mono hm, h6⟩
theorem fin_of {N b n k m : Nat} (h1 : 0 < N) (h2 : N < 2 ^ n) (h3 : b < 2 ^ m) (hk : k < 64) (hn : n ≤ 3900) (hm : m ≤ 3890) : Fin N b k := by
  refine ⟨h1, Nat.lt_of_lt_of_le h2 (pow_lt hn), ?_⟩
  have := few_lt (k := k + 1) (b := b + 1) (n := m) (m := 3896) (by omega) h3 (by omega)
  exact Nat.lt_of_le_of_lt this (Nat.pow_lt_pow_right (by decide) (by decide))
theorem Ty.fine {n : Nat} {s : Spr} (h : Ty n s) (hn : n ≤ 3000) : Fine (s.map (·.2)) := by
  obtain ⟨⟨N, b, h1, h2, h3, h4⟩, h5, h6⟩ := h
  exact ⟨N, b, fin_of h1 h2 h3 (by rw [List.length_map]; exact h6) (by omega) (by omega), fun r hr => by obtain ⟨p, hp, rfl⟩ := List.mem_map.mp hr; exact h4 p hp⟩
theorem Ty.gd {n : Nat} {s : Spr} (h : Ty n s) (hn : n ≤ 3000) : Gd s := ⟨h.fine hn, by have := h.len; omega, Nat.lt_of_le_of_lt (acc_len _) h.len⟩
theorem Ty.qb {n : Nat} {s : Spr} (h : Ty n s) : ∀ p ∈ s, Qb n p.2 := fun p hp => by
  obtain ⟨⟨N, b, h1, h2, h3, h4⟩, h5, h6⟩ := h
  exact sq_qb h1 h2 h3 (h4 p hp)
theorem sq_intmul {N b n : Nat} {x : Int} {r : Rat} (hN : 0 < N) (hx : Bt n x) (h : Sq N b r) : Sq N (2 ^ n * b) ((x : Rat) * r) := by
  obtain ⟨k, e, hk⟩ := h
  refine ⟨x * k, ?_, ?_⟩
  · rw [e, Rat.divInt_eq_div, Rat.divInt_eq_div, Rat.intCast_mul]; grind
  · rw [Int.natAbs_mul]
    exact Nat.mul_le_mul (Nat.le_of_lt hx) hk
theorem Ty.sqx {n : Nat} {s : Spr} (h : Ty n s) : ∃ N b : Nat, 0 < N ∧ N < 2 ^ n ∧ b < 2 ^ (2 * n) ∧ ∀ r ∈ s.map (fun p => (p.1 : Rat) * p.2), Sq N b r := by
  obtain ⟨⟨N, b, h1, h2, h3, h4⟩, h5, h6⟩ := h
  refine ⟨N, 2 ^ n * b, h1, h2, ?_, fun r hr => ?_⟩
  · rw [show 2 * n = n + n by omega, Nat.pow_add]
    exact Nat.mul_lt_mul_of_le_of_lt (Nat.le_refl _) h3 (Nat.two_pow_pos n)
  · obtain ⟨p, hp, rfl⟩ := List.mem_map.mp hr
    exact sq_intmul h1 (h5 p hp) (h4 p hp)
theorem Ty.mn {n : Nat} {s : Spr} (h : Ty n s) (hn : n ≤ 1500) : Mn s := by
  obtain ⟨N, b, h1, h2, h3, h4⟩ := h.sqx
  exact ⟨⟨N, b, fin_of h1 h2 h3 (by rw [List.length_map]; exact h.len) (by omega) (by omega), h4⟩, fun p hp => ⟨(h.v p hp).mono (by omega), (h.qb p hp).mono (by omega)⟩, by have := h.len; omega⟩
theorem Ty.mean {n m : Nat} {s : Spr} (h : Ty n s) (hm : 2 * n + 7 ≤ m) : Qb m (Ex s fun x => (x : Rat)) := by
  obtain ⟨N, b, h1, h2, h3, h4⟩ := h.sqx
  rw [← sum_ex]
  have h5 := sum_sq h1 h4
  rw [List.length_map] at h5
  have h6 : s.length * b ≤ 2 ^ (2 * n + 6) := few_lt (by have := h.len; omega) (Nat.le_of_lt h3) (Nat.le_refl _)
  exact (sq_qb (n := 2 * n + 7) h1 (Nat.lt_of_lt_of_le h2 (pow_lt (by omega))) (Nat.lt_of_le_of_lt h6 (Nat.pow_lt_pow_right (by decide) (by omega))) h5).mono hm
theorem Ty.wts {n : Nat} {s : Spr} (h : Ty n s) : ∃ N b : Nat, 0 < N ∧ N < 2 ^ n ∧ b < 2 ^ (n + 6) ∧ ∀ v, Sq N b (wt s v) := by
  obtain ⟨⟨N, b, h1, h2, h3, h4⟩, h5, h6⟩ := h
  refine ⟨N, s.length * b, h1, h2, ?_, wt_sq h1 fun r hr => ?_⟩
  · have e : (2 : Nat) ^ (n + 6) = 64 * 2 ^ n := by rw [Nat.pow_add]; omega
    rw [e]
    exact Nat.lt_of_le_of_lt (Nat.mul_le_mul_left _ (Nat.le_of_lt h3)) (Nat.mul_lt_mul_of_pos_right h6 (Nat.two_pow_pos n))
  · obtain ⟨p, hp, rfl⟩ := List.mem_map.mp hr; exact h4 p hp
theorem Ty.wt {n m : Nat} {s : Spr} (h : Ty n s) (hm : n + 6 ≤ m) (v : Int) : Qb m (wt s v) := by
  obtain ⟨N, b, h1, h2, h3, h4⟩ := h.wts
  exact (sq_qb h1 (Nat.lt_of_lt_of_le h2 (pow_lt (by omega))) h3 (h4 v)).mono hm
theorem gat_mem {s : Spr} {p : Int × Rat} (h : p ∈ gatF s) : p.1 ∈ s.map (·.1) ∧ p.2 = wt s p.1 := by
  obtain ⟨x, hx, e2⟩ := List.mem_filterMap.mp h
  split at e2
  · cases e2
  · cases e2
    exact ⟨(acc_mem s x).mp ((srt_perm _).mem_iff.mp hx), rfl⟩
theorem gat_len (s : Spr) : (gatF s).length ≤ s.length := by
  unfold gatF
  refine Nat.le_trans (List.length_filterMap_le _ _) ?_
  rw [(srt_perm _).length_eq, List.length_map]
  exact acc_len s
theorem Ty.gat {n : Nat} {s : Spr} (h : Ty n s) : Ty (n + 6) (gatF s) := by
  obtain ⟨N, b, h1, h2, h3, h4⟩ := h.wts
  refine ⟨⟨N, b, h1, Nat.lt_of_lt_of_le h2 (pow_lt (by omega)), h3, fun p hp => by rw [(gat_mem hp).2]; exact h4 _⟩, fun p hp => ?_, Nat.lt_of_le_of_lt (gat_len s) h.len⟩
  obtain ⟨q, hq, e⟩ := List.mem_map.mp (gat_mem hp).1
  rw [← e]
  exact (h.v q hq).mono (by omega)
theorem Ty.sh {n : Nat} {s : Spr} (h : Ty n s) {k : Int} (hk : Bt n k) : Ty (n + 1) (shF s k) := by
  obtain ⟨⟨N, b, h1, h2, h3, h4⟩, h5, h6⟩ := h
  refine ⟨⟨N, b, h1, Nat.lt_of_lt_of_le h2 (pow_lt (by omega)), Nat.lt_of_lt_of_le h3 (pow_lt (by omega)), fun p hp => ?_⟩, fun p hp => ?_, by unfold shF; rw [List.length_map]; exact h6⟩
  · obtain ⟨q, hq, rfl⟩ := List.mem_map.mp hp; exact h4 q hq
  · obtain ⟨q, hq, rfl⟩ := List.mem_map.mp hp; exact (h5 q hq).add hk
theorem ty_wtd {vs ws : List Int} (h : Wd vs ws) (hv : ∀ v ∈ vs, Bt 40 v) : Ty 40 (wtd vs ws) := by
  obtain ⟨h1, h2⟩ := h.sum
  have e : ((ws.sum.toNat : Nat) : Int) = ws.sum := by omega
  have p40 : (2 : Int) ^ 40 = 1099511627776 := by decide
  refine ⟨⟨ws.sum.toNat, 1000000000, by omega, by show _ < 1099511627776; omega, by decide, fun p hp => ?_⟩, fun p hp => ?_, by rw [wtd_len]; exact h.few⟩
  · unfold wtd at hp
    obtain ⟨k, hk, rfl⟩ := List.mem_map.mp hp
    rw [List.mem_range, h.len] at hk
    refine ⟨ws.getD k 0, by rw [e], ?_⟩
    rw [List.getD_eq_getElem?_getD, List.getElem?_eq_getElem hk, Option.getD_some]
    have := h.pos _ (List.getElem_mem hk)
    omega
  · unfold wtd at hp
    obtain ⟨k, hk, rfl⟩ := List.mem_map.mp hp
    rw [List.mem_range] at hk
    show Bt 40 (vs.getD k 0)
    rw [List.getD_eq_getElem?_getD, List.getElem?_eq_getElem hk, Option.getD_some]
    exact hv _ (List.getElem_mem hk)
theorem ty_spr {n : Nat} {low width : Int} (h : SprOk n width) (hl : -1000000 ≤ low ∧ low ≤ 1000000) (cell : Int) : Ty 46 (sprF cell n low width) :=
  (ty_wtd (spr_wd h cell) fun v hv => by
    have h1 := sprV_mem h cell hv
    have := h.w2
    exact bt_range (by have : (2 : Int) ^ 40 = 1099511627776 := by decide
                       omega) (by have : (2 : Int) ^ 40 = 1099511627776 := by decide
                                  omega)).gat
/-! ### showing -/
theorem leaf_int {x : Int} (h : Bt 1900 x) : PyData.leavesShort 2000 (.int x) = true ∧ PyData.showable (.int x) = true := by
  have hl : x.natAbs.log2 < 1900 := PySem.Flt.log2_lt_of (by decide) h
  refine ⟨?_, ?_⟩
  · simp only [PyData.leavesShort, decide_eq_true_eq]
    have := int_text_length_le (a := x) (k := 1900) (by decide) hl
    show (Str.ofString (toString x)).length ≤ 2000
    rw [ofString_length]; omega
  · simp only [PyData.showable, decide_eq_true_eq]; omega
theorem shw_of {d : PyData} (h1 : d.leavesShort 2000 = true) (h2 : d.showable = true) (h3 : d.hasDict = false) (h4 : d.depth ≤ 60) (h5 : d.bulk ≤ 5000) (h6 : (∃ ds, d = .list ds) ∨ ∃ ds, d = .tuple ds) : Shw d := by
  refine ⟨h2, h3, h4, ?_, h6⟩
  have h := PyData.shown_le_bulk 2000 (by decide) d h1
  rw [sizeLine_eq]
  have : (2000 + 2) * d.bulk ≤ 2002 * 5000 := Nat.mul_le_mul_left _ h5
  omega
theorem shw_Q {r : Rat} (h : Qb 1900 r) : Shw (encQ r) := by
  obtain ⟨a1, a2⟩ := leaf_int h.num
  obtain ⟨b1, b2⟩ := leaf_int h.den
  exact shw_of (by simp only [PyData.leavesShort, PyData.leavesShortAll, Bool.and_true, Bool.and_eq_true] at *; exact ⟨a1, b1⟩) (by simp only [PyData.showable, PyData.showableAll, Bool.and_true, Bool.and_eq_true] at *; exact ⟨a2, b2⟩) (by simp [PyData.hasDict, PyData.hasDictAll]) (by simp [PyData.depth, PyData.depthAll]) (by simp [PyData.bulk, PyData.bulkAll]) (.inr ⟨_, rfl⟩)
theorem leaf_I {p : Int × Rat} (h1 : Bt 1900 p.1) (h2 : Qb 1900 p.2) : (encI p).leavesShort 2000 = true ∧ (encI p).showable = true := by
  obtain ⟨a1, a2⟩ := leaf_int h1
  obtain ⟨b1, b2⟩ := leaf_int h2.num
  obtain ⟨c1, c2⟩ := leaf_int h2.den
  exact ⟨by simp only [PyData.leavesShort, PyData.leavesShortAll, Bool.and_true, Bool.and_eq_true] at *; exact ⟨a1, b1, c1⟩, by simp only [PyData.showable, PyData.showableAll, Bool.and_true, Bool.and_eq_true] at *; exact ⟨a2, b2, c2⟩⟩
theorem shw_S {s : Spr} (h : ∀ p ∈ s, Bt 1900 p.1 ∧ Qb 1900 p.2) (hl : s.length ≤ 900) : Shw (encS s) := by
  have k1 : ∀ t : Spr, (∀ p ∈ t, Bt 1900 p.1 ∧ Qb 1900 p.2) → PyData.leavesShortAll 2000 (t.map encI) = true ∧ PyData.showableAll (t.map encI) = true ∧ PyData.hasDictAll (t.map encI) = false ∧ PyData.bulkAll (t.map encI) = 5 * t.length := by
    intro t
    induction t with
    | nil => intro _; simp [PyData.leavesShortAll, PyData.showableAll, PyData.hasDictAll, PyData.bulkAll]
    | cons p t ih =>
      intro h
      obtain ⟨i1, i2, i3, i4⟩ := ih fun q hq => h q (List.mem_cons_of_mem _ hq)
      obtain ⟨j1, j2⟩ := leaf_I (h p (List.mem_cons_self)).1 (h p (List.mem_cons_self)).2
      rw [List.map_cons]
      refine ⟨?_, ?_, ?_, ?_⟩
      · simp only [PyData.leavesShortAll, j1, i1, Bool.and_true]
      · simp only [PyData.showableAll, j2, i2, Bool.and_true]
      · simp [PyData.hasDictAll, PyData.hasDict, i3]
      · simp [PyData.bulkAll, PyData.bulk, i4]; omega
  obtain ⟨i1, i2, i3, i4⟩ := k1 s h
  refine shw_of (by simp only [PyData.leavesShort, i1]) (by simp only [PyData.showable, i2]) (by simp only [PyData.hasDict, i3]) ?_ (by simp only [PyData.bulk, i4]; omega) (.inl ⟨_, rfl⟩)
  have h2 : PyData.depthAll (s.map encI) ≤ 2 := depth_all encI 2 (fun x => by simp [PyData.depth, PyData.depthAll]) s
  simp only [PyData.depth]; omega
theorem Ty.shw {n : Nat} {s : Spr} (h : Ty n s) (hn : n ≤ 1900) : Shw (encS s) := shw_S (fun p hp => ⟨(h.v p hp).mono hn, (h.qb p hp).mono hn⟩) (by have := h.len; omega)
end MX

namespace DL
open PySem L2
variable {K : PySem.W.Frag} {E : XK} {env env' : EnvD}
theorem eg_lst {ts : List Nat} {n : Nat} {gs : TGs} {ds : List D} (h : EvGs K gs ts env ds env') (hn : ds.length = n) : EvG K (gLst K n gs) ts env (.list ds) env' := fun G0 H0 G H σ v Nx ok hv q => by
  obtain ⟨a, xs, e, hs, hd⟩ := hv.lst_inv
  subst e
  exact ⟨a, xs, rfl, SqL.of (ok.gh _ _ hs), by rw [hd.len]; exact hn, h G0 H0 G H σ xs Nx ok hd q⟩
def mn (i j : Int) : Int := if j < i then j else i
def mx (i j : Int) : Int := if j > i then j else i
def mx3 (a b c : Int) : Int := if (if a < b then b else a) < c then c else (if a < b then b else a)
theorem nuMax3_int (a b c : Int) : nuMax3 (.int a) (.int b) (.int c) = some (.int (mx3 a b c)) := by
  unfold nuMax3 nuMax2 nuLt nuCB mx3
  simp only [Option.map_some, Option.bind_some, decide_eq_true_eq]
  by_cases h : a < b
  · simp only [if_pos h]
    by_cases h2 : b < c
    · simp [h2]
    · simp [h2]
  · simp only [if_neg h]
    by_cases h2 : a < c
    · simp [h2]
    · simp [h2]
theorem ed_max3 {ta tb tc : TE} {i j k : Int} (h : EvD K ta env (.int i)) (h' : EvD K tb env (.int j)) (h'' : EvD K tc env (.int k)) : EvD K (tCB (rNuC3 nuMax3) (tCons ta (tCons tb (tCons tc tNil)))) env (.int (mx3 i j k)) := fun G0 H0 G H σ ok Q q =>
  ea_d h (ea_d h' (ea_d h'' ea_nil)) G0 H0 G H σ ok _ fun vs G1 H1 a hv => by
    obtain ⟨_, ⟨v, e1, d1⟩, _, ⟨u, e2, d2⟩, _, ⟨w, e3, d3⟩, ev⟩ : ∃ v1, (∃ v, v1 = v ∧ Dd K G1 v (.int i)) ∧ ∃ v2, (∃ v, v2 = v ∧ Dd K G1 v (.int j)) ∧ ∃ v3, (∃ v, v3 = v ∧ Dd K G1 v (.int k)) ∧ vs = [v1, v2, v3] := by
      cases hv with
      | cons m s r =>
        cases r with
        | cons m2 s2 r2 =>
          cases r2 with
          | cons m3 s3 r3 =>
            cases r3
            obtain ⟨v, e, d⟩ := s
            obtain ⟨v2, e2, d2⟩ := s2
            obtain ⟨v3, e3, d3⟩ := s3
            cases e; cases e2; cases e3
            exact ⟨_, ⟨_, rfl, d⟩, _, ⟨_, rfl, d2⟩, _, ⟨_, rfl, d3⟩, rfl⟩
    subst e1 e2 e3
    rw [d1.int_inv, d2.int_inv, d3.int_inv] at ev
    exact ⟨_, _, _, _, ev, nuMax3_int i j k, q _ G1 H1 a (.int _)⟩
theorem ed_int1b {ta : TE} {b : Bool} (h : EvD K ta env (.bool b)) : EvD K (tCB (fun xs H Q => (∃ i, xs = [.int i] ∧ Q (.int i) H) ∨ ∃ k, xs = [.bl k] ∧ Q (.int (if k then 1 else 0)) H) (tCons ta tNil)) env (.int (if b then 1 else 0)) :=
  ed_CB (ea_d h ea_nil) fun vs G H _ hv Q q => by
    obtain ⟨v, rfl, hd⟩ := args1 hv
    rw [hd.bl_inv]
    exact .inr ⟨b, rfl, q _ (.int _)⟩
theorem ed_reprI {ta : TE} {i : Int} (h : EvD K ta env (.int i)) (hi : MX.Bt 1900 i) : EvD K (tCB (fun xs H Q => ∃ i, xs = [.int i] ∧ i.natAbs.log2 < 1920 ∧ Q (.str (toString i)) H) (tCons ta tNil)) env (.str (toString i)) :=
  ed_CB (ea_d h ea_nil) fun vs G H _ hv Q q => by
    obtain ⟨v, rfl, hd⟩ := args1 hv
    rw [hd.int_inv]
    exact ⟨i, rfl, PySem.Flt.log2_lt_of (by decide) (hi.mono (by decide)), q _ (.str _)⟩
end DL
namespace MX
open PySem L2 DL
/-! ### treaties -/
inductive Lay
  | share (r : Rat)
  | limit (c : Int)
  | band (b c : Int)
def encL : Lay → PyData
  | .share r => .tuple [.str "share", encQ r]
  | .limit c => .tuple [.str "limit", .int c]
  | .band b c => .tuple [.str "band", .int b, .int c]
def layF : Lay → Int → Int
  | .share r, x => -((-x * r.num).fdiv r.den)
  | .limit c, x => mn x c
  | .band b c, x => x - (mn x c - mn x b)
def LayOk : Lay → Prop
  | .share r => 0 ≤ r.num ∧ r.num ≤ r.den ∧ Qb 60 r
  | .limit c => 0 ≤ c ∧ c ≤ 1000000
  | .band b c => 0 ≤ b ∧ b ≤ c ∧ c ≤ 1000000
theorem layF_bd {l : Lay} (h : LayOk l) {x : Int} (hx : 0 ≤ x) : 0 ≤ layF l x ∧ layF l x ≤ x := by
  cases l with
  | share r =>
    obtain ⟨h1, h2, _⟩ := h
    have hd : 0 < (r.den : Int) := by have := r.den_nz; omega
    have m1 : 0 ≤ x * r.num := Int.mul_nonneg hx h1
    have m2 : x * r.num ≤ x * r.den := Int.mul_le_mul_of_nonneg_left h2 hx
    show 0 ≤ -((-x * r.num).fdiv r.den) ∧ -((-x * r.num).fdiv r.den) ≤ x
    rw [Int.fdiv_eq_ediv_of_nonneg _ (by omega), Int.neg_mul]
    have a1 : -(x * r.num) / (r.den : Int) ≤ 0 := by
      have := Int.ediv_le_ediv hd (show -(x * r.num) ≤ 0 by omega)
      rw [Int.zero_ediv] at this
      exact this
    have a2 : -x ≤ -(x * r.num) / (r.den : Int) := by
      rw [Int.le_ediv_iff_mul_le hd, Int.neg_mul]; omega
    omega
  | limit c =>
    obtain ⟨h1, h2⟩ := h
    show 0 ≤ mn x c ∧ mn x c ≤ x
    unfold mn; split <;> omega
  | band b c =>
    obtain ⟨h1, h2, h3⟩ := h
    show 0 ≤ x - (mn x c - mn x b) ∧ x - (mn x c - mn x b) ≤ x
    unfold mn; split <;> split <;> omega
def remF (ls : List Lay) (x : Int) : Int := ls.foldl (fun x l => layF l x) x
theorem remF_snoc {ls : List Lay} {i : Nat} (hi : i < ls.length) (x : Int) : remF (ls.take (i + 1)) x = layF ls[i] (remF (ls.take i) x) := by
  unfold remF
  rw [List.take_add_one, List.getElem?_eq_getElem hi, Option.toList_some, List.foldl_append]; rfl
theorem remF_bd : ∀ {ls : List Lay}, (∀ l ∈ ls, LayOk l) → ∀ {x : Int}, 0 ≤ x → 0 ≤ remF ls x ∧ remF ls x ≤ x
  | [], _, x, hx => ⟨hx, Int.le_refl _⟩
  | l :: ls, h, x, hx => by
    have h1 := layF_bd (h l (List.mem_cons_self)) hx
    have h2 := remF_bd (ls := ls) (fun m hm => h m (List.mem_cons_of_mem _ hm)) h1.1
    show 0 ≤ remF ls (layF l x) ∧ remF ls (layF l x) ≤ x
    omega
structure Tr where
  prem : Int
  ls : List Lay
abbrev encT (t : Tr) : PyData := .tuple [.int t.prem, .list (t.ls.map encL)]
structure TrOk (t : Tr) : Prop where
  ok : ∀ l ∈ t.ls, LayOk l
  few : t.ls.length ≤ 10
  prem : Bt 60 t.prem
theorem TrOk.take {t : Tr} (h : TrOk t) (i : Nat) : ∀ l ∈ t.ls.take i, LayOk l := fun l hl => h.ok l (List.mem_of_mem_take hl)
theorem bt_le {n : Nat} {x y : Int} (h : Bt n x) (h0 : 0 ≤ y) (hy : y ≤ x) : Bt n y := Nat.lt_of_le_of_lt (show y.natAbs ≤ x.natAbs by omega) h
def mapT (t : Tr) (s : Spr) : Spr := s.map fun p => (remF t.ls p.1, p.2)
theorem ty_mapT {n : Nat} {s : Spr} {t : Tr} (h : Ty n s) (h0 : ∀ p ∈ s, 0 ≤ p.1) (ht : TrOk t) : Ty n (mapT t s) := by
  obtain ⟨⟨N, b, h1, h2, h3, h4⟩, h5, h6⟩ := h
  refine ⟨⟨N, b, h1, h2, h3, fun p hp => ?_⟩, fun p hp => ?_, by unfold mapT; rw [List.length_map]; exact h6⟩
  · obtain ⟨q, hq, rfl⟩ := List.mem_map.mp hp; exact h4 q hq
  · obtain ⟨q, hq, rfl⟩ := List.mem_map.mp hp
    have := remF_bd ht.ok (h0 q hq)
    exact bt_le (h5 q hq) this.1 this.2
theorem mapT_nil (m : Int) (s : Spr) : mapT ⟨m, []⟩ s = s := by
  unfold mapT
  conv => rhs; rw [← List.map_id s]
  exact List.map_congr_left fun p _ => rfl
theorem leaf_L {l : Lay} (h : LayOk l) : (encL l).leavesShort 2000 = true ∧ (encL l).showable = true ∧ (encL l).hasDict = false ∧ (encL l).depth ≤ 2 ∧ (encL l).bulk ≤ 12 := by
  have big : ∀ {x : Int}, 0 ≤ x → x ≤ 1000000 → Bt 1900 x := fun h0 h1 => Bt.mono (n := 30) (bt_range (by omega) (by omega)) (by decide)
  have ls : ∀ x : Str, (x.cps.toList.all fun c => decide (c < 16 ^ 8)) = true → PyData.leavesShort 2000 (.str x) = true := fun x h => by simpa only [PyData.leavesShort] using h
  cases l with
  | share r =>
    obtain ⟨_, _, hq⟩ := h
    obtain ⟨a1, a2⟩ := leaf_int (hq.num.mono (by decide : 60 ≤ 1900))
    obtain ⟨b1, b2⟩ := leaf_int (hq.den.mono (by decide : 60 ≤ 1900))
    have s1 := ls "share" (by decide +kernel)
    refine ⟨?_, ?_, ?_, ?_, ?_⟩
    · show PyData.leavesShort 2000 (.tuple [.str "share", .tuple [.int r.num, .int (r.den : Int)]]) = true
      simp only [PyData.leavesShort, PyData.leavesShortAll, Bool.and_true, Bool.and_eq_true] at a1 b1 s1 ⊢
      exact ⟨s1, a1, b1⟩
    · show PyData.showable (.tuple [.str "share", .tuple [.int r.num, .int (r.den : Int)]]) = true
      simp only [PyData.showable, PyData.showableAll, Bool.and_true, Bool.true_and, Bool.and_eq_true] at a2 b2 ⊢
      exact ⟨a2, b2⟩
    · simp [encL, PyData.hasDict, PyData.hasDictAll]
    · simp [encL, PyData.depth, PyData.depthAll]
    · simp only [encL, PyData.bulk, PyData.bulkAll]
      have : (Str.ofString "share").cps.size = 5 := by decide +kernel
      omega
  | limit c =>
    obtain ⟨a1, a2⟩ := leaf_int (big h.1 h.2)
    have s1 := ls "limit" (by decide +kernel)
    refine ⟨?_, ?_, ?_, ?_, ?_⟩
    · show PyData.leavesShort 2000 (.tuple [.str "limit", .int c]) = true
      rw [PyData.leavesShort, PyData.leavesShortAll, s1, PyData.leavesShortAll, a1]; rfl
    · show PyData.showable (.tuple [.str "limit", .int c]) = true
      rw [PyData.showable, PyData.showableAll, PyData.showable, PyData.showableAll, a2]; rfl
    · simp [encL, PyData.hasDict, PyData.hasDictAll]
    · simp [encL, PyData.depth, PyData.depthAll]
    · simp only [encL, PyData.bulk, PyData.bulkAll]
      have : (Str.ofString "limit").cps.size = 5 := by decide +kernel
      omega
  | band b c =>
    obtain ⟨h1, h2, h3⟩ := h
    obtain ⟨a1, a2⟩ := leaf_int (big h1 (by omega))
    obtain ⟨b1, b2⟩ := leaf_int (big (by omega : 0 ≤ c) h3)
    have s1 := ls "band" (by decide +kernel)
    refine ⟨?_, ?_, ?_, ?_, ?_⟩
    · show PyData.leavesShort 2000 (.tuple [.str "band", .int b, .int c]) = true
      rw [PyData.leavesShort, PyData.leavesShortAll, s1, PyData.leavesShortAll, a1, PyData.leavesShortAll, b1]; rfl
    · show PyData.showable (.tuple [.str "band", .int b, .int c]) = true
      rw [PyData.showable, PyData.showableAll, PyData.showable, PyData.showableAll, a2, PyData.showableAll, b2]; rfl
    · simp [encL, PyData.hasDict, PyData.hasDictAll]
    · simp [encL, PyData.depth, PyData.depthAll]
    · simp only [encL, PyData.bulk, PyData.bulkAll]
      have : (Str.ofString "band").cps.size = 4 := by decide +kernel
      omega
theorem shw_T {t : Tr} (h : TrOk t) : Shw (encT t) := by
  have k1 : ∀ ls : List Lay, (∀ l ∈ ls, LayOk l) → PyData.leavesShortAll 2000 (ls.map encL) = true ∧ PyData.showableAll (ls.map encL) = true ∧ PyData.hasDictAll (ls.map encL) = false ∧ PyData.depthAll (ls.map encL) ≤ 2 ∧ PyData.bulkAll (ls.map encL) ≤ 13 * ls.length := by
    intro t
    induction t with
    | nil => intro _; simp [PyData.leavesShortAll, PyData.showableAll, PyData.hasDictAll, PyData.bulkAll, PyData.depthAll]
    | cons p t ih =>
      intro h
      obtain ⟨i1, i2, i3, i4, i5⟩ := ih fun q hq => h q (List.mem_cons_of_mem _ hq)
      obtain ⟨j1, j2, j3, j4, j5⟩ := leaf_L (h p (List.mem_cons_self))
      rw [List.map_cons]
      refine ⟨?_, ?_, ?_, ?_, ?_⟩
      · simp only [PyData.leavesShortAll, j1, i1, Bool.and_true]
      · simp only [PyData.showableAll, j2, i2, Bool.and_true]
      · simp only [PyData.hasDictAll, j3, i3, Bool.or_false]
      · simp only [PyData.depthAll]; omega
      · simp only [PyData.bulkAll, List.length_cons]; omega
  obtain ⟨i1, i2, i3, i4, i5⟩ := k1 t.ls h.ok
  obtain ⟨a1, a2⟩ := leaf_int (h.prem.mono (by decide : 60 ≤ 1900))
  have := h.few
  refine shw_of ?_ ?_ ?_ ?_ ?_ (.inr ⟨_, rfl⟩)
  · rw [PyData.leavesShort, PyData.leavesShortAll, a1, PyData.leavesShortAll, PyData.leavesShort, i1]; rfl
  · rw [PyData.showable, PyData.showableAll, a2, PyData.showableAll, PyData.showable, i2]; rfl
  · simp only [PyData.hasDict, PyData.hasDictAll, i3, Bool.or_false]
  · simp only [PyData.depth, PyData.depthAll]; omega
  · simp only [PyData.bulk, PyData.bulkAll]; omega
/-! ### the law's treaties -/
def layP (p0 p1 p2 p3 p4 p5 p6 p7 : Int) : Lay :=
  if p0 = 0 then .share (Rat.divInt (mn (if p5 = 1 then 1 + p6 else if p5 = 0 then p6 else p1) (if p5 = 1 then 1001 + p6 + 1000 * p7 else if p5 = 0 then p7 else p2)) (mx3 1 (if p5 = 1 then 1 + p6 else if p5 = 0 then p6 else p1) (if p5 = 1 then 1001 + p6 + 1000 * p7 else if p5 = 0 then p7 else p2)))
  else if p0 = 1 then .limit (if (if p5 = 0 then p7 else p4).fmod 13 = 5 then 1000 else (if p5 = 0 then p6 else p3))
  else .band (mn (if p5 = 0 then p6 else p3) (if p5 = 0 then p7 else p4)) (mx (if p5 = 0 then p6 else p3) (if p5 = 0 then p7 else p4))
theorem share_ok {t l : Int} (h0 : 0 ≤ t) (h1 : t ≤ l) (h2 : 1 ≤ l) (h3 : l ≤ 100000000) : LayOk (.share (Rat.divInt t l)) := by
  obtain ⟨e1, e2⟩ := divInt_parts (t := t) (l := l) (by omega)
  have g : 0 < sgcd t l := by
    unfold sgcd; rw [if_neg (by omega)]
    have := gcd_pos (t := t) (l := l) (by omega); omega
  refine ⟨?_, ?_, qb_divInt (by omega) (Bt.mono (n := 30) (bt_range (by omega) (by omega)) (by decide)) (Bt.mono (n := 30) (bt_range (by omega) (by omega)) (by decide))⟩
  · rw [e1, Int.fdiv_eq_ediv_of_nonneg _ (by omega)]; exact Int.ediv_nonneg h0 (by omega)
  · rw [e1, e2, Int.fdiv_eq_ediv_of_nonneg _ (by omega), Int.fdiv_eq_ediv_of_nonneg _ (by omega)]; exact Int.ediv_le_ediv g h1
structure PB (p0 p1 p2 p3 p4 p5 p6 p7 : Int) : Prop where
  b0 : 0 ≤ p0 ∧ p0 < 3
  b1 : 0 ≤ p1 ∧ p1 < 5
  b2 : 0 ≤ p2 ∧ p2 < 6
  b3 : 0 ≤ p3 ∧ p3 < 40
  b4 : 0 ≤ p4 ∧ p4 < 40
  b5 : 0 ≤ p5 ∧ p5 < 4
  b6 : 0 ≤ p6 ∧ p6 < 1001
  b7 : 0 ≤ p7 ∧ p7 < 1001
theorem tb_bd {p0 p1 p2 p3 p4 p5 p6 p7 : Int} (h : PB p0 p1 p2 p3 p4 p5 p6 p7) : (0 ≤ (if p5 = 1 then 1 + p6 else if p5 = 0 then p6 else p1) ∧ (if p5 = 1 then 1 + p6 else if p5 = 0 then p6 else p1) ≤ 2000000) ∧ (0 ≤ (if p5 = 1 then 1001 + p6 + 1000 * p7 else if p5 = 0 then p7 else p2) ∧ (if p5 = 1 then 1001 + p6 + 1000 * p7 else if p5 = 0 then p7 else p2) ≤ 2000000) := by
  obtain ⟨b0, b1, b2, b3, b4, b5, b6, b7⟩ := h
  refine ⟨?_, ?_⟩
  · split
    · omega
    · split <;> omega
  · split
    · omega
    · split <;> omega
theorem mm_bd {t b : Int} (h : 0 ≤ t ∧ t ≤ 2000000) (h' : 0 ≤ b ∧ b ≤ 2000000) : 0 ≤ mn t b ∧ mn t b ≤ mx3 1 t b ∧ 1 ≤ mx3 1 t b ∧ mx3 1 t b ≤ 2000000 := by
  unfold mn mx3
  by_cases h1 : 1 < t
  · rw [if_pos h1]; split <;> split <;> omega
  · rw [if_neg h1]; split <;> split <;> omega
theorem layP_ok {p0 p1 p2 p3 p4 p5 p6 p7 : Int} (h : PB p0 p1 p2 p3 p4 p5 p6 p7) : LayOk (layP p0 p1 p2 p3 p4 p5 p6 p7) := by
  obtain ⟨t1, t2⟩ := tb_bd h
  unfold layP
  split
  · have := mm_bd t1 t2
    exact share_ok this.1 this.2.1 this.2.2.1 (by omega)
  · obtain ⟨b0, b1, b2, b3, b4, b5, b6, b7⟩ := h
    split
    · show 0 ≤ _ ∧ _ ≤ (1000000 : Int)
      split
      · omega
      · split <;> omega
    · have k1 : 0 ≤ (if p5 = 0 then p6 else p3) ∧ (if p5 = 0 then p6 else p3) ≤ 1001 := by split <;> omega
      have k2 : 0 ≤ (if p5 = 0 then p7 else p4) ∧ (if p5 = 0 then p7 else p4) ≤ 1001 := by split <;> omega
      generalize (if p5 = 0 then p6 else p3) = u at k1 ⊢
      generalize (if p5 = 0 then p7 else p4) = v at k2 ⊢
      show 0 ≤ mn u v ∧ mn u v ≤ mx u v ∧ mx u v ≤ 1000000
      unfold mn mx
      split <;> split <;> omega
def layD (D : List Int) (k : Nat) : Lay := layP (D.getD (2 + 8 * k) 0) (D.getD (2 + 8 * k + 1) 0) (D.getD (2 + 8 * k + 2) 0) (D.getD (2 + 8 * k + 3) 0) (D.getD (2 + 8 * k + 4) 0) (D.getD (2 + 8 * k + 5) 0) (D.getD (2 + 8 * k + 6) 0) (D.getD (2 + 8 * k + 7) 0)
def limsT (most : Int) : List Int := most :: 5 :: (List.replicate 4 [3, 5, 6, 40, 40, 4, 1001, 1001]).flatten
def trF (cell most : Int) : Tr := ⟨(drawsF cell (limsT most)).getD 0 0, (List.range ((drawsF cell (limsT most)).getD 1 0).toNat).map (layD (drawsF cell (limsT most)))⟩
theorem limsT_pos {most : Int} (h : 0 < most) : ∀ l ∈ limsT most, 0 < l := by
  intro l hl
  rcases List.mem_cons.mp hl with e | hl
  · omega
  · have key : ∀ l ∈ (5 :: (List.replicate 4 [3, 5, 6, 40, 40, 4, 1001, 1001]).flatten : List Int), 0 < l := by decide
    exact key l hl
theorem limsT_len (most : Int) : (limsT most).length = 34 := rfl
structure DrT (most : Int) (D : List Int) : Prop where
  d0 : ∃ x, D[0]? = some x ∧ 0 ≤ x ∧ x < most
  d1 : ∃ x, D[1]? = some x ∧ 0 ≤ x ∧ x < 5
  at' : ∀ k : Nat, k < 4 → ∀ (i : Nat) (l : Int), [3, 5, 6, 40, 40, 4, 1001, 1001][i]? = some l → ∃ x, D[2 + 8 * k + i]? = some x ∧ 0 ≤ x ∧ x < l
theorem limsT_at (most : Int) : ∀ k : Nat, k < 4 → ∀ i : Nat, i < 8 → (limsT most)[2 + 8 * k + i]? = [3, 5, 6, 40, 40, 4, 1001, 1001][i]? := by
  intro k hk i hi
  rw [show 2 + 8 * k + i = 8 * k + i + 1 + 1 by omega]
  show ((List.replicate 4 [3, 5, 6, 40, 40, 4, 1001, 1001]).flatten : List Int)[8 * k + i]? = _
  revert i; revert k; decide
theorem drT {cell most : Int} (h : 0 < most) : DrT most (drawsF cell (limsT most)) := by
  refine ⟨drawsF_at cell (limsT_pos h) rfl, drawsF_at cell (limsT_pos h) rfl, fun k hk i l hl => drawsF_at cell (limsT_pos h) ?_⟩
  have hi : i < 8 := (List.getElem?_eq_some_iff.mp hl).1
  rw [limsT_at most k hk i hi]; exact hl
theorem DrT.pb {most : Int} {D : List Int} (h : DrT most D) {k : Nat} (hk : k < 4) : PB (D.getD (2 + 8 * k) 0) (D.getD (2 + 8 * k + 1) 0) (D.getD (2 + 8 * k + 2) 0) (D.getD (2 + 8 * k + 3) 0) (D.getD (2 + 8 * k + 4) 0) (D.getD (2 + 8 * k + 5) 0) (D.getD (2 + 8 * k + 6) 0) (D.getD (2 + 8 * k + 7) 0) := by
  have g : ∀ (i : Nat) (l : Int), [3, 5, 6, 40, 40, 4, 1001, 1001][i]? = some l → 0 ≤ D.getD (2 + 8 * k + i) 0 ∧ D.getD (2 + 8 * k + i) 0 < l := fun i l hl => by
    obtain ⟨x, e, b⟩ := h.at' k hk i l hl
    rw [List.getD_eq_getElem?_getD, e]; exact b
  exact ⟨g 0 3 rfl, g 1 5 rfl, g 2 6 rfl, g 3 40 rfl, g 4 40 rfl, g 5 4 rfl, g 6 1001 rfl, g 7 1001 rfl⟩
theorem take_next {α : Type} {xs : List α} {a n : Nat} {y : α} (h : xs[a]? = some y) : (xs.drop a).take (n + 1) = y :: (xs.drop (a + 1)).take n := by
  obtain ⟨hl, e⟩ := List.getElem?_eq_some_iff.mp h
  rw [List.drop_eq_getElem_cons hl, List.take_succ_cons, e]
theorem DrT.part {most : Int} {D : List Int} (h : DrT most D) {k : Nat} (hk : k < 4) : (D.drop (2 + 8 * k)).take 8 = [D.getD (2 + 8 * k) 0, D.getD (2 + 8 * k + 1) 0, D.getD (2 + 8 * k + 2) 0, D.getD (2 + 8 * k + 3) 0, D.getD (2 + 8 * k + 4) 0, D.getD (2 + 8 * k + 5) 0, D.getD (2 + 8 * k + 6) 0, D.getD (2 + 8 * k + 7) 0] := by
  have g : ∀ (i : Nat) (l : Int), [3, 5, 6, 40, 40, 4, 1001, 1001][i]? = some l → D[2 + 8 * k + i]? = some (D.getD (2 + 8 * k + i) 0) := fun i l hl => by
    obtain ⟨x, e, b⟩ := h.at' k hk i l hl
    rw [List.getD_eq_getElem?_getD, e]; rfl
  have g0 : D[2 + 8 * k]? = some (D.getD (2 + 8 * k) 0) := g 0 3 rfl
  rw [take_next g0, take_next (g 1 5 rfl), take_next (g 2 6 rfl), take_next (g 3 40 rfl), take_next (g 4 40 rfl), take_next (g 5 4 rfl), take_next (g 6 1001 rfl), take_next (g 7 1001 rfl), List.take_zero]
theorem trF_ok {cell most : Int} (h : 0 < most) (h2 : most ≤ 1000000) : TrOk (trF cell most) := by
  have hD := drT (cell := cell) h
  obtain ⟨x0, e0, a0, b0⟩ := hD.d0
  obtain ⟨x1, e1, a1, b1⟩ := hD.d1
  have g0 : (drawsF cell (limsT most)).getD 0 0 = x0 := by rw [List.getD_eq_getElem?_getD, e0]; rfl
  have g1 : (drawsF cell (limsT most)).getD 1 0 = x1 := by rw [List.getD_eq_getElem?_getD, e1]; rfl
  refine ⟨fun l hl => ?_, ?_, ?_⟩
  · obtain ⟨k, hk, rfl⟩ := List.mem_map.mp hl
    rw [List.mem_range, g1] at hk
    exact layP_ok (hD.pb (by omega))
  · show ((List.range _).map _).length ≤ 10
    rw [List.length_map, List.length_range, g1]; omega
  · show Bt 60 ((drawsF cell (limsT most)).getD 0 0)
    rw [g0]; exact Bt.mono (n := 30) (bt_range (by omega) (by omega)) (by decide)
theorem spr_pos {n : Nat} {low width : Int} (h : SprOk n width) (cell : Int) : ∀ p ∈ sprF cell n low width, low ≤ p.1 := fun p hp => by
  have h1 := (gat_mem hp).1
  obtain ⟨q, hq, e⟩ := List.mem_map.mp h1
  unfold wtd at hq
  obtain ⟨k, hk, rfl⟩ := List.mem_map.mp hq
  rw [List.mem_range] at hk
  have e : (sprV cell n low width).getD k 0 = p.1 := e
  rw [← e, List.getD_eq_getElem?_getD, List.getElem?_eq_getElem hk, Option.getD_some]
  exact (sprV_mem h cell (List.getElem_mem hk)).1
end MX

namespace DL
open PySem L2
variable {K : PySem.W.Frag} {E : XK} {env env' : EnvD}
/-- zip of two lists of one length -/
theorem ei_zip {ta tb : TE} {ds es : List D} (ha : EvD K ta env (.list ds)) (hb : EvD K tb env (.list es)) (hl : ds.length = es.length) : EvI K (iZip K (tCons ta (tCons tb tNil))) env ((ds.zip es).map fun p => .tuple [p.1, p.2]) := fun G0 H0 G H σ ok R q =>
  ha G0 H0 G H σ ok _ fun v G1 H1 a hv => hb G0 H0 G1 H1 σ (ok.go a) _ fun u G2 H2 a2 hu => by
    obtain ⟨p, xs, e, hs, hd⟩ := (hv.mono a2.gg).lst_inv
    obtain ⟨r, ys, e2, hs2, hd2⟩ := hu.lst_inv
    subst e e2
    have hlen : ((ds.zip es).map fun p => PyData.tuple [p.1, p.2]).length = ds.length := by rw [List.length_map, List.length_zip]; omega
    refine ⟨p, r, xs, ys, rfl, SqL.gh a2.gh hs, SqL.gh a2.gh hs2, q _ G2 H2 (a.trans a2) ⟨fun G3 H3 g1 g2 => ⟨xs, ys, SqL.gh g2 (g1 _ _ hs), SqL.gh g2 (g1 _ _ hs2), .inl (by rw [hlen, hd.len]; exact Nat.le_refl _)⟩, fun i d G3 H3 hi g1 g2 => ?_⟩⟩
    rw [List.getElem?_map] at hi
    obtain ⟨⟨d1, d2⟩, hz, rfl⟩ := Option.map_eq_some_iff.mp hi
    obtain ⟨z1, z2⟩ := List.getElem?_zip_eq_some.mp hz
    obtain ⟨w1, h1, h2⟩ := hd.get z1
    obtain ⟨w2, h3, h4⟩ := hd2.get z2
    have k1 := SqL.gh (K := K) g2 (g1 _ _ hs)
    have k2 := SqL.gh (K := K) g2 (g1 _ _ hs2)
    refine ⟨⟨xs, ys, w1, w2, k1, k2, h1, h3⟩, fun x H' hy => ?_⟩
    obtain ⟨T, y1, y2, rfl, hT, rfl, f1, f2⟩ := hy
    have e1 := f1 xs k1
    have e2 := f2 ys k2
    rw [h1] at e1
    rw [h3] at e2
    cases e1
    cases e2
    have fw := Fw.new (o := .tup [w1, w2]) g2 hT
    exact ⟨_, fw, .tup (.inl (.inl upd_same)) (.cons ((h2.mono g1).mono fw.gg) (.cons ((h4.mono g1).mono fw.gg) .nil))⟩
/-- x[n] = v, x a list that nobody else has -/
theorem run_store {i : Nat} {ds : List D} {d : D} {tv ty : TE} {n : Int} {j : Nat} (hi : env[i]? = some (.ml ds)) (hv : EvD K tv env d) (hy : EvD K ty env (.int n)) (hj : ixN ds.length n = some j) : Run K E (tAsg tv (gSub (tVar i) ty rSetL)) env (.nx (env.set i (.ml (ds.set j d)))) := fun G0 H0 G H σ D ok q => by
  obtain ⟨o, h1, l, xs, e, g, hl, hd⟩ := ok.sl i _ hi
  subst e
  refine hv G0 H0 G H σ ok _ fun v G1 H1 a hv1 => ⟨_, h1, hy G0 H0 G1 H1 σ (ok.go a) _ fun u G2 H2 a2 hu => ⟨l, xs, n, j, rfl, hu.int_inv, (a.trans a2).hh _ _ hl, by rw [hd.len]; exact hj, ?_⟩⟩
  have g2 : G2 l = none := (a.trans a2).fr l (by rw [hl]; simp) g
  exact q G2 _ σ (((ok.go a).go a2).write hi rfl h1 ⟨l, _, rfl, g2, upd_same, Dds.set (hv1.mono a2.gg) j (hd.mono (a.trans a2).gg)⟩ rfl)
theorem Dds.rev {G : Hp} : ∀ {xs : List V} {ds : List D}, Dds K G xs ds → Dds K G xs.reverse ds.reverse
  | _, _, .nil => .nil
  | _, _, .cons h hs => by rw [List.reverse_cons, List.reverse_cons]; exact (Dds.rev hs).append (.cons h .nil)
theorem en_revL {ta : TE} {ds : List D} (ha : EvL K ta env ds) : EvN K (tRevL K ta) env ds.reverse := fun G0 H0 G H σ ok Q q =>
  ha G0 H0 G H σ ok _ fun p xs G1 H1 a h1 hd => ⟨p, xs, rfl, SqL.of h1, fun r hr => q r _ G1 _ (a.trans (Fw.hid a.gh hr)) (a.hh.free hr) (a.gh.free hr) upd_same hd.rev⟩
/-- hands back a new list, or raises an error of the class C -/
def SpXN {α : Type} (K : PySem.W.Frag) (fs : α → List SD) (pre : α → Prop) (C : Value) (fo : α → Option (List D)) : Sp := fun vs H Q E => ∃ (x : α) (G : Hp), Same G H ∧ Args K G H vs (fs x) ∧ pre x ∧
  (∀ ds, fo x = some ds → ∀ p xs G' H', Fw G H G' H' → H p = none → G' p = none → H' p = some (.lst xs) → Dds K G' xs ds → Q (.ref p) H') ∧ (fo x = none → ∀ G' H', Fw G H G' H' → E C none H')
section
variable {α : Type} {fs : α → List SD} {pre : α → Prop} {fo : α → Option (List D)} {C c : Value} {t : TA} {ss : List SD} {E' : XK} {i : Nat} {ts : Addr → Value → Option Addr → TS} {Wout : WX}
theorem en_callXN {x : α} {ds : List D} (h : EvA K t env ss) (e : ss = fs x) (hp : pre x) (hd : fo x = some ds) : EvN K (tCall (SpXN K fs pre C fo) [] E' t) env ds := fun G0 H0 G H σ ok Q q =>
  h G0 H0 G H σ ok _ fun vs G1 H1 a hv => ⟨x, G1, a.gh, by rw [List.append_nil, ← e]; exact hv, hp, fun d' hd' p xs G2 H2 a2 hp g2 h2 hd2 => q p xs G2 H2 (a.trans a2) (a.hh.free hp) g2 h2 (by rw [hd] at hd'; cases hd'; exact hd2), fun z => by rw [hd] at z; cases z⟩
theorem run_tryXN {x : α} {d : D} (h : EvA K t env ss) (e : ss = fs x) (hp : pre x) (hn : fo x = none) (hm : PySem.W.exmOne K C c = some true) (hs : ∀ a, Run K E (ts a C none) (env.set i (.raw (.ref a))) (.rt d)) :
    Run K E (fun D σ H => tDrop (tCallS (SpXN K fs pre C fo) (WE (wAs K c i ts Wout D)) t) D σ H) env (.rt d) := fun G0 H0 G H σ D ok q =>
  h G0 H0 G H σ ok _ fun vs G1 H1 a hv => ⟨x, G1, a.gh, by rw [← e]; exact hv, hp, fun z hz => (by rw [hn] at hz; cases hz), fun _ G2 H2 a2 => ⟨true, hm, fun _ b _ => hs b G0 H0 G2 H2 _ _ (((ok.go a).go a2).set i rfl rfl) q, fun z => nomatch z⟩⟩
end
section
variable {P : Program} {w : World} {mg : Str → Option Value} {base : Heap} {x qual : Str} {st : Stmt} {f : Addr} {fd : FuncData} {N ps : List Str} {k : Nat} {α : Type} {fs : α → List SD} {pre : α → Prop} {fo : α → Option (List D)} {C : Value}
theorem fn_XN (F : Fun K x qual st f fd) (S : FnScope N ps (defScope st)) (hn : ∀ a, (fs a).length = ps.length)
    (body : ∀ (cdv : Value) (A : Around) (outer : List Env) (s : Shared) (H : Hp) (E : XK), Room k (A.deeper (PyProof.Rows.envOfC qual (defScope st) s.heap.objs.size f cdv)) →
      ∃ t, PSs (cxX P w K mg base N qual st f cdv A outer s H E) (defBody st) t ∧ ∀ a, pre a → (∀ ds, fo a = some ds → Run K E t (envOf N (fs a)) (.rn ds)) ∧ (fo a = none → Run K E t (envOf N (fs a)) (.ex C))) :
    FnOk P w K mg base (L2.CX P w) (k + 1) f fd ps (SpXN K fs pre C fo) := by
  refine F.okX S (fun vs H Q E h => ?_) (fun cdv A outer s H vs Q E hr h => ?_)
  · obtain ⟨a, G, gh, ha, _⟩ := h
    rw [ha.len, hn a]
  · obtain ⟨a, G, gh, ha, hp, q1, q2⟩ := h
    obtain ⟨t, h1, h2⟩ := body cdv A outer s H E hr
    refine ⟨t, h1, ?_⟩
    obtain ⟨h3, h4⟩ := h2 a hp
    cases e : fo a with
    | none => exact h4 e G H G H _ _ (ok_start gh ha) fun G' H' fw => q2 e G' H' fw
    | some ds => exact h3 ds e G H G H _ _ (ok_start gh ha) fun p xs G' H' fw h0 g' h' hd => q1 ds e p xs G' H' fw h0 g' h' hd
end
/-- the turn n raises -/
theorem run_forE {wi : TI} {g : TG} {tb : TS} {ts : List Nat} {ds : List D} {C : Value} (Es : Nat → EnvD) (n : Nat) (hi : EvI K wi env ds) (h0 : Less env (Es 0))
    (ht : ∀ (i : Nat) (d : D), i < n → ds[i]? = some d → ∃ em, EvG K g ts (Es i) d em ∧ Turn1 K E tb em (Es (i + 1)))
    {d : D} {em : EnvD} (hd : ds[n]? = some d) (hg : EvG K g ts (Es n) d em) (hr : Run K E tb em (.ex C)) : Run K E (tFor wi g tb) env (.ex C) :=
  run_forX Es n hi h0 ht (.inr ⟨d, em, hd, hg, .inl ⟨hr, (by intro _ z; cases z), (by intro _ z; cases z), (by intro _ z; cases z)⟩⟩)
end DL
namespace MX
open PySem L2 DL
/-! ### sums and mixtures -/
def rowF (t : Spr) (p : Int × Rat) : Spr := t.map fun q => (p.1 + q.1, p.2 * q.2)
def sumF (s t : Spr) : Spr := s.flatMap (rowF t)
def mixF (ss : List Spr) (cs : List Rat) : Spr := (ss.zip cs).flatMap fun p => p.1.map fun q => (q.1, p.2 * q.2)
theorem flat_len {α : Type} (f : α → Spr) (k : Nat) : ∀ l : List α, (∀ x ∈ l, (f x).length ≤ k) → (l.flatMap f).length ≤ l.length * k
  | [], _ => by simp
  | x :: l, h => by
    rw [List.flatMap_cons, List.length_append, List.length_cons, Nat.succ_mul]
    have := h x (List.mem_cons_self)
    have := flat_len f k l fun y hy => h y (List.mem_cons_of_mem _ hy)
    omega
theorem sum_len (s t : Spr) : (sumF s t).length ≤ s.length * t.length := flat_len _ _ _ fun p _ => by unfold rowF; rw [List.length_map]; exact Nat.le_refl _
theorem flat_step {α : Type} (f : α → Spr) {l : List α} {i : Nat} (hi : i < l.length) : (l.take (i + 1)).flatMap f = (l.take i).flatMap f ++ f l[i] := by
  rw [List.take_add_one, List.getElem?_eq_getElem hi, Option.toList_some, List.flatMap_append]; simp
theorem ty_sum {n : Nat} {s t : Spr} (h : Ty n s) (h' : Ty n t) (hl : s.length * t.length < 64) : Ty (2 * n + 1) (sumF s t) := by
  obtain ⟨⟨N, b, h1, h2, h3, h4⟩, h5, h6⟩ := h
  obtain ⟨⟨M, c, g1, g2, g3, g4⟩, g5, g6⟩ := h'
  have p2 : 2 ^ (2 * n + 1) = 2 * (2 ^ n * 2 ^ n) := by rw [Nat.pow_succ, show 2 * n = n + n by omega, Nat.pow_add]; omega
  refine ⟨⟨N * M, b * c, Nat.mul_pos h1 g1, ?_, ?_, fun p hp => ?_⟩, fun p hp => ?_, Nat.lt_of_le_of_lt (sum_len s t) hl⟩
  · have := Nat.mul_le_mul (Nat.le_of_lt h2) (Nat.le_of_lt g2)
    have := Nat.mul_pos (Nat.two_pow_pos n) (Nat.two_pow_pos n)
    omega
  · have := Nat.mul_le_mul (Nat.le_of_lt h3) (Nat.le_of_lt g3)
    have := Nat.mul_pos (Nat.two_pow_pos n) (Nat.two_pow_pos n)
    omega
  · obtain ⟨a, ha, hb⟩ := List.mem_flatMap.mp hp
    obtain ⟨q, hq, rfl⟩ := List.mem_map.mp hb
    exact sq_mul (h4 a ha) (g4 q hq)
  · obtain ⟨a, ha, hb⟩ := List.mem_flatMap.mp hp
    obtain ⟨q, hq, rfl⟩ := List.mem_map.mp hb
    exact ((h5 a ha).add (g5 q hq)).mono (by omega)
end MX

namespace MX
open PySem L2 DL
/-! ### means of sums and mixtures -/
theorem ex_flat {α : Type} (g : α → Spr) (f : Int → Rat) : ∀ l : List α, Ex (l.flatMap g) f = (l.map fun x => Ex (g x) f).sum
  | [] => rfl
  | x :: l => by rw [List.flatMap_cons, ex_app, List.map_cons, List.sum_cons, ex_flat g f l]
theorem ex_row (t : Spr) (p : Int × Rat) (f : Int → Rat) : Ex (rowF t p) f = p.2 * Ex t fun y => f (p.1 + y) := by
  unfold rowF
  induction t with
  | nil => rw [List.map_nil, ex_nil, ex_nil]; grind
  | cons q t ih => rw [List.map_cons, ex_cons, ex_cons, ih]; grind
theorem ex_sum (s t : Spr) (f : Int → Rat) : Ex (sumF s t) f = Ex s fun x => Ex t fun y => f (x + y) := by
  unfold sumF
  rw [ex_flat]
  show _ = (s.map fun p => p.2 * Ex t fun y => f (p.1 + y)).sum
  exact congrArg List.sum (List.map_congr_left fun p _ => ex_row t p f)
theorem sum_comm (s t : Spr) : gatF (sumF s t) = gatF (sumF t s) := ex_wt fun f => by
  rw [ex_sum, ex_sum, ex_swap]
  have e : (fun y => Ex s fun x => f (x + y)) = fun y => Ex s fun x => f (y + x) := by
    funext y
    exact congrArg (Ex s) (funext fun x => by rw [Int.add_comm])
  rw [e]
theorem ex_mul2 (t : Spr) (c : Rat) (f : Int → Rat) : Ex (t.map fun q => (q.1, c * q.2)) f = c * Ex t f := by
  induction t with
  | nil => rw [List.map_nil, ex_nil]; grind
  | cons q t ih => rw [List.map_cons, ex_cons, ex_cons, ih]; grind
theorem ex_mix (ss : List Spr) (cs : List Rat) (f : Int → Rat) : Ex (mixF ss cs) f = ((ss.zip cs).map fun p => p.2 * Ex p.1 f).sum := by
  unfold mixF
  rw [ex_flat]
  exact congrArg List.sum (List.map_congr_left fun p _ => ex_mul2 p.1 p.2 f)
theorem rsum_app : ∀ a b : List Rat, (a ++ b).sum = a.sum + b.sum
  | [], b => by rw [List.nil_append, List.sum_nil]; grind
  | x :: a, b => by rw [List.cons_append, List.sum_cons, List.sum_cons, rsum_app a b]; grind
theorem rsum_rev : ∀ a : List Rat, a.reverse.sum = a.sum
  | [] => rfl
  | x :: a => by rw [List.reverse_cons, rsum_app, rsum_rev a, List.sum_cons, List.sum_cons, List.sum_nil]; grind
theorem zip_rev {α β : Type} : ∀ (a : List α) (b : List β), a.length = b.length → a.reverse.zip b.reverse = (a.zip b).reverse
  | [], [], _ => rfl
  | x :: a, y :: b, h => by
    have h : a.length = b.length := by simpa using h
    rw [List.reverse_cons, List.reverse_cons, List.zip_append (by rw [List.length_reverse, List.length_reverse]; exact h), zip_rev a b h]
    show _ = ((x, y) :: a.zip b).reverse
    rw [List.reverse_cons]; rfl
  | [], _ :: _, h => by simp at h
  | _ :: _, [], h => by simp at h
theorem mix_rev {ss : List Spr} {cs : List Rat} (h : ss.length = cs.length) : gatF (mixF ss.reverse cs.reverse) = gatF (mixF ss cs) := ex_wt fun f => by
  rw [ex_mix, ex_mix, zip_rev _ _ h, List.map_reverse, rsum_rev]
theorem zip_rep {α β : Type} (x : α) (y : β) : ∀ n : Nat, (List.replicate n x).zip (List.replicate n y) = List.replicate n (x, y)
  | 0 => rfl
  | n + 1 => by rw [List.replicate_succ, List.replicate_succ, List.zip_cons_cons, zip_rep x y n, List.replicate_succ]
theorem rsum_rep0 : ∀ n : Nat, (List.replicate n (0 : Rat)).sum = 0
  | 0 => rfl
  | n + 1 => by rw [List.replicate_succ, List.sum_cons, rsum_rep0 n]; grind
theorem mix_wide {ss : List Spr} {cs : List Rat} (h : ss.length = cs.length) (a b : Spr) (n : Nat) : gatF (mixF ([a] ++ ss ++ List.replicate n b) ([0] ++ cs ++ List.replicate n 0)) = gatF (mixF ss cs) := ex_wt fun f => by
  rw [ex_mix, ex_mix, List.zip_append (by simp [h]), List.zip_append (by simp), zip_rep, List.map_append, List.map_append, rsum_app, rsum_app, List.map_replicate]
  have e : (0 : Rat) * Ex b f = 0 := by grind
  rw [show ((b, (0 : Rat)).2 * Ex (b, (0 : Rat)).1 f) = 0 from e, rsum_rep0]
  show ((0 : Rat) * Ex a f + 0) + _ + 0 = _
  grind
/-! ### chances -/
def csF (ws : List Int) : List Rat := ws.map fun w => Rat.divInt w ws.sum
theorem sum_divInt {N : Int} (hN : N ≠ 0) : ∀ ws : List Int, (ws.map fun w => Rat.divInt w N).sum = Rat.divInt ws.sum N
  | [] => by rw [List.map_nil, List.sum_nil, List.sum_nil, Rat.zero_divInt]
  | w :: ws => by rw [List.map_cons, List.sum_cons, List.sum_cons, sum_divInt hN ws, divInt_add hN]
theorem sum_cs {ws : List Int} (h : 0 < ws.sum) : (csF ws).sum = 1 := by
  unfold csF
  rw [sum_divInt (by omega), Rat.divInt_self' (by omega)]
theorem cs_pos {ws : List Int} (h : 0 < ws.sum) (h0 : ∀ w ∈ ws, 0 ≤ w) : ∀ c ∈ csF ws, 0 ≤ c := fun c hc => by
  obtain ⟨w, hw, rfl⟩ := List.mem_map.mp hc
  exact Rat.divInt_nonneg (h0 w hw) (by omega)
/-- spreads of small numbers with one low part -/
structure TyL (n : Nat) (ss : List Spr) : Prop where
  q : ∃ N b : Nat, 0 < N ∧ N < 2 ^ n ∧ b < 2 ^ n ∧ ∀ s ∈ ss, ∀ p ∈ s, Sq N b p.2
  v : ∀ s ∈ ss, s.length ≤ 7 ∧ ∀ p ∈ s, Bt n p.1
structure TyC (n : Nat) (cs : List Rat) : Prop where
  q : ∃ N b : Nat, 0 < N ∧ N < 2 ^ n ∧ b < 2 ^ n ∧ ∀ c ∈ cs, Sq N b c
  len : cs.length ≤ 20
theorem TyC.fine {n : Nat} {cs : List Rat} (h : TyC n cs) (hn : n ≤ 3000) : Fine cs := by
  obtain ⟨⟨N, b, h1, h2, h3, h4⟩, h5⟩ := h
  exact ⟨N, b, fin_of h1 h2 h3 (by omega) (by omega) (by omega), h4⟩
theorem TyC.qb {n : Nat} {cs : List Rat} (h : TyC n cs) : ∀ c ∈ cs, Qb n c := fun c hc => by
  obtain ⟨⟨N, b, h1, h2, h3, h4⟩, h5⟩ := h
  exact sq_qb h1 h2 h3 (h4 c hc)
theorem TyL.qb {n : Nat} {ss : List Spr} (h : TyL n ss) : ∀ s ∈ ss, ∀ p ∈ s, Qb n p.2 := fun s hs p hp => by
  obtain ⟨⟨N, b, h1, h2, h3, h4⟩, h5⟩ := h
  exact sq_qb h1 h2 h3 (h4 s hs p hp)
theorem ty_mix {n : Nat} {ss : List Spr} {cs : List Rat} (h : TyL n ss) (h' : TyC n cs) (hl : ss.length ≤ 9) : Ty (2 * n + 1) (mixF ss cs) := by
  obtain ⟨⟨N, b, h1, h2, h3, h4⟩, h5⟩ := h
  obtain ⟨⟨M, c, g1, g2, g3, g4⟩, g5⟩ := h'
  have p2 : 2 ^ (2 * n + 1) = 2 * (2 ^ n * 2 ^ n) := by rw [Nat.pow_succ, show 2 * n = n + n by omega, Nat.pow_add]; omega
  have pp := Nat.mul_pos (Nat.two_pow_pos n) (Nat.two_pow_pos n)
  refine ⟨⟨M * N, c * b, Nat.mul_pos g1 h1, ?_, ?_, fun p hp => ?_⟩, fun p hp => ?_, ?_⟩
  · have := Nat.mul_le_mul (Nat.le_of_lt g2) (Nat.le_of_lt h2); omega
  · have := Nat.mul_le_mul (Nat.le_of_lt g3) (Nat.le_of_lt h3); omega
  · obtain ⟨a, ha, hb⟩ := List.mem_flatMap.mp hp
    obtain ⟨q, hq, rfl⟩ := List.mem_map.mp hb
    exact sq_mul (g4 _ (List.of_mem_zip ha).2) (h4 _ (List.of_mem_zip ha).1 q hq)
  · obtain ⟨a, ha, hb⟩ := List.mem_flatMap.mp hp
    obtain ⟨q, hq, rfl⟩ := List.mem_map.mp hb
    exact ((h5 _ (List.of_mem_zip ha).1).2 q hq).mono (by omega)
  · have h6 := flat_len (fun p : Spr × Rat => p.1.map fun q => (q.1, p.2 * q.2)) 7 (ss.zip cs) fun p hp => by rw [List.length_map]; exact (h5 _ (List.of_mem_zip hp).1).1
    have h7 : (ss.zip cs).length ≤ 9 := by rw [List.length_zip]; omega
    have h8 : (ss.zip cs).length * 7 ≤ 9 * 7 := Nat.mul_le_mul_right _ h7
    exact Nat.lt_of_le_of_lt (Nat.le_trans h6 h8) (by decide)
theorem spr_few {n : Nat} {low width : Int} (h : SprOk n width) (cell : Int) : (sprF cell n low width).length ≤ n := by
  obtain ⟨x, _, _, _, _, _, h2⟩ := spr_size h cell
  have h3 := gat_len (wtd (sprV cell n low width) (sprW cell n width))
  rw [wtd_len, (spr_len h cell).1] at h3
  exact Nat.le_trans h3 h2
theorem tyL_of {n : Nat} {a b : Spr} {ss : List Spr} (ha : Ty n a) (hb : Ty n b) (la : a.length ≤ 7) (lb : b.length ≤ 7) (h : ∀ s ∈ ss, s = a ∨ s = b ∨ s = [(3, 1)]) (hn : 3 ≤ n) : TyL (2 * n) ss := by
  obtain ⟨⟨N, c, h1, h2, h3, h4⟩, h5, h6⟩ := ha
  obtain ⟨⟨M, d, g1, g2, g3, g4⟩, g5, g6⟩ := hb
  have p2 : 2 ^ (2 * n) = 2 ^ n * 2 ^ n := by rw [show 2 * n = n + n by omega, Nat.pow_add]
  have b3 : Bt (2 * n) 3 := Bt.mono (n := 3) (by decide) (by omega)
  have hNM : N * M < 2 ^ (2 * n) := by rw [p2]; exact Nat.mul_lt_mul_of_lt_of_le h2 (Nat.le_of_lt g2) (Nat.two_pow_pos n)
  have m1 : c * M ≤ (2 ^ n - 1) * (2 ^ n - 1) := Nat.mul_le_mul (by omega) (by omega)
  have m2 : d * N ≤ (2 ^ n - 1) * (2 ^ n - 1) := Nat.mul_le_mul (by omega) (by omega)
  have m3 : 1 * (N * M) ≤ (2 ^ n - 1) * (2 ^ n - 1) := by rw [Nat.one_mul]; exact Nat.mul_le_mul (by omega) (by omega)
  have m4 : (2 ^ n - 1) * (2 ^ n - 1) < 2 ^ (2 * n) := by
    rw [p2]
    have := Nat.two_pow_pos n
    exact Nat.mul_lt_mul_of_lt_of_le (by omega) (by omega) this
  refine ⟨⟨N * M, (2 ^ n - 1) * (2 ^ n - 1), Nat.mul_pos h1 g1, hNM, m4, fun s hs p hp => ?_⟩, fun s hs => ?_⟩
  · rcases h s hs with e | e | e
    · subst e; exact sq_mono (sq_lift M g1 (h4 p hp)) m1
    · subst e
      have := sq_mono (sq_lift N h1 (g4 p hp)) m2
      rw [Nat.mul_comm]; exact this
    · subst e
      rw [List.mem_singleton] at hp
      subst hp
      have one : Sq 1 1 (1 : Rat) := ⟨1, by decide, by decide⟩
      have := sq_mono (sq_lift (N * M) (Nat.mul_pos h1 g1) one) m3
      rw [Nat.one_mul] at this; exact this
  · rcases h s hs with e | e | e
    · subst e; exact ⟨la, fun p hp => (h5 p hp).mono (by omega)⟩
    · subst e; exact ⟨lb, fun p hp => (g5 p hp).mono (by omega)⟩
    · subst e
      refine ⟨by decide, fun p hp => ?_⟩
      rw [List.mem_singleton] at hp
      subst hp
      exact b3
/-- showing lists of lists -/
theorem leaves_S {s : Spr} (h : ∀ p ∈ s, Bt 1900 p.1 ∧ Qb 1900 p.2) : (encS s).leavesShort 2000 = true ∧ (encS s).showable = true ∧ (encS s).hasDict = false ∧ (encS s).depth ≤ 3 ∧ (encS s).bulk = 5 * s.length := by
  have k1 : ∀ t : Spr, (∀ p ∈ t, Bt 1900 p.1 ∧ Qb 1900 p.2) → PyData.leavesShortAll 2000 (t.map encI) = true ∧ PyData.showableAll (t.map encI) = true ∧ PyData.hasDictAll (t.map encI) = false ∧ PyData.bulkAll (t.map encI) = 5 * t.length := by
    intro t
    induction t with
    | nil => intro _; simp [PyData.leavesShortAll, PyData.showableAll, PyData.hasDictAll, PyData.bulkAll]
    | cons p t ih =>
      intro h
      obtain ⟨i1, i2, i3, i4⟩ := ih fun q hq => h q (List.mem_cons_of_mem _ hq)
      obtain ⟨j1, j2⟩ := leaf_I (h p (List.mem_cons_self)).1 (h p (List.mem_cons_self)).2
      rw [List.map_cons]
      refine ⟨?_, ?_, ?_, ?_⟩
      · simp only [PyData.leavesShortAll, j1, i1, Bool.and_true]
      · simp only [PyData.showableAll, j2, i2, Bool.and_true]
      · simp [PyData.hasDictAll, PyData.hasDict, i3]
      · simp [PyData.bulkAll, PyData.bulk, i4]; omega
  obtain ⟨i1, i2, i3, i4⟩ := k1 s h
  have h2 : PyData.depthAll (s.map encI) ≤ 2 := depth_all encI 2 (fun x => by simp [PyData.depth, PyData.depthAll]) s
  exact ⟨by simp only [PyData.leavesShort, i1], by simp only [PyData.showable, i2], by simp only [PyData.hasDict, i3], by simp only [PyData.depth]; omega, by simp only [PyData.bulk, i4]⟩
theorem leaves_LS {k : Nat} : ∀ {ss : List Spr}, (∀ s ∈ ss, s.length ≤ k ∧ ∀ p ∈ s, Bt 1900 p.1 ∧ Qb 1900 p.2) → PyData.leavesShortAll 2000 (ss.map encS) = true ∧ PyData.showableAll (ss.map encS) = true ∧ PyData.hasDictAll (ss.map encS) = false ∧ PyData.depthAll (ss.map encS) ≤ 3 ∧ PyData.bulkAll (ss.map encS) ≤ (5 * k + 1) * ss.length
  | [], _ => by simp [PyData.leavesShortAll, PyData.showableAll, PyData.hasDictAll, PyData.bulkAll, PyData.depthAll]
  | s :: ss, h => by
    obtain ⟨i1, i2, i3, i4, i5⟩ := leaves_LS (k := k) (ss := ss) fun t ht => h t (List.mem_cons_of_mem _ ht)
    obtain ⟨j1, j2, j3, j4, j5⟩ := leaves_S (h s (List.mem_cons_self)).2
    have hk := (h s (List.mem_cons_self)).1
    rw [List.map_cons]
    refine ⟨?_, ?_, ?_, ?_, ?_⟩
    · rw [PyData.leavesShortAll, j1, i1]; rfl
    · rw [PyData.showableAll, j2, i2]; rfl
    · rw [PyData.hasDictAll, j3, i3]; rfl
    · rw [PyData.depthAll]; omega
    · rw [PyData.bulkAll, j5, List.length_cons, Nat.mul_succ]; omega
theorem leaves_LQ : ∀ {cs : List Rat}, (∀ c ∈ cs, Qb 1900 c) → PyData.leavesShortAll 2000 (cs.map encQ) = true ∧ PyData.showableAll (cs.map encQ) = true ∧ PyData.hasDictAll (cs.map encQ) = false ∧ PyData.depthAll (cs.map encQ) ≤ 1 ∧ PyData.bulkAll (cs.map encQ) ≤ 3 * cs.length
  | [], _ => by simp [PyData.leavesShortAll, PyData.showableAll, PyData.hasDictAll, PyData.bulkAll, PyData.depthAll]
  | c :: cs, h => by
    obtain ⟨i1, i2, i3, i4, i5⟩ := leaves_LQ (cs := cs) fun t ht => h t (List.mem_cons_of_mem _ ht)
    obtain ⟨a1, a2⟩ := leaf_int (h c (List.mem_cons_self)).num
    obtain ⟨b1, b2⟩ := leaf_int (h c (List.mem_cons_self)).den
    rw [List.map_cons]
    refine ⟨?_, ?_, ?_, ?_, ?_⟩
    · simp only [PyData.leavesShort, PyData.leavesShortAll, i1, Bool.and_true, Bool.and_eq_true] at a1 b1 ⊢; exact ⟨a1, b1⟩
    · simp only [PyData.showable, PyData.showableAll, i2, Bool.and_true, Bool.and_eq_true] at a2 b2 ⊢; exact ⟨a2, b2⟩
    · simp [PyData.hasDictAll, PyData.hasDict, i3]
    · simp [PyData.depthAll, PyData.depth]; omega
    · simp [PyData.bulkAll, PyData.bulk]; omega
theorem shw_pr {ss : List Spr} {cs : List Rat} (h : ∀ s ∈ ss, s.length ≤ 7 ∧ ∀ p ∈ s, Bt 1900 p.1 ∧ Qb 1900 p.2) (hl : ss.length ≤ 20) (h' : ∀ c ∈ cs, Qb 1900 c) (hc : cs.length ≤ 20) : Shw (.list [.list (ss.map encS), .list (cs.map encQ)]) := by
  obtain ⟨i1, i2, i3, i4, i5⟩ := leaves_LS (k := 7) h
  obtain ⟨j1, j2, j3, j4, j5⟩ := leaves_LQ h'
  refine shw_of ?_ ?_ ?_ ?_ ?_ (.inl ⟨_, rfl⟩)
  · simp only [PyData.leavesShort, PyData.leavesShortAll, i1, j1, Bool.and_true]
  · simp only [PyData.showable, PyData.showableAll, i2, j2, Bool.and_true]
  · simp only [PyData.hasDict, PyData.hasDictAll, i3, j3, Bool.or_false]
  · simp only [PyData.depth, PyData.depthAll]; omega
  · simp only [PyData.bulk, PyData.bulkAll]; omega
theorem shw_2 {a b : Spr} (ha : ∀ p ∈ a, Bt 1900 p.1 ∧ Qb 1900 p.2) (hb : ∀ p ∈ b, Bt 1900 p.1 ∧ Qb 1900 p.2) (la : a.length ≤ 7) (lb : b.length ≤ 7) : Shw (.list [encS a, encS b]) := by
  obtain ⟨i1, i2, i3, i4, i5⟩ := leaves_LS (k := 7) (ss := [a, b]) (fun s hs => by
    rcases List.mem_cons.mp hs with e | e
    · subst e; exact ⟨la, ha⟩
    · rw [List.mem_singleton] at e; subst e; exact ⟨lb, hb⟩)
  refine shw_of ?_ ?_ ?_ ?_ ?_ (.inl ⟨_, rfl⟩)
  · rw [PyData.leavesShort]; exact i1
  · rw [PyData.showable]; exact i2
  · rw [PyData.hasDict]; exact i3
  · rw [PyData.depth]; have : PyData.depthAll [encS a, encS b] ≤ 3 := i4; omega
  · rw [PyData.bulk]; have : PyData.bulkAll [encS a, encS b] ≤ (5 * 7 + 1) * 2 := i5; omega
/-! ### more chances -/
theorem tyC_ext {n : Nat} {cs cs' : List Rat} (h : TyC n cs) {M : Nat} (hM : 0 < M) (hM2 : M < 2 ^ n) (h' : ∀ c ∈ cs', c ∈ cs ∨ Sq M 1 c ∨ ∃ a b, a ∈ cs ∧ Sq M 1 b ∧ c = a + b) (hl : cs'.length ≤ 20) : TyC (2 * n + 1) cs' := by
  obtain ⟨⟨N, b, h1, h2, h3, h4⟩, h5⟩ := h
  have p2 : 2 ^ (2 * n + 1) = 2 * (2 ^ n * 2 ^ n) := by rw [Nat.pow_succ, show 2 * n = n + n by omega, Nat.pow_add]; omega
  have pp := Nat.mul_pos (Nat.two_pow_pos n) (Nat.two_pow_pos n)
  have k1 : N * M ≤ (2 ^ n - 1) * 2 ^ n := Nat.mul_le_mul (by omega) (by omega)
  have k2 : b * M ≤ (2 ^ n - 1) * 2 ^ n := Nat.mul_le_mul (by omega) (by omega)
  have k3 : (2 ^ n - 1) * 2 ^ n < 2 ^ n * 2 ^ n := Nat.mul_lt_mul_of_lt_of_le (by have := Nat.two_pow_pos n; omega) (Nat.le_refl _) (Nat.two_pow_pos n)
  have k4 : N ≤ N * M := Nat.le_mul_of_pos_right N hM
  have s2 : ∀ c, Sq M 1 c → Sq (N * M) (1 * N) c := fun c hc => by rw [Nat.mul_comm N M]; exact sq_lift N h1 hc
  refine ⟨⟨N * M, b * M + 1 * N, Nat.mul_pos h1 hM, by omega, by omega, fun c hc => ?_⟩, hl⟩
  rcases h' c hc with e | e | ⟨x, y, hx, hy, e⟩
  · exact sq_mono (sq_lift M hM (h4 c e)) (by omega)
  · exact sq_mono (s2 c e) (by omega)
  · rw [e]; exact sq_add (Nat.mul_pos h1 hM) (sq_lift M hM (h4 x hx)) (s2 y hy)
theorem unit_sq {M : Nat} : Sq M 1 (Rat.divInt 1 (M : Int)) ∧ Sq M 1 (Rat.divInt (-1) (M : Int)) := ⟨⟨1, rfl, by decide⟩, ⟨-1, rfl, by decide⟩⟩
theorem unit_enc {t M : Int} (ht : t = 1 ∨ t = -1) (hM : 0 < M) : encQ (Rat.divInt t M) = .tuple [.int t, .int M] := by
  obtain ⟨e1, e2⟩ := divInt_parts (t := t) (l := M) (by omega)
  have g : sgcd t M = 1 := by
    unfold sgcd
    rw [if_neg (by omega)]
    rcases ht with e | e <;> subst e <;> simp
  show PyData.tuple [.int (Rat.divInt t M).num, .int ((Rat.divInt t M).den : Int)] = _
  rw [e1, e2, g, Int.fdiv_one, Int.fdiv_one]
theorem unit_sgn {M : Int} (hM : 0 < M) : 0 < Rat.divInt 1 M ∧ Rat.divInt (-1) M < 0 := by
  have pos : 0 < Rat.divInt 1 M := by
    refine Rat.lt_of_le_of_ne (Rat.divInt_nonneg (by decide) (by omega)) fun z => ?_
    obtain ⟨e1, _⟩ := divInt_parts (t := 1) (l := M) (by omega)
    have g : sgcd 1 M = 1 := by unfold sgcd; rw [if_neg (by omega)]; simp
    rw [← z, g, Int.fdiv_one] at e1
    exact absurd e1 (by decide)
  refine ⟨pos, ?_⟩
  have e : Rat.divInt (-1) M = -(Rat.divInt 1 M) := by
    rw [Rat.divInt_eq_div, Rat.divInt_eq_div]
    have : ((-1 : Int) : Rat) = -((1 : Int) : Rat) := by decide
    rw [this]; grind
  rw [e]; grind
theorem cutD_last {xs : List D} {a : Nat} : cutD xs (some (a : Int)) none = xs.drop a := by
  unfold cutD
  rw [HT.sIx_nat]
  show ((xs.drop (min a xs.length)).take (xs.length - min a xs.length)) = _
  by_cases h : a ≤ xs.length
  · rw [Nat.min_eq_left h, List.take_of_length_le (by rw [List.length_drop]; omega)]
  · rw [Nat.min_eq_right (by omega), List.drop_eq_nil_of_le (Nat.le_refl _), List.drop_eq_nil_of_le (by omega), List.take_nil]
end MX

namespace PySem
theorem rev_no_len : typeLookup (.type "list_reverseiterator") "__len__" = pure none := by rw [typeLookup_type, builtinLookup_eq_fast]; kernel_rfl
theorem rev_hint : typeLookup (.type "list_reverseiterator") "__length_hint__" = pure (some (.builtin "list_reverseiterator.__length_hint__")) := by rw [typeLookup_type, builtinLookup_eq_fast]; kernel_rfl
theorem rev_self : isSubtype (.type "list_reverseiterator") (.type "list_reverseiterator") = pure true := by rw [isSubtype_type]; kernel_rfl
section
variable {prog : Program} {w : World} {A : Around} {s : Shared} {E : Value → Shared → Prop} {I : Addr} {Q : Bool → Shared → Prop}
theorem hint_rev (hT : s.TypeIs (.ref I) "list_reverseiterator") (hQ : Q false s) : wpAny (model prog w) A (Builtin.List.listLengthHint (.ref I)) Q E s := by
  unfold Builtin.List.listLengthHint
  refine wpAny_bind (wpAny_specialOf hT rev_no_len ?_)
  show wpAny _ A (specialOf (Value.ref I) (Str.ofString "__length_hint__") >>= _) _ _ _
  refine wpAny_bind (wpAny_specialOf hT rev_hint ?_)
  refine wpAny_bind (wpAny_isInstance hT rev_self ?_)
  show wpAny _ A (pure false) _ _ _
  exact wpAny_pure hQ
end
section
variable {prog : Program} {w : World} {A : Around} {s : Shared} {R : Result → Shared → Prop}
variable {I : Addr} {fp wr : List Addr} {G : Array GenState → Array GenState → Prop} {n : Nat} {P : Nat → Value → Prop} {St : Nat → Shared → Prop}
/-- as for a generator, but that its hint is quiet -/
theorem extend_rev (W : WalksS prog w A.in1 I fp wr G n P St) (hT : ∀ i s, St i s → s.TypeIs (.ref I) "list_reverseiterator") (S : Addr) (res : Value) (c₀ : Nat) (hst : St 0 s) (hSf : S ∉ fp) (hI : I ∈ fp)
    (hS : s.heap.get? S = some { cls := .type "list", data := .seq #[] c₀ })
    (hR : ∀ s' acc' c', Moved (S :: wr) G s s' → s'.heap.get? S = some { cls := .type "list", dict := none, data := .seq acc' c', slots := #[] } → ItemsOf P acc' n → R (.ok (.ret res)) s') (hn : n ≤ sizeLine) :
    wpAny (model prog w) A.in1 (Builtin.List.listExtendWith (.ref S) (.ref I) res)
      (fun fin s' => match fin with | .done f => R (.ok f) s' | .again c' => c'.quiet = true ∧ codeAny (model prog w) A c' R s') (fun e s' => R (.error e) s') s := by
  have hSI : S ≠ I := fun e => hSf (e ▸ hI)
  unfold Builtin.List.listExtendWith
  refine wpAny_bind (wpAny_typeOf (hT 0 _ hst) ?_)
  have h1 : Builtin.List.listSameRef (.ref S) (.ref I) = false := by simp [Builtin.List.listSameRef, hSI]
  have h2 : (Value.type "list_reverseiterator" == Value.type "list") = false := by decide
  have h3 : (Value.type "list_reverseiterator" == Value.type "tuple") = false := by decide
  simp only [h1, h2, h3, Bool.or_false, Bool.false_eq_true, if_false]
  refine wpAny_bind (W.self 0 _ _ _ hst ?_)
  refine wpAny_bind (wpAny_holding ?_)
  refine hint_rev (hT 0 _ hst) ?_
  exact wpAny_pure ⟨plainId_quiet F.plain_extend_loop _, codeAny_extend_loopS W hn _ hSf _ n 0 _ _ _ rfl (Nat.zero_le _) hst hS (ItemsOf.nil P) fun s' acc' c' hm hS' hacc => hR s' acc' c' hm hS' hacc⟩
theorem init_rev (W : WalksS prog w A.in1 I fp wr G n P St) (hT : ∀ i s, St i s → s.TypeIs (.ref I) "list_reverseiterator") (S : Addr) (hst : St 0 s) (hSf : S ∉ fp) (hI : I ∈ fp)
    (hS : s.heap.get? S = some { cls := .type "list", data := .seq #[] })
    (hR : ∀ s' acc' c', Moved (S :: wr) G s s' → s'.heap.get? S = some { cls := .type "list", dict := none, data := .seq acc' c', slots := #[] } → ItemsOf P acc' n → R (.ok (.ret .none)) s') (hn : n ≤ sizeLine) :
    wpAny (model prog w) A.in1 (Builtin.«list.__init__» ⟨[.ref S, .ref I], []⟩)
      (fun fin s' => match fin with | .done f => R (.ok f) s' | .again c' => c'.quiet = true ∧ codeAny (model prog w) A c' R s') (fun e s' => R (.error e) s') s := by
  show wpAny _ A.in1 (do let old ← Builtin.List.listItems (.ref S); Builtin.List.listUpdate (.ref S) (fun _ => #[]); letGo old.toList.reverse; Builtin.List.listExtendWith (.ref S) (.ref I) .none) _ _ s
  refine wpAny_bind ?_
  unfold Builtin.List.listItems
  refine wpAny_bind (wpAny_seqItems hS rfl (wpAny_pure ?_))
  show wpAny _ A.in1 (updateSeq S (fun _ => #[]) >>= fun _ => letGo (#[] : Array Value).toList.reverse >>= fun _ => Builtin.List.listExtendWith (.ref S) (.ref I) .none) _ _ s
  refine wpAny_bind (wpAny_updateSeq hS rfl ?_)
  have hS₂ := Heap.get?_update_self (Obj.mapSeq (fun _ => (#[] : Array Value))) hS rfl
  have oth : ∀ b o, b ≠ S → s.heap.get? b = some o → (s.heap.update S (Obj.mapSeq (fun _ => (#[] : Array Value)))).get? b = some o :=
    fun b o hb e => (Heap.get?_update_other _ _ (Ne.symm hb)).trans e
  refine wpAny_bind (wpAny_letGo ?_)
  refine extend_rev (hn := hn) W hT S .none _ (W.frame 0 s _ s.toks hst (Nat.le_refl _) fun b hb o e => oth b o (fun h => hSf (h ▸ hb)) e) hSf hI hS₂ fun s' acc' c' hm hS' hacc => ?_
  exact hR s' acc' c' (Moved.trans W.gtrans ((Moved.refl W.grefl).then_heap (Nat.le_refl _) fun b o hb e => oth b o (fun h => hb (h ▸ List.mem_cons_self)) e) hm) hS' hacc
end
section
variable {prog : Program} {w : World} {A : Around} {E : Value → Shared → Prop} {s : Shared}
variable {I : Addr} {fp wr : List Addr} {G : Array GenState → Array GenState → Prop} {n : Nat} {P : Nat → Value → Prop} {St : Nat → Shared → Prop}
theorem call_list_rev {Q : Value → Shared → Prop} (W : WalksS prog w A.in1.in1 I fp wr G n P St) (hT : ∀ i s, St i s → s.TypeIs (.ref I) "list_reverseiterator") (hst : St 0 s) (hfp : ∀ b ∈ fp, b < s.heap.objs.size) (hI : I ∈ fp)
    (hQ : ∀ s' acc' c', Moved (s.heap.objs.size :: wr) G { s with heap := s.heap.push { cls := .type "list", data := .seq #[] } } s' →
      s'.heap.get? s.heap.objs.size = some { cls := .type "list", dict := none, data := .seq acc' c', slots := #[] } → ItemsOf P acc' n → Q (.ref s.heap.objs.size) s') (hn : n ≤ sizeLine) :
    wpAny (model prog w) A (call (.type "list") [.ref I]) Q E s := by
  have hSf : s.heap.objs.size ∉ fp := fun hm => Nat.lt_irrefl _ (hfp _ hm)
  refine callType_codes (Q₁ := fun obj s₁ => obj = .ref s.heap.objs.size ∧ s₁ = { s with heap := s.heap.push { cls := .type "list", data := .seq #[] } }) F.called_list (F.typeCall_list_1 _) F.entry_list_init
    (code_list_new _ ⟨rfl, rfl⟩) fun obj s₁ h₁ => ?_
  obtain ⟨rfl, rfl⟩ := h₁
  have hS : (s.heap.push { cls := .type "list", data := .seq #[] }).get? s.heap.objs.size = some { cls := .type "list", data := .seq #[] } := Heap.get?_push_size _ rfl
  refine ⟨⟨_, hS, rfl⟩, F.args_list_init_2 _ _, init_rev (hn := hn) W hT _ (W.frame 0 s _ s.toks hst (Nat.le_refl _) fun b _ o e => Heap.get?_push_of_some _ e) hSf hI hS fun s' acc' c' hm hS' hacc => ?_⟩
  exact ⟨rfl, hQ s' acc' c' hm hS' hacc⟩
end
end PySem

namespace PySem
theorem revW {prog : Program} {w : World} {A : Around} (hh : A.handled = none) (I l : Addr) (hne : l ≠ I) (items : Array Value) :
    WalksS prog w A I [I, l] [I] (fun g g' => g' = g) items.size (fun i v => items[items.size - 1 - i]? = some v) (fun i s => i ≤ items.size ∧ s.heap.IsRevIter I l ((items.size : Int) - 1 - (i : Int)) ∧ s.heap.IsList l items) where
  sub := fun b hb => by simp at hb; simp [hb]
  grefl := fun _ => rfl
  gtrans := fun _ _ _ a b => b.trans a
  frame := fun i s h' tk x _ hk => ⟨x.1, x.2.1.at fun o e => hk I (by simp) o e, x.2.2.at fun o e => hk l (by simp) o e⟩
  item := fun i s Q E hi x hQ => by
    have e : (items.size : Int) - 1 - (i : Int) = ((items.size - 1 - i : Nat) : Int) := by omega
    have hit := x.2.1
    rw [e] at hit
    have hx : items[items.size - 1 - i]? = some (items[items.size - 1 - i]'(by omega)) := Array.getElem?_eq_getElem (by omega)
    refine wpAny_pyNext_rev_item hit x.2.2 hx fun h' hit' hs' => ?_
    have e2 : ((items.size - 1 - i : Nat) : Int) - 1 = (items.size : Int) - 1 - ((i + 1 : Nat) : Int) := by omega
    rw [e2] at hit'
    exact hQ _ { s with heap := h' } hx ⟨hi, hit', x.2.2.at fun o eo => (hs'.2 l hne).trans eo⟩ ⟨fun b o hb eo => hs'.extBut b o (fun h => hb (by simp [h])) eo, rfl, rfl, rfl, Nat.le_refl _⟩
  done := fun s Q E x hQ => by
    have e : (items.size : Int) - 1 - (items.size : Int) = -1 := by omega
    have hit := x.2.1
    rw [e] at hit
    exact wpAny_pyNext_rev_end hh hit fun h' he' => hQ { s with heap := h' } ⟨fun b o hb eo => he' b o (fun h => hb (by simp [h])) eo, rfl, rfl, rfl, Nat.le_refl _⟩
  self := fun _ _ _ _ x hQ => wpAny_pyIter_revIter x.2.1 hQ
end PySem
namespace DL
open PySem L2 PyProof.Rows
theorem vals_rev : ∀ {xs : List V} {us : List Value}, Vals xs us → Vals xs.reverse us.reverse := by
  intro xs us h
  induction h with
  | nil => exact .nil
  | cons a b ih =>
    rw [List.reverse_cons, List.reverse_cons]
    exact ih.append (.cons a .nil)
variable {X : Cx} {e : Expr} {te : TE} {p p2 pos pos2 : Pos}
theorem pe_listRev (hc : X.calm = true) (hgl : Gl X "list") (hml : X.mg "list" = none) (hgr : Gl X "reversed") (hmr : X.mg "reversed" = none) (he : PE X e te)
    (hs : starEach [e] X.env = [(false, eval e X.env)] := by rfl) (hs2 : starEach [.Call (.Name "reversed" p2) [e] [] pos2] X.env = [(false, eval (.Call (.Name "reversed" p2) [e] [] pos2) X.env)] := by rfl) :
    PE X (.Call (.Name "list" p) [.Call (.Name "reversed" p2) [e] [] pos2] [] pos) (tRevL X.K te) := by
  refine ⟨fun pins s σ H Q I h => ?_⟩
  refine Call_ (ld_blt I hgl hml boot_list (callWith_type1 ?_ hs2 rfl))
  rw [hs2]
  show wpAny _ _ (spliced ((false, eval (.Call (.Name "reversed" p2) [e] [] pos2) X.env) :: backTo pos [])) _ _ s
  refine Calls.spliced_cons ?_
  refine Call_ (ld_blt I hgr hmr boot_reversed (callWith_type1 ?_ hs rfl))
  rw [hs]
  show wpAny _ _ (spliced ((false, eval e X.env) :: backTo pos2 [])) _ _ s
  refine Calls.spliced_cons (thn (he.run pins s σ H _ I h) fun u s1 ⟨x, H1, I1, r1, q1⟩ => ?_)
  obtain ⟨a, xs, ex, hx, q⟩ := q1
  subst ex
  cases r1
  obtain ⟨its, rv, pl, hz⟩ := I1.list hx
  refine Calls.spliced_nil ?_
  refine call_reversed_list pl.isList ?_
  refine Calls.spliced_nil ?_
  have hlt : a < s1.heap.objs.size := pl.lt
  have hlen := rv.length
  refine call_list_rev (revW (by exact I.ok.hd hc) s1.heap.objs.size a (Nat.ne_of_lt hlt) its.toArray) (fun i s x => x.2.1.typeIs) ⟨Nat.zero_le _, ?_, ?_⟩ (fun b hb => ?_) (by simp) (fun s' acc' c' hm hS' hacc => ?_) ?_
  · have e1 : ((its.toArray.size : Nat) : Int) - 1 = ((its.toArray.size : Nat) : Int) - 1 - ((0 : Nat) : Int) := by simp
    rw [← e1]
    exact ⟨_, Heap.get?_push_size _ rfl, rfl, rfl⟩
  · exact pl.isList.at fun o e => Heap.get?_push_of_some _ e
  · have hsz : (s1.heap.push (revObj a ((its.toArray.size : Int) - 1))).objs.size = s1.heap.objs.size + 1 := by simp [Heap.push]
    show b < (s1.heap.push (revObj a ((its.toArray.size : Int) - 1))).objs.size
    rw [hsz]
    rcases List.mem_cons.mp hb with e | e
    · rw [e]; exact Nat.lt_succ_self _
    · rw [List.mem_singleton] at e; rw [e]; exact Nat.lt_succ_of_lt hlt
  · have hsz : (s1.heap.push (revObj a ((its.toArray.size : Int) - 1))).objs.size = s1.heap.objs.size + 1 := by simp [Heap.push]
    have keep : ∀ b u, s1.heap.get? b = some u → s'.heap.get? b = some u := fun b u e => by
      have hb := Heap.lt_size e
      refine hm.heap b u (fun hm2 => ?_) (Heap.get?_push_of_some _ (Heap.get?_push_of_some _ e))
      rcases List.mem_cons.mp hm2 with e2 | e2
      · have e3 : b = (s1.heap.push (revObj a ((its.toArray.size : Int) - 1))).objs.size := e2
        rw [hsz] at e3
        exact absurd hb (by rw [e3]; exact Nat.not_lt.mpr (Nat.le_succ _))
      · rw [List.mem_singleton] at e2
        exact absurd hb (by rw [e2]; exact Nat.lt_irrefl _)
    have es : s' = { s1 with heap := s'.heap, toks := s'.toks } := by
      have h1 := hm.gens
      have h2 := hm.drawn
      have h3 := hm.os
      obtain ⟨a1, a2, a3, a4, a5⟩ := s'
      simp only at h1 h2 h3
      subst h1 h2 h3
      rfl
    have hacc2 : acc'.toList = its.reverse := by
      refine List.ext_getElem? fun j => ?_
      have h1 := hacc.1
      have h1 : acc'.size = its.length := by simpa using h1
      by_cases hj : j < its.length
      · have h2 := hacc.2 j (acc'[j]'(by omega)) (Array.getElem?_eq_getElem (by omega))
        rw [List.getElem?_reverse hj]
        have h3 : its[its.length - 1 - j]? = some (acc'[j]'(by omega)) := by simpa using h2
        rw [h3, Array.getElem?_toList, Array.getElem?_eq_getElem (by omega)]
      · rw [List.getElem?_eq_none (by simp; omega), List.getElem?_eq_none (by simp; omega)]
    rw [es]
    have hf : H1 (s1.heap.push (revObj a ((its.toArray.size : Int) - 1))).objs.size = none := I1.hok.fresh (by rw [hsz]; omega)
    refine ⟨.ref (s1.heap.push (revObj a ((its.toArray.size : Int) - 1))).objs.size, _, I1.laid (o := .lst xs.reverse) (t' := s'.toks) keep (by rw [hsz]; omega) ⟨by rw [List.length_reverse]; exact hz, acc'.toList, c', by rw [hacc2]; exact vals_rev rv, hS'⟩, rfl, q _ hf⟩
  · rw [List.size_toArray, ← hlen]; exact hz
end DL

namespace MX
open PySem L2 DL
/-! ### few keys -/
theorem asc_len : ∀ (l : List Int) (lo : Int) (n : Nat), l.Pairwise (· < ·) → (∀ x ∈ l, lo ≤ x ∧ x < lo + n) → l.length ≤ n
  | [], _, _, _, _ => Nat.zero_le _
  | x :: l, lo, n, h, hb => by
    rw [List.pairwise_cons] at h
    have hx := hb x (List.mem_cons_self)
    have hn : 0 < n := by omega
    have := asc_len l (lo + 1) (n - 1) h.2 fun y hy => by
      have h1 := h.1 y hy
      have h2 := hb y (List.mem_cons_of_mem _ hy)
      omega
    rw [List.length_cons]; omega
theorem few_of {s : Spr} {lo : Int} {n : Nat} (h : ∀ p ∈ s, lo ≤ p.1 ∧ p.1 < lo + n) : (acc s).length ≤ n := by
  have h1 := asc_len (srt ((acc s).map (·.1))) lo n (gat_keys_lt s) fun x hx => by
    obtain ⟨p, hp, rfl⟩ := List.mem_map.mp ((acc_mem s x).mp ((srt_perm _).mem_iff.mp hx))
    exact h p hp
  rw [(srt_perm _).length_eq, List.length_map] at h1
  exact h1
/-! ### mass and signs -/
abbrev mass (s : Spr) : Rat := Ex s fun _ => 1
theorem mass_eq (s : Spr) : mass s = (s.map (·.2)).sum := by
  unfold mass Ex
  exact congrArg List.sum (List.map_congr_left fun p _ => by grind)
theorem mass_gat (s : Spr) : mass (gatF s) = mass s := ex_gat s _
theorem ex_const (s : Spr) (c : Rat) : Ex s (fun _ => c) = c * mass s := by
  rw [← ex_mul]
  exact congrArg (Ex s) (funext fun _ => by grind)
theorem mass_sum (s t : Spr) : mass (sumF s t) = mass s * mass t := by
  show Ex (sumF s t) (fun _ => 1) = _
  rw [ex_sum, ex_const]; grind
theorem ex_nn {s : Spr} (h : ∀ p ∈ s, 0 ≤ p.2) (v : Int) : 0 ≤ wt s v := by
  induction s with
  | nil => show (0 : Rat) ≤ 0; decide
  | cons p s ih =>
    rw [wt_cons]
    have h1 := h p (List.mem_cons_self)
    have h2 := ih fun q hq => h q (List.mem_cons_of_mem _ hq)
    split <;> grind
theorem gat_pos {s : Spr} (h : ∀ p ∈ s, 0 ≤ p.2) : ∀ p ∈ gatF s, 0 < p.2 := fun p hp => by
  have h1 := (gat_can s).nz p hp
  have h2 := (gat_mem hp).2
  have h3 := ex_nn h p.1
  rw [← h2] at h3
  exact Rat.lt_of_le_of_ne h3 (Ne.symm h1)
theorem sum_nn {s t : Spr} (hs : ∀ p ∈ s, 0 ≤ p.2) (ht : ∀ p ∈ t, 0 ≤ p.2) : ∀ p ∈ sumF s t, 0 ≤ p.2 := fun p hp => by
  obtain ⟨a, ha, hb⟩ := List.mem_flatMap.mp hp
  obtain ⟨q, hq, rfl⟩ := List.mem_map.mp hb
  exact Rat.mul_nonneg (hs a ha) (ht q hq)
theorem mix_nn {ss : List Spr} {cs : List Rat} (hs : ∀ s ∈ ss, ∀ p ∈ s, 0 ≤ p.2) (hc : ∀ c ∈ cs, 0 ≤ c) : ∀ p ∈ mixF ss cs, 0 ≤ p.2 := fun p hp => by
  obtain ⟨a, ha, hb⟩ := List.mem_flatMap.mp hp
  obtain ⟨q, hq, rfl⟩ := List.mem_map.mp hb
  exact Rat.mul_nonneg (hc _ (List.of_mem_zip ha).2) (hs _ (List.of_mem_zip ha).1 q hq)
/-! ### the laws of sums and mixtures -/
theorem sum_assoc (a b c : Spr) : gatF (sumF (gatF (sumF a b)) c) = gatF (sumF a (gatF (sumF b c))) := ex_wt fun f => by
  rw [ex_sum, ex_gat, ex_sum, ex_sum]
  refine congrArg (Ex a) (funext fun x => ?_)
  rw [ex_gat, ex_sum]
  exact congrArg (Ex b) (funext fun y => congrArg (Ex c) (funext fun z => by rw [Int.add_assoc]))
theorem ex_sh (a : Spr) (k : Int) (f : Int → Rat) : Ex (shF a k) f = Ex a fun x => f (x + k) := by
  unfold shF
  induction a with
  | nil => rfl
  | cons p a ih => rw [List.map_cons, ex_cons, ex_cons, ih]
theorem can_sh {a : Spr} (h : Can a) (k : Int) : Can (shF a k) := by
  refine ⟨?_, fun p hp => ?_⟩
  · have h1 := h.asc
    unfold shF
    rw [List.map_map]
    rw [List.pairwise_map] at h1 ⊢
    exact h1.imp fun {p q} h => by show p.1 + k < q.1 + k; omega
  · obtain ⟨q, hq, rfl⟩ := List.mem_map.mp hp; exact h.nz q hq
theorem sum_one {a : Spr} (h : Can a) (k : Int) : gatF (sumF a [(k, 1)]) = shF a k := by
  rw [← can_gat (can_sh h k)]
  refine ex_wt fun f => ?_
  rw [ex_sum, ex_sh]
  refine congrArg (Ex a) (funext fun x => ?_)
  rw [ex_cons, ex_nil]; grind
theorem sh_zero (a : Spr) : shF a 0 = a := by
  unfold shF
  conv => rhs; rw [← List.map_id a]
  exact List.map_congr_left fun p _ => by show (p.1 + 0, p.2) = p; rw [Int.add_zero]
theorem mean_sum {a b : Spr} (ha : mass a = 1) (hb : mass b = 1) : Ex (gatF (sumF a b)) (fun x => (x : Rat)) = Ex a (fun x => (x : Rat)) + Ex b (fun x => (x : Rat)) := by
  rw [ex_gat, ex_sum]
  have e : (fun x : Int => Ex b fun y => ((x + y : Int) : Rat)) = fun x : Int => (x : Rat) + Ex b fun y => (y : Rat) := by
    funext x
    have e2 : (fun y : Int => ((x + y : Int) : Rat)) = fun y : Int => (x : Rat) + (y : Rat) := by funext y; rw [Rat.intCast_add]
    rw [e2, ex_add, ex_const, hb]; grind
  rw [e, ex_add, ex_const, ha]; grind
theorem gat_rev {a : Spr} (h : Can a) : gatF a.reverse = a := by
  rw [← can_gat h]
  conv => rhs; rw [can_gat h]
  have e : gatF a.reverse = gatF a := ex_wt fun f => ex_perm (List.reverse_perm a) f
  rw [can_gat h, e, can_gat h]
theorem ex_mix2 (a b : Spr) (c d : Rat) (f : Int → Rat) : Ex (mixF [a, b] [c, d]) f = c * Ex a f + d * Ex b f := by
  rw [ex_mix]
  show c * Ex a f + (d * Ex b f + 0) = _
  grind
theorem ex_mix1 (a : Spr) (c : Rat) (f : Int → Rat) : Ex (mixF [a] [c]) f = c * Ex a f := by
  rw [ex_mix]
  show c * Ex a f + 0 = _
  grind
theorem mix_same {a : Spr} (h : Can a) {c d : Rat} (hs : c + d = 1) : gatF (mixF [a, a] [c, d]) = a := by
  have e : gatF (mixF [a, a] [c, d]) = gatF a := ex_wt fun f => by rw [ex_mix2]; grind
  rw [e, can_gat h]
theorem mix_one {a : Spr} (h : Can a) : gatF (mixF [a] [1]) = a := by
  have e : gatF (mixF [a] [1]) = gatF a := ex_wt fun f => by rw [ex_mix1]; grind
  rw [e, can_gat h]
theorem mix_first {a b : Spr} (h : Can a) : gatF (mixF [a, b] [1, 0]) = a := by
  have e : gatF (mixF [a, b] [1, 0]) = gatF a := ex_wt fun f => by rw [ex_mix2]; grind
  rw [e, can_gat h]
theorem mean_mix (a b : Spr) (c d : Rat) : Ex (gatF (mixF [a, b] [c, d])) (fun x => (x : Rat)) = c * Ex a (fun x => (x : Rat)) + d * Ex b (fun x => (x : Rat)) := by rw [ex_gat, ex_mix2]
theorem mix_dist (a b t : Spr) (c d : Rat) : gatF (sumF (gatF (mixF [a, b] [c, d])) t) = gatF (mixF [gatF (sumF a t), gatF (sumF b t)] [c, d]) := ex_wt fun f => by
  rw [ex_sum, ex_gat, ex_mix2, ex_mix2, ex_gat, ex_gat, ex_sum, ex_sum]
theorem mass_mix {a b : Spr} {c d : Rat} (ha : mass a = 1) (hb : mass b = 1) (hs : c + d = 1) : mass (gatF (mixF [a, b] [c, d])) = 1 := by
  show Ex (gatF (mixF [a, b] [c, d])) (fun _ => 1) = 1
  have ha : Ex a (fun _ => 1) = 1 := ha
  have hb : Ex b (fun _ => 1) = 1 := hb
  rw [ex_gat, ex_mix2, ha, hb]; grind
end MX

namespace MX
open PySem L2 DL
/-! ### spreads within an interval: more than 64 items, fewer than 64 values -/
structure TyG (n m : Nat) (lo : Int) (w : Nat) (s : Spr) : Prop where
  q : ∃ N b : Nat, 0 < N ∧ N < 2 ^ n ∧ b < 2 ^ n ∧ ∀ p ∈ s, Sq N b p.2
  v : ∀ p ∈ s, lo ≤ p.1 ∧ p.1 < lo + w
  len : s.length ≤ m
theorem TyG.acc {n m w : Nat} {lo : Int} {s : Spr} (h : TyG n m lo w s) : (acc s).length ≤ w := few_of h.v
theorem TyG.qb {n m w : Nat} {lo : Int} {s : Spr} (h : TyG n m lo w s) : ∀ p ∈ s, Qb n p.2 := fun p hp => by
  obtain ⟨⟨N, b, h1, h2, h3, h4⟩, _, _⟩ := h
  exact sq_qb h1 h2 h3 (h4 p hp)
theorem thou {k b n m : Nat} (hk : k ≤ 1024) (hb : b ≤ 2 ^ n) (h : n + 10 ≤ m) : k * b ≤ 2 ^ m := by
  have h1 : k * b ≤ 1024 * 2 ^ n := Nat.mul_le_mul hk hb
  have h2 : 1024 * 2 ^ n = 2 ^ (n + 10) := by rw [Nat.pow_add]; omega
  exact Nat.le_trans (by omega) (pow_lt h)
theorem fin_g {N b n k m : Nat} (h1 : 0 < N) (h2 : N < 2 ^ n) (h3 : b < 2 ^ m) (hk : k ≤ 1000) (hn : n ≤ 3900) (hm : m ≤ 3880) : Fin N b k := by
  refine ⟨h1, Nat.lt_of_lt_of_le h2 (pow_lt hn), ?_⟩
  have := thou (k := k + 1) (b := b + 1) (n := m) (m := 3890) (by omega) h3 (by omega)
  exact Nat.lt_of_le_of_lt this (Nat.pow_lt_pow_right (by decide) (by decide))
theorem TyG.fine {n m w : Nat} {lo : Int} {s : Spr} (h : TyG n m lo w s) (hn : n ≤ 3000) (hm : m ≤ 1000) : Fine (s.map (·.2)) := by
  obtain ⟨⟨N, b, h1, h2, h3, h4⟩, _, h6⟩ := h
  exact ⟨N, b, fin_g h1 h2 h3 (by rw [List.length_map]; omega) (by omega) (by omega), fun r hr => by obtain ⟨p, hp, rfl⟩ := List.mem_map.mp hr; exact h4 p hp⟩
theorem TyG.gd {n m w : Nat} {lo : Int} {s : Spr} (h : TyG n m lo w s) (hn : n ≤ 3000) (hm : m ≤ 1000) (hw : w < 64) : Gd s := ⟨h.fine hn hm, by have := h.len; omega, Nat.lt_of_le_of_lt h.acc hw⟩
theorem gat_lenA (s : Spr) : (gatF s).length ≤ (acc s).length := by
  unfold gatF
  refine Nat.le_trans (List.length_filterMap_le _ _) ?_
  rw [(srt_perm _).length_eq, List.length_map]
  exact Nat.le_refl _
theorem TyG.gat {n m w : Nat} {lo : Int} {s : Spr} (h : TyG n m lo w s) (hm : m ≤ 1000) : TyG (n + 10) w lo w (gatF s) := by
  obtain ⟨⟨N, b, h1, h2, h3, h4⟩, h5, h6⟩ := h
  have hs := wt_sq h1 (s := s) fun r hr => by obtain ⟨p, hp, rfl⟩ := List.mem_map.mp hr; exact h4 p hp
  have hb : s.length * b < 2 ^ (n + 10) := by
    have e : (2 : Nat) ^ (n + 10) = 1024 * 2 ^ n := by rw [Nat.pow_add]; omega
    rw [e]
    exact Nat.lt_of_le_of_lt (Nat.mul_le_mul_left _ (Nat.le_of_lt h3)) (Nat.mul_lt_mul_of_pos_right (by omega) (Nat.two_pow_pos n))
  refine ⟨⟨N, s.length * b, h1, Nat.lt_of_lt_of_le h2 (pow_lt (by omega)), hb, fun p hp => by rw [(gat_mem hp).2]; exact hs _⟩, fun p hp => ?_, Nat.le_trans (gat_lenA s) (few_of h5)⟩
  obtain ⟨q, hq, e⟩ := List.mem_map.mp (gat_mem hp).1
  rw [← e]
  exact h5 q hq
theorem TyG.sum {n m w n' m' w' : Nat} {lo lo' : Int} {s t : Spr} (h : TyG n m lo w s) (h' : TyG n' m' lo' w' t) : TyG (n + n') (m * m') (lo + lo') (w + w') (sumF s t) := by
  obtain ⟨⟨N, b, h1, h2, h3, h4⟩, h5, h6⟩ := h
  obtain ⟨⟨M, c, g1, g2, g3, g4⟩, g5, g6⟩ := h'
  refine ⟨⟨N * M, b * c, Nat.mul_pos h1 g1, ?_, ?_, fun p hp => ?_⟩, fun p hp => ?_, Nat.le_trans (sum_len s t) (Nat.mul_le_mul h6 g6)⟩
  · rw [Nat.pow_add]; exact Nat.mul_lt_mul_of_lt_of_le h2 (Nat.le_of_lt g2) (Nat.two_pow_pos _)
  · rw [Nat.pow_add]; exact Nat.mul_lt_mul_of_lt_of_le h3 (Nat.le_of_lt g3) (Nat.two_pow_pos _)
  · obtain ⟨a, ha, hb⟩ := List.mem_flatMap.mp hp
    obtain ⟨q, hq, rfl⟩ := List.mem_map.mp hb
    exact sq_mul (h4 a ha) (g4 q hq)
  · obtain ⟨a, ha, hb⟩ := List.mem_flatMap.mp hp
    obtain ⟨q, hq, rfl⟩ := List.mem_map.mp hb
    have := h5 a ha
    have := g5 q hq
    show lo + lo' ≤ a.1 + q.1 ∧ a.1 + q.1 < lo + lo' + ((w + w' : Nat) : Int)
    omega
theorem TyG.of {n : Nat} {s : Spr} {lo : Int} {w m : Nat} (h : Ty n s) (hv : ∀ p ∈ s, lo ≤ p.1 ∧ p.1 < lo + w) (hl : s.length ≤ m) : TyG n m lo w s := ⟨h.q, hv, hl⟩
theorem TyG.wide {n m w w' : Nat} {lo lo' : Int} {s : Spr} (h : TyG n m lo w s) (h1 : lo' ≤ lo) (h2 : lo + w ≤ lo' + w') : TyG n m lo' w' s := ⟨h.q, fun p hp => by have := h.v p hp; omega, h.len⟩
theorem TyG.mono {n m w n' m' : Nat} {lo : Int} {s : Spr} (h : TyG n m lo w s) (h1 : n ≤ n') (h2 : m ≤ m') : TyG n' m' lo w s := by
  obtain ⟨⟨N, b, a1, a2, a3, a4⟩, h5, h6⟩ := h
  exact ⟨⟨N, b, a1, Nat.lt_of_lt_of_le a2 (pow_lt h1), Nat.lt_of_lt_of_le a3 (pow_lt h1), a4⟩, h5, by omega⟩
theorem TyG.mn {n m w : Nat} {lo : Int} {s : Spr} (h : TyG n m lo w s) (hn : n ≤ 1000) (hm : m ≤ 1000) (hl : -1000 ≤ lo ∧ lo ≤ 1000) (hw : w ≤ 1000) : Mn s := by
  have hv : ∀ p ∈ s, Bt 12 p.1 := fun p hp => by
    have := h.v p hp
    exact bt_range (by have : (2 : Int) ^ 12 = 4096 := by decide
                       omega) (by have : (2 : Int) ^ 12 = 4096 := by decide
                                  omega)
  have hq := h.qb
  obtain ⟨⟨N, b, h1, h2, h3, h4⟩, h5, h6⟩ := h
  refine ⟨⟨N, 2 ^ 12 * b, fin_g h1 h2 (m := n + 12) ?_ (by rw [List.length_map]; omega) (by omega) (by omega), fun r hr => ?_⟩, fun p hp => ⟨(hv p hp).mono (by decide), (hq p hp).mono (by omega)⟩, by omega⟩
  · have e : (2 : Nat) ^ (n + 12) = 2 ^ 12 * 2 ^ n := by rw [Nat.pow_add, Nat.mul_comm]
    rw [e]
    exact Nat.mul_lt_mul_of_pos_left h3 (Nat.two_pow_pos 12)
  · obtain ⟨p, hp, rfl⟩ := List.mem_map.mp hr
    exact sq_intmul h1 (hv p hp) (h4 p hp)
/-- the law's spreads lie within their interval, their chances are above 0 and add up to 1 -/
theorem spr_in {n : Nat} {low width : Int} (h : SprOk n width) (cell : Int) : ∀ p ∈ sprF cell n low width, low ≤ p.1 ∧ p.1 < low + width := fun p hp => by
  have h1 := (gat_mem hp).1
  obtain ⟨q, hq, e⟩ := List.mem_map.mp h1
  unfold wtd at hq
  obtain ⟨k, hk, rfl⟩ := List.mem_map.mp hq
  rw [List.mem_range] at hk
  have e : (sprV cell n low width).getD k 0 = p.1 := e
  rw [← e, List.getD_eq_getElem?_getD, List.getElem?_eq_getElem hk, Option.getD_some]
  exact sprV_mem h cell (List.getElem_mem hk)
theorem wtd_snd {vs ws : List Int} (h : vs.length = ws.length) : (wtd vs ws).map (·.2) = csF ws := by
  unfold wtd csF
  rw [List.map_map]
  refine List.ext_getElem? fun i => ?_
  rw [List.getElem?_map, List.getElem?_map]
  by_cases hi : i < vs.length
  · rw [List.getElem?_range hi, List.getElem?_eq_getElem (show i < ws.length by omega)]
    show some (Rat.divInt (ws.getD i 0) ws.sum) = some (Rat.divInt ws[i] ws.sum)
    rw [List.getD_eq_getElem?_getD, List.getElem?_eq_getElem (show i < ws.length by omega), Option.getD_some]
  · rw [List.getElem?_eq_none (by rw [List.length_range]; omega), List.getElem?_eq_none (show ws.length ≤ i by omega)]; rfl
theorem spr_mass {n : Nat} {low width : Int} (h : SprOk n width) (cell : Int) : mass (sprF cell n low width) = 1 := by
  have hw := spr_wd (low := low) h cell
  unfold sprF
  rw [mass_gat, mass_eq, wtd_snd hw.len, sum_cs (by have := hw.sum; omega)]
theorem spr_gt {n : Nat} {low width : Int} (h : SprOk n width) (cell : Int) : ∀ p ∈ sprF cell n low width, 0 < p.2 := gat_pos fun p hp => by
  have hw := spr_wd (low := low) h cell
  have hm : p.2 ∈ (wtd (sprV cell n low width) (sprW cell n width)).map (·.2) := List.mem_map.mpr ⟨p, hp, rfl⟩
  rw [wtd_snd hw.len] at hm
  exact cs_pos (by have := hw.sum; omega) (fun v hv => by have := hw.pos v hv; omega) _ hm
end MX

/-! Errors raised out of an except suite; slices of tuples and of the script; chains. -/
namespace DL
open PySem L2 PyProof.Rows
section
variable {P : Program} {w : World} {K : PySem.W.Frag} {mg : Str → Option Value} {base : Heap} {x qual : Str} {st : Stmt} {f : Addr} {fd : FuncData} {N ps : List Str} {k : Nat} {α : Type} {fs : α → List SD} {pre : α → Prop} {fo : α → Option D} {C : Value}
abbrev cxT (P : Program) (w : World) (K : PySem.W.Frag) (mg : Str → Option Value) (base : Heap) (N : List Str) (qual : Str) (st : Stmt) (f : Addr) (cdv : Value) (A : Around) (outer : List Env) (s : Shared) (H : Hp) (E : XK) : Cx := cxOf (L2N.CX P w) P w K mg base N qual (defScope st) f cdv A outer s H E
/-- a def that hands back data or raises, its errors without a context -/
theorem fn_T (F : Fun K x qual st f fd) (S : FnScope N ps (defScope st)) (hn : ∀ a, (fs a).length = ps.length)
    (body : ∀ (cdv : Value) (A : Around) (outer : List Env) (s : Shared) (H : Hp) (E : XK), Room k (A.deeper (PyProof.Rows.envOfC qual (defScope st) s.heap.objs.size f cdv)) →
      ∃ t, PSs (cxT P w K mg base N qual st f cdv A outer s H E) (defBody st) t ∧ ∀ a, pre a → (∀ d, fo a = some d → Run K E t (envOf N (fs a)) (.rt d) ∨ (d = .none ∧ ∃ e, Run K E t (envOf N (fs a)) (.nx e))) ∧ (fo a = none → Run K E t (envOf N (fs a)) (.ex C))) :
    FnOk P w K mg base (L2N.CX P w) (k + 1) f fd ps (SpX K fs pre C fo) := by
  obtain ⟨c1, c2, c3, c4, c5, c6, cdv, c7, c8, rfl, look, isCode⟩ := F.ex
  refine L2.fn_of look isCode S (fun vs H Q E h => ?_) fun A outer s H vs Q E room h => ?_
  · obtain ⟨a, G, gh, ha, _⟩ := h
    rw [ha.len, hn a]
  · obtain ⟨a, G, gh, ha, hp, q1, q2⟩ := h
    obtain ⟨t, h1, h2⟩ := body cdv A outer s H E room
    refine ⟨t, h1, ?_⟩
    obtain ⟨h3, h4⟩ := h2 a hp
    cases e : fo a with
    | none => exact h4 e G H G H _ _ (ok_start gh ha) fun G' H' fw => q2 e G' H' fw
    | some d =>
      rcases h3 d e with h5 | ⟨ed, en, h5⟩
      · exact h5 G H G H _ _ (ok_start gh ha) fun v G' H' fw hv => q1 d e v G' H' fw hv
      · subst ed
        exact h5 G H G H _ _ (ok_start gh ha) fun G' H' σ' ok' => q1 _ e _ G' H' ok'.fw .non
end
section
variable {X : Cx} {W : WX} {x m : Str} {C : Addr} {j : Nat} {p p2 pos pos2 cpos : Pos}
theorem ps_errT (hc : X.calm = true) (tk : L2N.Takes X W) (F : ErrC X.K X.mg x C) (hg : Gl X x) (hdb : (x == ("__debug__" : Str)) = false := by decide) :
    PS X (.Raise (some (.Call (.Name x p) [.Constant (.str m) j p2] [] pos)) none pos2) (fun _ σ H => W (.ref C) none σ H) :=
  L2N.ps_raise hc tk (L2N.pmk_own PySem.F.excBase_ValueError F.ex F.g F.kp (raises_own F.sub F.ty) hg hdb)
theorem pmk5_err (F : ErrC X.K X.mg x C) (hg : Gl X x) (hdb : (x == ("__debug__" : Str)) = false := by decide) : L2H.PMk5 X (.Call (.Name x p) [.Constant (.str m) j p2] [] pos) (fun _ H Q => Q (.ref C) none H) := by
  intro pn s σ H Q inv want
  refine wpAny_Call_Name_kw (ld_glob inv hg F.g ?_ hdb)
  refine PySem.W.callWith_K (h₀ := X.base) inv.ok.mod.kin F.kp (thn ((pa_cons pe_str pa_nil : PA X [.Constant (.str m) j p2] (tCons (tC (.str m)) tNil)).run pos pn s σ H (fun zs HH => zs = [V.str m] ∧ H = HH) inv ⟨rfl, rfl⟩) fun args s1 got => ?_)
  obtain ⟨zs, HH, inv1, rel, e1, e2⟩ := got
  subst e1
  subst e2
  refine ⟨inv1.kIn, ?_⟩
  match args, rel with
  | [arg], .cons _ .nil =>
    obtain ⟨b1, b2, b3, b4, b5, b6, b7, b8, b9, b10, b11, b12, b13, b14, b15, b16, isN, isC, isM, isI, isT⟩ := exc_obj inv1.kIn F.ex
    exact wpAny_call_exc_subT PySem.F.excBase_ValueError isT isC isM isI (fun hh ad made => L2H.mk_of5 inv1 made (raises_own F.sub F.ty) want (inv1.hok.gone made.new)) (by show 1 ≤ sizeLine; rw [sizeLine_eq]; omega)
theorem ps_errHN (hot : L2H.HotC X) (tk : L2.Takes X W) (F : ErrC X.K X.mg x C) (hg : Gl X x) (hdb : (x == ("__debug__" : Str)) = false := by decide) :
    PS X (.Raise (some (.Call (.Name x p) [.Constant (.str m) j p2] [] pos)) (some (.Constant .none 0 cpos)) pos2) (fun _ σ H => W (.ref C) none σ H) :=
  L2H.ps_raiseHN hot tk (pmk5_err F hg hdb)
end
variable {K : PySem.W.Frag} {E : XK} {env : EnvD}
section
variable {α : Type} {fs : α → List SD} {pre : α → Prop} {fo : α → Option D} {C c C2 : Value} {t : TA} {ss : List SD} {ts : Addr → Value → Option Addr → TS} {Wout : WX}
/-- try: f(..) except c: .., f does not raise -/
theorem run_onlyN {x : α} {d : D} (h : EvA K t env ss) (e : ss = fs x) (hp : pre x) (hn : fo x = some d) :
    Run K E (fun D σ H => tDrop (tCallS (SpX K fs pre C fo) (WE (wOnly K c ts Wout D)) t) D σ H) env (.nx env) := fun G0 H0 G H σ D ok q =>
  h G0 H0 G H σ ok _ fun vs G1 H1 a hv => ⟨x, G1, a.gh, by rw [← e]; exact hv, hp, fun z hz v G2 H2 a2 _ => q G2 H2 σ ((ok.go a).go a2), fun z => by rw [hn] at z; cases z⟩
/-- .. f raises, the suite raises another -/
theorem run_onlyR {x : α} (h : EvA K t env ss) (e : ss = fs x) (hp : pre x) (hn : fo x = none) (hm : PySem.W.exmOne K C c = some true) (hs : ∀ a, ts a C none = fun D σ H => E C2 none H) :
    Run K E (fun D σ H => tDrop (tCallS (SpX K fs pre C fo) (WE (wOnly K c ts Wout D)) t) D σ H) env (.ex C2) := fun G0 H0 G H σ D ok q =>
  h G0 H0 G H σ ok _ fun vs G1 H1 a hv => ⟨x, G1, a.gh, by rw [← e]; exact hv, hp, fun z hz => (by rw [hn] at hz; cases hz), fun _ G2 H2 a2 => ⟨true, hm, fun _ b _ => by rw [hs]; exact q G2 H2 ((ok.fw.trans a).trans a2), fun z => nomatch z⟩⟩
end
section
variable {ta tb tc : TE} {ds : List D} {i j k : Int}
/-- a slice of a tuple that is not the whole -/
theorem ed_sliceT {tl th : TO} {lo hi : Option Int} (ha : EvD K ta env (.tuple ds)) (hl : EvO K tl env lo) (hh : EvO K th env hi) (hn : ¬(HT.sIx ds.length 0 lo = 0 ∧ HT.sIx ds.length ds.length hi = ds.length)) : EvD K (tSl (rSlT K) ta tl th) env (.tuple (cutD ds lo hi)) := fun G0 H0 G H σ ok Q q =>
  ha G0 H0 G H σ ok _ fun v G1 H1 a hv => hl G0 H0 G1 H1 σ (ok.go a) _ fun G2 H2 a2 => hh G0 H0 G2 H2 σ ((ok.go a).go a2) _ fun G3 H3 a3 => by
    obtain ⟨p, xs, e, hs, hd⟩ := (hv.mono (a2.trans a3).gg).tup_inv
    subst e
    refine ⟨p, xs, rfl, sqT_mono a3.gh hs, by rw [hd.len]; exact hn, fun r hr => ?_⟩
    have fw := Fw.new (o := .tup (cutV xs lo hi)) a3.gh hr
    refine q _ _ _ (((a.trans a2).trans a3).trans fw) (.tup (.inl (.inl upd_same)) ?_)
    have key : Dds K G3 (cutV xs lo hi) (cutD ds lo hi) := by
      unfold cutV cutD
      rw [hd.len]
      exact (hd.drop _).take _
    exact key.mono fw.gg
/-- a slice of the script -/
theorem en_sliceR {ns : List Int} {tl th : TO} {lo hi : Option Int} (m : Nat) (h : env[m]? = some (.scr ns)) (hl : EvO K tl env lo) (hh : EvO K th env hi) : EvN K (tSl (rSlL K) (tVar m) tl th) env (cutD (ns.map PyData.int) lo hi) := fun G0 H0 G H σ ok Q q =>
  ev_scr m h G0 H0 G H σ ok _ fun v G1 H1 a hv => hl G0 H0 G1 H1 σ (ok.go a) _ fun G2 H2 a2 => hh G0 H0 G2 H2 σ ((ok.go a).go a2) _ fun G3 H3 a3 => by
    obtain ⟨p, e, hs⟩ := hv
    cases e
    refine ⟨p, _, rfl, a3.gh.seq ((a2.trans a3).gg.seq hs), fun r hr => ?_⟩
    refine q r _ G3 _ (((a.trans a2).trans a3).trans (Fw.hid a3.gh hr)) (((a.trans a2).trans a3).hh.free hr) (a3.gh.free hr) upd_same ?_
    unfold cutV cutD
    rw [List.length_map, List.length_map]
    exact ((Dds.ints ns).drop _).take _
end
theorem ed_chain {ta tb tc : TE} {g g' : Int → Int → Bool} {i j k : Int} (ha : EvD K ta env (.int i)) (hb : EvD K tb env (.int j)) (hc : EvD K tc env (.int k)) : EvD K (tChain (rI0 fun i j => .bl (g i j)) (rI0 fun i j => .bl (g' i j)) ta tb tc) env (.bool (g i j && g' j k)) := fun G0 H0 G H σ ok Q q =>
  ha G0 H0 G H σ ok _ fun v G1 H1 a hv => hb G0 H0 G1 H1 σ (ok.go a) _ fun u G2 H2 a2 hu => by
    refine ⟨i, j, hv.int_inv, hu.int_inv, g i j, rfl, ?_⟩
    cases e : g i j with
    | true => exact iteT (hc G0 H0 G2 H2 σ ((ok.go a).go a2) _ fun w G3 H3 a3 hw => ⟨j, k, hu.int_inv, hw.int_inv, by
        have := q (.bl (g' j k)) G3 H3 ((a.trans a2).trans a3)
        rw [e] at this
        exact this (.bl _)⟩)
    | false =>
      refine iteF ?_
      have := q (.bl false) G2 H2 (a.trans a2)
      rw [e] at this
      exact this (.bl _)
theorem kit_ii : kitB "int" "int" = some true := by decide +kernel
theorem kit_ti : kitB "tuple" "int" = some false := by decide +kernel
theorem kit_it : kitB "int" "tuple" = some false := by decide +kernel
end DL

namespace MX
open PySem L2 DL
/-! ### layers with any parts -/
inductive Pt
  | i (x : Int)
  | f (t l : Int)
abbrev encP : Pt → PyData
  | .i x => .int x
  | .f t l => .tuple [.int t, .int l]
structure RL where
  w : Str
  ps : List Pt
abbrev encR (l : RL) : PyData := .tuple (.str l.w :: l.ps.map encP)
structure RT where
  price : Int
  ls : List RL
abbrev encRT (t : RT) : PyData := .tuple [.int t.price, .list (t.ls.map encR)]
def amB : Pt → Bool
  | .i x => decide (0 ≤ x) && decide (x ≤ 1000)
  | .f _ _ => false
def shB : Pt → Bool
  | .i _ => false
  | .f t l => (decide (l ≥ 1) && decide (((Nat.gcd t.natAbs l.natAbs : Nat) : Int) = 1)) && (decide (0 ≤ t) && decide (t ≤ l))
def leB : Pt → Pt → Bool
  | .i x, .i y => decide (x ≤ y)
  | _, _ => false
def lyB (l : RL) : Bool := if l.w = "share" then (match l.ps with
    | [p] => shB p
    | _ => false) else if l.w = "limit" then (match l.ps with
    | [p] => amB p
    | _ => false) else if l.w = "band" then (match l.ps with
    | [p, q] => amB p && (amB q && leB p q)
    | _ => false) else false
def trB (t : RT) : Bool := amB (.i t.price) && (decide (t.ls.length ≤ 4) && t.ls.all lyB)
def rawL : Lay → RL
  | .share r => ⟨"share", [.f r.num r.den]⟩
  | .limit c => ⟨"limit", [.i c]⟩
  | .band b c => ⟨"band", [.i b, .i c]⟩
def rawT (t : Tr) : RT := ⟨t.prem, t.ls.map rawL⟩
theorem rawT_enc (t : Tr) : encT t = encRT (rawT t) := by
  show PyData.tuple [.int t.prem, .list (t.ls.map encL)] = .tuple [.int t.prem, .list ((t.ls.map rawL).map encR)]
  rw [List.map_map, List.map_congr_left (g := encR ∘ rawL) fun l _ => by cases l <;> rfl]
/-- valid layers -/
def LayV : Lay → Prop
  | .share r => 0 ≤ r.num ∧ r.num ≤ r.den
  | .limit c => 0 ≤ c ∧ c ≤ 1000
  | .band b c => 0 ≤ b ∧ b ≤ c ∧ c ≤ 1000
theorem rawL_ok {l : Lay} (h : LayV l) : lyB (rawL l) = true := by
  cases l with
  | share r =>
    obtain ⟨h1, h2⟩ := h
    have hd := r.den_nz
    have hr : Nat.gcd r.num.natAbs r.den = 1 := r.reduced
    show ((decide ((r.den : Int) ≥ 1) && decide (((Nat.gcd r.num.natAbs (r.den : Int).natAbs : Nat) : Int) = 1)) && (decide (0 ≤ r.num) && decide (r.num ≤ (r.den : Int)))) = true
    rw [Int.natAbs_natCast, hr, decide_eq_true h1, decide_eq_true h2, decide_eq_true (show (r.den : Int) ≥ 1 by omega)]
    rfl
  | limit c =>
    show (decide (0 ≤ c) && decide (c ≤ 1000)) = true
    rw [decide_eq_true h.1, decide_eq_true h.2]; rfl
  | band b c =>
    obtain ⟨h1, h2, h3⟩ := h
    show ((decide (0 ≤ b) && decide (b ≤ 1000)) && ((decide (0 ≤ c) && decide (c ≤ 1000)) && decide (b ≤ c))) = true
    rw [decide_eq_true h1, decide_eq_true h2, decide_eq_true h3, decide_eq_true (show b ≤ 1000 by omega), decide_eq_true (show 0 ≤ c by omega)]; rfl
theorem layP_v {p0 p1 p2 p3 p4 p5 p6 p7 : Int} (h : PB p0 p1 p2 p3 p4 p5 p6 p7) : LayV (layP p0 p1 p2 p3 p4 p5 p6 p7) := by
  obtain ⟨t1, t2⟩ := tb_bd h
  have hk := layP_ok h
  unfold layP at *
  split at hk
  · rename_i c
    rw [if_pos c]
    exact ⟨hk.1, hk.2.1⟩
  · rename_i c
    rw [if_neg c]
    obtain ⟨b0, b1, b2, b3, b4, b5, b6, b7⟩ := h
    split
    · show 0 ≤ _ ∧ _ ≤ (1000 : Int)
      split
      · omega
      · split <;> omega
    · have k1 : 0 ≤ (if p5 = 0 then p6 else p3) ∧ (if p5 = 0 then p6 else p3) ≤ 1000 := by split <;> omega
      have k2 : 0 ≤ (if p5 = 0 then p7 else p4) ∧ (if p5 = 0 then p7 else p4) ≤ 1000 := by split <;> omega
      generalize (if p5 = 0 then p6 else p3) = u at k1 ⊢
      generalize (if p5 = 0 then p7 else p4) = v at k2 ⊢
      show 0 ≤ mn u v ∧ mn u v ≤ mx u v ∧ mx u v ≤ 1000
      unfold mn mx
      split <;> split <;> omega
structure TrV (t : Tr) : Prop where
  ls : ∀ l ∈ t.ls, LayV l
  few : t.ls.length ≤ 4
  prem : 0 ≤ t.prem ∧ t.prem ≤ 1000
theorem trF_v {cell most : Int} (h : 0 < most) (h2 : most ≤ 1001) : TrV (trF cell most) := by
  have hD := drT (cell := cell) h
  obtain ⟨x0, e0, a0, b0⟩ := hD.d0
  obtain ⟨x1, e1, a1, b1⟩ := hD.d1
  have g0 : (drawsF cell (limsT most)).getD 0 0 = x0 := by rw [List.getD_eq_getElem?_getD, e0]; rfl
  have g1 : (drawsF cell (limsT most)).getD 1 0 = x1 := by rw [List.getD_eq_getElem?_getD, e1]; rfl
  refine ⟨fun l hl => ?_, ?_, ?_⟩
  · obtain ⟨k, hk, rfl⟩ := List.mem_map.mp hl
    rw [List.mem_range, g1] at hk
    exact layP_v (hD.pb (by omega))
  · show ((List.range _).map _).length ≤ 4
    rw [List.length_map, List.length_range, g1]; omega
  · show 0 ≤ (drawsF cell (limsT most)).getD 0 0 ∧ (drawsF cell (limsT most)).getD 0 0 ≤ 1000
    rw [g0]; omega
theorem rawT_ok {t : Tr} (h : TrV t) : trB (rawT t) = true := by
  show ((decide (0 ≤ t.prem) && decide (t.prem ≤ 1000)) && (decide ((t.ls.map rawL).length ≤ 4) && (t.ls.map rawL).all lyB)) = true
  have hf := h.few
  rw [decide_eq_true h.prem.1, decide_eq_true h.prem.2, List.length_map, decide_eq_true hf]
  have : (t.ls.map rawL).all lyB = true := by
    rw [List.all_map, List.all_eq_true]
    exact fun l hl => rawL_ok (h.ls l hl)
  rw [this]; rfl
/-! ### showing -/
structure Sb (n k : Nat) (d : PyData) : Prop where
  lv : d.leavesShort 2000 = true
  sh : d.showable = true
  nd : d.hasDict = false
  dp : d.depth ≤ n
  bk : d.bulk ≤ k
structure Sbs (n k : Nat) (ds : List PyData) : Prop where
  lv : PyData.leavesShortAll 2000 ds = true
  sh : PyData.showableAll ds = true
  nd : PyData.hasDictAll ds = false
  dp : PyData.depthAll ds ≤ n
  bk : PyData.bulkAll ds ≤ k
theorem Sb.mono {n k n' k' : Nat} {d : PyData} (h : Sb n k d) (h1 : n ≤ n') (h2 : k ≤ k') : Sb n' k' d := ⟨h.lv, h.sh, h.nd, Nat.le_trans h.dp h1, Nat.le_trans h.bk h2⟩
theorem Sbs.mono {n k n' k' : Nat} {d : List PyData} (h : Sbs n k d) (h1 : n ≤ n') (h2 : k ≤ k') : Sbs n' k' d := ⟨h.lv, h.sh, h.nd, Nat.le_trans h.dp h1, Nat.le_trans h.bk h2⟩
theorem sbs_nil {n : Nat} : Sbs n 0 [] := ⟨by simp [PyData.leavesShortAll], by simp [PyData.showableAll], by simp [PyData.hasDictAll], by simp [PyData.depthAll], by simp [PyData.bulkAll]⟩
theorem sbs_cons {n k j : Nat} {d : PyData} {ds : List PyData} (h : Sb n k d) (hs : Sbs n j ds) : Sbs n (k + 1 + j) (d :: ds) := by
  refine ⟨?_, ?_, ?_, ?_, ?_⟩
  · simp only [PyData.leavesShortAll, h.lv, hs.lv, Bool.and_true]
  · simp only [PyData.showableAll, h.sh, hs.sh, Bool.and_true]
  · simp only [PyData.hasDictAll, h.nd, hs.nd, Bool.or_false]
  · have := h.dp; have := hs.dp; simp only [PyData.depthAll]; omega
  · have := h.bk; have := hs.bk; simp only [PyData.bulkAll]; omega
theorem sb_int {x : Int} (h : Bt 1900 x) : Sb 0 0 (.int x) := ⟨(leaf_int h).1, (leaf_int h).2, by simp [PyData.hasDict], by simp [PyData.depth], by simp [PyData.bulk]⟩
theorem sb_str {x : Str} {k : Nat} (h : (x.cps.toList.all fun c => decide (c < 16 ^ 8)) = true) (hk : x.cps.size ≤ k) : Sb 0 k (.str x) := ⟨by simpa only [PyData.leavesShort] using h, by simp [PyData.showable], by simp [PyData.hasDict], by simp [PyData.depth], by simpa [PyData.bulk] using hk⟩
theorem sb_lst {n k : Nat} {ds : List PyData} (h : Sbs n k ds) : Sb (n + 1) k (.list ds) := ⟨by simpa only [PyData.leavesShort] using h.lv, by simpa only [PyData.showable] using h.sh, by simpa only [PyData.hasDict] using h.nd, by have := h.dp; simp only [PyData.depth]; omega, by simpa only [PyData.bulk] using h.bk⟩
theorem sb_tup {n k : Nat} {ds : List PyData} (h : Sbs n k ds) : Sb (n + 1) k (.tuple ds) := ⟨by simpa only [PyData.leavesShort] using h.lv, by simpa only [PyData.showable] using h.sh, by simpa only [PyData.hasDict] using h.nd, by have := h.dp; simp only [PyData.depth]; omega, by simpa only [PyData.bulk] using h.bk⟩
theorem sbs_map {α : Type} {n k : Nat} {f : α → PyData} : ∀ {xs : List α}, (∀ x ∈ xs, Sb n k (f x)) → Sbs n ((k + 1) * xs.length) (xs.map f)
  | [], _ => sbs_nil
  | x :: xs, h => by
    have := sbs_cons (h x (List.mem_cons_self)) (sbs_map fun y hy => h y (List.mem_cons_of_mem _ hy))
    rw [List.map_cons]
    exact this.mono (Nat.le_refl _) (by rw [List.length_cons, Nat.mul_succ]; omega)
theorem sb_shw {n k : Nat} {d : PyData} (h : Sb n k d) (hn : n ≤ 60) (hk : k ≤ 5000) (hs : (∃ ds, d = .list ds) ∨ ∃ ds, d = .tuple ds) : Shw d := shw_of h.lv h.sh h.nd (Nat.le_trans h.dp hn) (Nat.le_trans h.bk hk) hs
def PtE : Pt → Prop
  | .i x => Bt 1900 x
  | .f t l => Bt 1900 t ∧ Bt 1900 l
def WOk (w : Str) : Prop := (w.cps.toList.all fun c => decide (c < 16 ^ 8)) = true ∧ w.cps.size ≤ 10
theorem w_share : WOk "share" := ⟨by decide +kernel, by decide +kernel⟩
theorem w_limit : WOk "limit" := ⟨by decide +kernel, by decide +kernel⟩
theorem w_band : WOk "band" := ⟨by decide +kernel, by decide +kernel⟩
structure RLE (l : RL) : Prop where
  w : WOk l.w
  few : l.ps.length ≤ 4
  ps : ∀ p ∈ l.ps, PtE p
theorem sb_P {p : Pt} (h : PtE p) : Sb 1 2 (encP p) := by
  cases p with
  | i x => exact (sb_int h).mono (by decide) (by decide)
  | f t l => exact (sb_tup (sbs_cons (sb_int h.1) (sbs_cons (sb_int h.2) sbs_nil))).mono (by decide) (by decide)
theorem sb_R {l : RL} (h : RLE l) : Sb 2 30 (encR l) := by
  have h2 := sbs_map (f := encP) fun p hp => sb_P (h.ps p hp)
  have h3 := h.few
  exact sb_tup ((sbs_cons ((sb_str h.w.1 h.w.2).mono (by decide) (Nat.le_refl _)) h2).mono (Nat.le_refl _) (by omega))
theorem shw_RT {t : RT} (hp : Bt 1900 t.price) (h : ∀ l ∈ t.ls, RLE l) (hl : t.ls.length ≤ 20) : Shw (encRT t) := by
  have h2 := sbs_map (f := encR) fun l hl => sb_R (h l hl)
  have h3 : Sb 3 1000 (.list (t.ls.map encR)) := (sb_lst h2).mono (by decide) (by omega)
  exact sb_shw (sb_tup (sbs_cons ((sb_int hp).mono (by decide) (Nat.le_refl _)) (sbs_cons h3 sbs_nil))) (by decide) (by decide) (.inr ⟨_, rfl⟩)
theorem rawL_e {l : Lay} (h : LayOk l) : RLE (rawL l) := by
  have big : ∀ {x : Int}, 0 ≤ x → x ≤ 1000000 → Bt 1900 x := fun h0 h1 => Bt.mono (n := 30) (bt_range (by omega) (by omega)) (by decide)
  cases l with
  | share r =>
    obtain ⟨_, _, hq⟩ := h
    exact ⟨w_share, by show 1 ≤ 4; decide, fun p hp => by
      rw [show (rawL (.share r)).ps = [.f r.num r.den] from rfl, List.mem_singleton] at hp; rw [hp]; exact ⟨hq.num.mono (by decide), hq.den.mono (by decide)⟩⟩
  | limit c => exact ⟨w_limit, by show 1 ≤ 4; decide, fun p hp => by
      rw [show (rawL (.limit c)).ps = [.i c] from rfl, List.mem_singleton] at hp; rw [hp]; exact big h.1 h.2⟩
  | band b c =>
    obtain ⟨h1, h2, h3⟩ := h
    exact ⟨w_band, by show 2 ≤ 4; decide, fun p hp => by
      rw [show (rawL (.band b c)).ps = [.i b, .i c] from rfl] at hp
      simp only [List.mem_cons, List.not_mem_nil, or_false] at hp
      rcases hp with e | e <;> rw [e]
      · exact big h1 (by omega)
      · exact big (by omega) h3⟩
end MX

namespace MX
open PySem L2 DL
/-! ### houses -/
structure Wt where
  prem : Int
  lines : List Spr
  turns : Spr
structure Hs where
  ws : List Wt
  ts : List Tr
abbrev encW (w : Wt) : PyData := .tuple [.int w.prem, .list (w.lines.map encS), encS w.turns]
abbrev encH (h : Hs) : PyData := .tuple [.list (h.ws.map encW), .list (h.ts.map encT)]
/-- a spread of at most m values from lo on, below hi -/
structure SpG (lo hi : Int) (m : Nat) (s : Spr) : Prop where
  ty : Ty 46 s
  can : Can s
  pos : ∀ p ∈ s, 0 < p.2
  mass : mass s = 1
  len : s.length ≤ m
  val : ∀ p ∈ s, lo ≤ p.1 ∧ p.1 < hi
theorem spg_of {n : Nat} {low width : Int} (h : SprOk n width) (hl : -1000000 ≤ low ∧ low ≤ 1000000) (cell : Int) (hf : (sprF cell n low width).length ≤ n) : SpG low (low + width) n (sprF cell n low width) :=
  ⟨ty_spr h hl cell, gat_can _, spr_gt h cell, spr_mass h cell, hf, spr_in h cell⟩
structure WtOk (n : Int) (w : Wt) : Prop where
  prem : 0 ≤ w.prem ∧ w.prem ≤ 1000
  few : w.lines.length ≤ 3
  lines : ∀ s ∈ w.lines, SpG 0 1001 3 s
  turns : SpG 0 n 2 w.turns
structure HsOk (h : Hs) : Prop where
  nw : 1 ≤ h.ws.length ∧ h.ws.length ≤ 4
  nt : 1 ≤ h.ts.length ∧ h.ts.length ≤ 4
  ws : ∀ w ∈ h.ws, WtOk h.ws.length w
  ts : ∀ t ∈ h.ts, TrOk t ∧ TrV t
theorem sb_S {lo hi : Int} {m : Nat} {s : Spr} (h : SpG lo hi m s) (hm : m ≤ 50) : Sb 3 (6 * m) (encS s) := by
  have h2 := sbs_map (n := 2) (k := 5) (f := encI) (xs := s) fun p hp =>
    (sb_tup (sbs_cons ((sb_int ((h.ty.v p hp).mono (by decide : 46 ≤ 1900))).mono (by decide) (Nat.le_refl _)) (sbs_cons (sb_tup (sbs_cons (sb_int ((h.ty.qb p hp).num.mono (by decide : 46 ≤ 1900))) (sbs_cons (sb_int ((h.ty.qb p hp).den.mono (by decide : 46 ≤ 1900))) sbs_nil))) sbs_nil))).mono (by decide) (by decide)
  have := h.len
  exact (sb_lst h2).mono (by decide) (by omega)
theorem sb_W {n : Int} {w : Wt} (h : WtOk n w) : Sb 5 80 (encW w) := by
  have h1 : Sbs 3 ((6 * 3 + 1) * w.lines.length) (w.lines.map encS) := sbs_map fun s hs => sb_S (h.lines s hs) (by decide)
  have h2 := sb_S h.turns (by decide)
  have hf := h.few
  have hb : Bt 1900 w.prem := Bt.mono (n := 30) (bt_range (by have := h.prem; omega) (by have := h.prem; omega)) (by decide)
  exact (sb_tup (sbs_cons ((sb_int hb).mono (by decide) (Nat.le_refl _)) (sbs_cons ((sb_lst h1).mono (Nat.le_refl 4) (by omega : _ ≤ 57)) (sbs_cons (h2.mono (by decide) (Nat.le_refl _)) sbs_nil)))).mono (by decide) (by decide)
theorem sb_T {t : Tr} (h : TrOk t) : Sb 4 400 (encT t) := by
  rw [rawT_enc]
  have h2 : Sbs 2 ((30 + 1) * (t.ls.map rawL).length) ((t.ls.map rawL).map encR) := sbs_map fun l hl => by
    obtain ⟨x, hx, rfl⟩ := List.mem_map.mp hl
    exact sb_R (rawL_e (h.ok x hx))
  rw [List.length_map] at h2
  have hf := h.few
  exact (sb_tup (sbs_cons ((sb_int (h.prem.mono (by decide : 60 ≤ 1900))).mono (by decide) (Nat.le_refl _)) (sbs_cons ((sb_lst h2).mono (Nat.le_refl 3) (by omega : _ ≤ 310)) sbs_nil))).mono (by decide) (by decide)
theorem sb_H {h : Hs} (ok : HsOk h) : Sb 7 2000 (encH h) := by
  have h1 : Sbs 5 ((80 + 1) * h.ws.length) (h.ws.map encW) := sbs_map fun w hw => sb_W (ok.ws w hw)
  have h2 : Sbs 4 ((400 + 1) * h.ts.length) (h.ts.map encT) := sbs_map fun t ht => sb_T (ok.ts t ht).1
  have := ok.nw
  have := ok.nt
  exact (sb_tup (sbs_cons ((sb_lst h1).mono (Nat.le_refl 6) (by omega : _ ≤ 324)) (sbs_cons ((sb_lst h2).mono (by decide : 5 ≤ 6) (by omega : _ ≤ 1604)) sbs_nil))).mono (by decide) (by decide)
theorem shw_H {h : Hs} (ok : HsOk h) : Shw (encH h) := sb_shw (sb_H ok) (by decide) (by decide) (.inr ⟨_, rfl⟩)
/-! ### the law's houses -/
structure HA where
  cell : Int
  more : Int
  places : Int
  lines : Int
  wide : Int
structure HAOk (a : HA) : Prop where
  places : 1 ≤ a.places ∧ a.places ≤ 4
  lines : 1 ≤ a.lines ∧ a.lines ≤ 4
  wide : a.wide = 0 ∨ a.wide = 1
def szF (wide : Int) : Int := if wide = 0 then 9 else 1001
def pmF (wide : Int) : Int := if wide = 0 then 7 else 1001
def mxF (wide : Int) : Int := if wide = 0 then 4 else 1001
theorem hpick_at {x y wide : Int} (h : wide = 0 ∨ wide = 1) : atI [PyData.int x, PyData.int y] wide = some (.int (if wide = 0 then x else y)) := by
  rcases h with e | e <;> subst e <;> rfl
theorem sz_ok {n : Nat} (hn : 1 ≤ n ∧ n < 64) (wide : Int) : SprOk n (szF wide) := by
  unfold szF
  split
  · exact ⟨hn.1, hn.2, by decide, by decide⟩
  · exact ⟨hn.1, hn.2, by decide, by decide⟩
def limsH (places : Int) : List Int := places :: 4 :: List.replicate 4 1000000000
def limsW (wide lines : Int) : List Int := pmF wide :: lines :: List.replicate 4 1000000000
def partF (a : HA) (k : Nat) : List Int := drawsF (a.more.fdiv ((k : Int) + 1) + 7 * (k : Int)) (limsW a.wide a.lines)
def wtF (a : HA) (count : Int) (k : Nat) : Wt := ⟨(partF a k).getD 0 0, (List.range ((partF a k).getD 1 0).toNat).map fun j => sprF ((partF a k).getD (2 + j) 0) 3 0 (szF a.wide), sprF ((partF a k).getD 5 0) 2 0 count⟩
def countF (a : HA) : Int := 1 + (drawsF a.cell (limsH a.places)).getD 0 0
def houseF (a : HA) : Hs := ⟨(List.range (countF a).toNat).map (wtF a (countF a)), (List.range (1 + (drawsF a.cell (limsH a.places)).getD 1 0).toNat).map fun k => trF ((drawsF a.cell (limsH a.places)).getD (2 + k) 0 + (k : Int)) (mxF a.wide)⟩
theorem rep_at {n i : Nat} (h : i < n) (x : Int) : (List.replicate n x)[i]? = some x := by rw [List.getElem?_replicate, if_pos h]
theorem limsH_at {p : Int} {i : Nat} (h : i < 4) : (limsH p)[2 + i]? = some 1000000000 := by
  rw [show 2 + i = i + 1 + 1 by omega]
  show (List.replicate 4 (1000000000 : Int))[i]? = _
  exact rep_at h _
theorem limsW_at {w l : Int} {i : Nat} (h : i < 4) : (limsW w l)[2 + i]? = some 1000000000 := by
  rw [show 2 + i = i + 1 + 1 by omega]
  show (List.replicate 4 (1000000000 : Int))[i]? = _
  exact rep_at h _
theorem limsH_ok {p : Int} (h : 1 ≤ p ∧ p ≤ 4) : ∀ l ∈ limsH p, 0 < l ∧ l ≤ 1000000000 := fun l hl => by
  rcases List.mem_cons.mp hl with e | hl
  · omega
  · rcases List.mem_cons.mp hl with e | hl
    · omega
    · rw [(List.mem_replicate.mp hl).2]; omega
theorem limsW_ok {w q : Int} (h : 1 ≤ q ∧ q ≤ 4) : ∀ l ∈ limsW w q, 0 < l ∧ l ≤ 1000000000 := fun l hl => by
  rcases List.mem_cons.mp hl with e | hl
  · have : pmF w = 7 ∨ pmF w = 1001 := by unfold pmF; split <;> simp
    omega
  · rcases List.mem_cons.mp hl with e | hl
    · omega
    · rw [(List.mem_replicate.mp hl).2]; omega
theorem getD_draw {cell : Int} {ls : List Int} {i : Nat} {l : Int} (hp : ∀ l ∈ ls, 0 < l) (h : ls[i]? = some l) : (drawsF cell ls)[i]? = some ((drawsF cell ls).getD i 0) ∧ 0 ≤ (drawsF cell ls).getD i 0 ∧ (drawsF cell ls).getD i 0 < l := by
  obtain ⟨x, e, a, b⟩ := drawsF_at cell hp h
  rw [List.getD_eq_getElem?_getD, e, Option.getD_some]
  exact ⟨rfl, a, b⟩
structure PartOk (a : HA) (Q : List Int) : Prop where
  d0 : Q[0]? = some (Q.getD 0 0) ∧ 0 ≤ Q.getD 0 0 ∧ Q.getD 0 0 < pmF a.wide
  d1 : Q[1]? = some (Q.getD 1 0) ∧ 0 ≤ Q.getD 1 0 ∧ Q.getD 1 0 < a.lines
  dj : ∀ j : Nat, j < 4 → Q[2 + j]? = some (Q.getD (2 + j) 0)
theorem part_ok {a : HA} (h : HAOk a) (k : Nat) : PartOk a (partF a k) := by
  have hp : ∀ l ∈ limsW a.wide a.lines, 0 < l := fun l hl => (limsW_ok h.lines l hl).1
  exact ⟨getD_draw hp rfl, getD_draw hp rfl, fun j hj => (getD_draw hp (limsW_at hj)).1⟩
structure HdOk (a : HA) (D : List Int) : Prop where
  d0 : D[0]? = some (D.getD 0 0) ∧ 0 ≤ D.getD 0 0 ∧ D.getD 0 0 < a.places
  d1 : D[1]? = some (D.getD 1 0) ∧ 0 ≤ D.getD 1 0 ∧ D.getD 1 0 < 4
  dj : ∀ j : Nat, j < 4 → D[2 + j]? = some (D.getD (2 + j) 0)
theorem hd_ok {a : HA} (h : HAOk a) : HdOk a (drawsF a.cell (limsH a.places)) := by
  have hp : ∀ l ∈ limsH a.places, 0 < l := fun l hl => (limsH_ok h.places l hl).1
  exact ⟨getD_draw hp rfl, getD_draw hp rfl, fun j hj => (getD_draw hp (limsH_at hj)).1⟩
theorem sp2_ok {n : Int} (h : 1 ≤ n ∧ n ≤ 4) : SprOk 2 n := ⟨by decide, by decide, h.1, by omega⟩
theorem count_bd {a : HA} (h : HAOk a) : 1 ≤ countF a ∧ countF a ≤ 4 := by
  have h1 := (hd_ok h).d0.2
  have h2 := h.places
  show 1 ≤ 1 + (drawsF a.cell (limsH a.places)).getD 0 0 ∧ 1 + (drawsF a.cell (limsH a.places)).getD 0 0 ≤ 4
  omega
theorem sz_le (w : Int) : szF w ≤ 1001 := by unfold szF; split <;> decide
theorem pm_le (w : Int) : pmF w ≤ 1001 := by unfold pmF; split <;> decide
theorem mx_bd (w : Int) : 0 < mxF w ∧ mxF w ≤ 1001 := by unfold mxF; split <;> decide
theorem wtF_ok {a : HA} (h : HAOk a) (k : Nat) : WtOk (countF a) (wtF a (countF a) k) := by
  have hp := part_ok h k
  have hc := count_bd h
  have h3 := pm_le a.wide
  refine ⟨?_, ?_, fun s hs => ?_, ?_⟩
  · have := hp.d0.2
    show 0 ≤ (partF a k).getD 0 0 ∧ (partF a k).getD 0 0 ≤ 1000
    omega
  · show ((List.range ((partF a k).getD 1 0).toNat).map _).length ≤ 3
    have := hp.d1.2
    have := h.lines
    rw [List.length_map, List.length_range]; omega
  · obtain ⟨j, hj, rfl⟩ := List.mem_map.mp hs
    have hz := sz_ok (n := 3) (by decide) a.wide
    have h4 := spg_of (low := 0) hz (by decide) ((partF a k).getD (2 + j) 0) (spr_few hz _)
    exact ⟨h4.ty, h4.can, h4.pos, h4.mass, h4.len, fun p hp => by have := h4.val p hp; have := sz_le a.wide; omega⟩
  · have hz := sp2_ok hc
    have h4 := spg_of (low := 0) hz (by decide) ((partF a k).getD 5 0) (spr_few hz _)
    exact ⟨h4.ty, h4.can, h4.pos, h4.mass, h4.len, fun p hp => by have := h4.val p hp; omega⟩
theorem house_len (a : HA) : (houseF a).ws.length = (countF a).toNat := by
  show ((List.range (countF a).toNat).map _).length = _
  rw [List.length_map, List.length_range]
theorem houseF_ok {a : HA} (h : HAOk a) : HsOk (houseF a) := by
  have hc := count_bd h
  have hl := house_len a
  refine ⟨by omega, ?_, fun w hw => ?_, fun t ht => ?_⟩
  · show 1 ≤ ((List.range _).map _).length ∧ ((List.range _).map _).length ≤ 4
    have := (hd_ok h).d1.2
    rw [List.length_map, List.length_range]; omega
  · obtain ⟨k, _, rfl⟩ := List.mem_map.mp hw
    rw [hl, show (((countF a).toNat : Nat) : Int) = countF a by omega]
    exact wtF_ok h k
  · obtain ⟨k, _, rfl⟩ := List.mem_map.mp ht
    have := mx_bd a.wide
    exact ⟨trF_ok this.1 (by omega), trF_v this.1 this.2⟩
end MX

namespace MX
open PySem L2 DL
theorem sb_shw8 {n k : Nat} {d : PyData} (h : Sb n k d) (hn : n ≤ 60) (hk : k ≤ 8000) (hs : (∃ ds, d = .list ds) ∨ ∃ ds, d = .tuple ds) : Shw d := by
  refine ⟨h.sh, h.nd, Nat.le_trans h.dp hn, ?_, hs⟩
  have h1 := PyData.shown_le_bulk 2000 (by decide) d h.lv
  rw [sizeLine_eq]
  have : (2000 + 2) * d.bulk ≤ 2002 * 8000 := Nat.mul_le_mul_left _ (Nat.le_trans h.bk hk)
  omega
end MX

namespace DL
open PySem L2
theorem run_par {K : PySem.W.Frag} {E : XK} {env : EnvD} {i j : Nat} {ta tb : TE} {d e : D} (ha : EvD K ta env d) (hb : EvD K tb env e) : Run K E (tPar i j (tCons ta (tCons tb tNil))) env (.nx ((env.set i (.dat d)).set j (.dat e))) := fun G0 H0 G H σ D ok q =>
  ea_d ha (ea_d hb ea_nil) G0 H0 G H σ ok _ fun vs G1 H1 a hv => by
    obtain ⟨_, ⟨v, e1, d1⟩, _, ⟨u, e2, d2⟩, ev⟩ : ∃ v1, (∃ v, v1 = v ∧ Dd K G1 v d) ∧ ∃ v2, (∃ v, v2 = v ∧ Dd K G1 v e) ∧ vs = [v1, v2] := by
      cases hv with
      | cons m s r =>
        cases r with
        | cons m2 s2 r2 =>
          cases r2
          obtain ⟨v, e, d⟩ := s
          obtain ⟨v2, e2, d2⟩ := s2
          cases e; cases e2
          exact ⟨_, ⟨_, rfl, d⟩, _, ⟨_, rfl, d2⟩, rfl⟩
    subst e1 e2
    exact ⟨_, _, ev, q G1 H1 _ (((ok.go a).set (s := .dat d) i rfl ⟨_, rfl, d1⟩).set (s := .dat e) j rfl ⟨_, rfl, d2⟩)⟩
end DL
namespace MX
open PySem L2 DL
/-! ### digits -/
def gcel (large : Bool) (base c : Int) : Nat → Int
  | 0 => c
  | k + 1 => if large then (gcel large base c k).fdiv base else gcel large base c k
def gdig (large : Bool) (base c : Int) (k : Nat) : Int :=
  if large then (gcel large base c k).fmod base else ((c * 48271 + ((k : Int) + 1) * ((k : Int) + 5) * 69621 + c.fdiv 97 * (k : Int)).fmod 2147483647).fmod base
theorem gcel_small (base c : Int) : ∀ k, gcel false base c k = c
  | 0 => rfl
  | k + 1 => by unfold gcel; rw [if_neg (by decide)]; exact gcel_small base c k
def largeF (c : Int) : Bool := decide (1000000000000000000 ≤ c)
def digF (c base : Int) (n : Nat) : List Int := (List.range n).map (gdig (largeF c) base c)
theorem digF_len (c base : Int) (n : Nat) : (digF c base n).length = n := by unfold digF; rw [List.length_map, List.length_range]
theorem gdig_bd (large : Bool) {base : Int} (h : 0 < base) (c : Int) (k : Nat) : 0 ≤ gdig large base c k ∧ gdig large base c k < base := by
  unfold gdig
  split
  · exact fmod_bd h
  · exact fmod_bd h
/-- a row of digits below base -/
structure Dig (base : Int) (n : Nat) (D : List Int) : Prop where
  len : D.length = n
  bd : ∀ i : Nat, 0 ≤ D.getD i 0 ∧ D.getD i 0 < base
theorem dig_of {base : Int} (h : 0 < base) (c : Int) (n : Nat) : Dig base n (digF c base n) := ⟨digF_len c base n, fun i => by
  by_cases hi : i < n
  · rw [List.getD_eq_getElem?_getD, show (digF c base n)[i]? = some (gdig (largeF c) base c i) by unfold digF; rw [List.getElem?_map, List.getElem?_range hi]; rfl]
    exact gdig_bd _ h c i
  · rw [List.getD_eq_getElem?_getD, List.getElem?_eq_none (by rw [digF_len]; omega)]
    exact ⟨Int.le_refl _, h⟩⟩
theorem Dig.at {base : Int} {n : Nat} {D : List Int} (h : Dig base n D) {i : Nat} (hi : i < n) : D[i]? = some (D.getD i 0) := by
  rw [List.getD_eq_getElem?_getD, List.getElem?_eq_getElem (by rw [h.len]; exact hi)]; rfl
theorem atI_d {ns : List Int} {i : Int} {n : Nat} {x : Int} (e : i = (n : Int)) (h : ns[n]? = some x) : atI (ns.map PyData.int) i = some (.int x) := by subst e; exact atI_map h
theorem Dig.ix {base : Int} {n : Nat} {D : List Int} (h : Dig base n D) {i : Int} (k : Nat) (e : i = (k : Int)) (hi : k < n) : atI (D.map PyData.int) i = some (.int (D.getD k 0)) := atI_d e (h.at hi)
theorem fm2 {x : Int} {m : Int} (h : 0 < m) : 0 ≤ x.fmod m ∧ x.fmod m < m := fmod_bd h
/-! ### spreads from draws -/
def partD (draw : Int) (k : Nat) : Int := 1 + (draw.fdiv (3 * (k : Int) + 2)).fmod 4
def partsD (draw : Int) (n : Nat) : List Int := (List.range n).map (partD draw)
theorem partD_bd (draw : Int) (k : Nat) : 1 ≤ partD draw k ∧ partD draw k ≤ 4 := by
  have := fm2 (x := draw.fdiv (3 * (k : Int) + 2)) (m := 4) (by decide)
  unfold partD; omega
theorem sum_bd4 : ∀ {l : List Int}, (∀ x ∈ l, 1 ≤ x ∧ x ≤ 4) → (l.length : Int) ≤ l.sum ∧ l.sum ≤ 4 * (l.length : Int)
  | [], _ => by simp
  | x :: l, h => by
    have h1 := h x (List.mem_cons_self)
    have h2 := sum_bd4 (l := l) fun y hy => h y (List.mem_cons_of_mem _ hy)
    rw [List.sum_cons, List.length_cons]; omega
theorem psum_bd (draw : Int) (n : Nat) : (n : Int) ≤ (partsD draw n).sum ∧ (partsD draw n).sum ≤ 4 * (n : Int) := by
  have h := sum_bd4 (l := partsD draw n) fun x hx => by
    obtain ⟨k, _, rfl⟩ := List.mem_map.mp hx
    exact partD_bd draw k
  rw [show (partsD draw n).length = n by unfold partsD; rw [List.length_map, List.length_range]] at h
  exact h
def spD (draw : Int) (vs : List Int) : Spr := (List.range vs.length).map fun k => (vs.getD k 0, Rat.divInt (partD draw k) (partsD draw vs.length).sum)
theorem spD_len (draw : Int) (vs : List Int) : (spD draw vs).length = vs.length := by unfold spD; rw [List.length_map, List.length_range]
/-! ### houses -/
def fullG (S : List Int) : Bool := decide ((S.getD 4 0).fmod 10 = 9)
def greatG (S : List Int) : Bool := decide ((S.getD 4 0).fmod 10 = 8)
def count0 (S : List Int) : Int := if fullG S then 4 else 1 + (S.getD 0 0).fmod 3
def countG (S : List Int) : Int := if greatG S then 1 else count0 S
def nlG (S : List Int) (k : Nat) : Int := if fullG S then 3 - (k : Int).fmod 2 else ((S.getD 1 0).fdiv ((k : Int) + 1)).fmod 3
def dvA (d : Int) : List Int := [d.fmod 2, d.fmod 2 + 1 + (d.fdiv 2).fmod 3]
def dvB (full : Bool) (d : Int) : List Int := if (decide ((d.fdiv 6).fmod 2 = 1) && !full) = true then dvA d ++ [d.fmod 2 + 1 + (d.fdiv 2).fmod 3 + 1 + (d.fdiv 12).fmod 4] else dvA d
def dvC (full great : Bool) (d : Int) (j : Nat) : List Int := if (great && decide ((j : Int) = 0)) = true then dvB full d ++ [20 + d.fmod 41] else dvB full d
def lineG (S D : List Int) (k j : Nat) : Spr := spD (D.getD ((3 * k + j) % 16) 0) (dvC (fullG S) (greatG S) (D.getD ((3 * k + j) % 16) 0) j)
def otherB (count d : Int) (j : Nat) : Bool := decide (0 < (d.fdiv ((j : Int) + 1)).fmod 3) || decide ((j : Int) = d.fmod count)
def othersG (count d : Int) : List Int := (List.range count.toNat).filterMap fun j => if otherB count d j = true then some (j : Int) else none
def prem1 (S : List Int) (k : Nat) : Int := ((S.getD 2 0).fdiv ((k : Int) + 1)).fmod 4
def premG (S : List Int) (k : Nat) : Int := if (S.getD 5 0).fmod 4 = 3 then ((S.getD 2 0).fdiv ((k : Int) + 1)).fmod 25 else prem1 S k
def wtG (S D : List Int) (k : Nat) : Wt := ⟨premG S k, (List.range (nlG S k).toNat).map fun j => lineG S D k j, spD (D.getD (10 + k) 0) (othersG (countG S) (D.getD (10 + k) 0))⟩
def drG (d : Int) : Nat → Int
  | 0 => d
  | j + 1 => drG d j + 7 * (j : Int)
def layG (x : Int) : List Lay :=
  if x.fmod 4 = 1 then [.limit ((x.fdiv 4).fmod 4)] else if x.fmod 4 = 2 then [.share (Rat.divInt ((x.fdiv 4).fmod 4) 3)] else if x.fmod 4 = 3 then [.band ((x.fdiv 4).fmod 3) ((x.fdiv 4).fmod 3 + (x.fdiv 12).fmod 4)] else []
def laysG (d : Int) : Nat → List Lay
  | 0 => []
  | j + 1 => laysG d j ++ layG (drG d (j + 1))
def nyG (full : Bool) (k : Nat) : Int := if (full && decide ((k : Int) = 1)) = true then 4 else 1
def trG (full : Bool) (d : Int) (k : Nat) : Tr := ⟨((drG d (nyG full k).toNat).fdiv 48).fmod 3, laysG d (nyG full k).toNat⟩
def ntG (S : List Int) : Int := if fullG S then 4 else 1 + (S.getD 3 0).fmod 3
def trs1 (S D : List Int) : List Tr := (List.range (ntG S).toNat).map fun k => trG (fullG S) (D.getD ((13 + k) % 16) 0) k
def trs2 (S D : List Int) : List Tr := if fullG S then (trs1 S D).set 3 ⟨0, (trG true (D.getD 0 0) 3).ls⟩ else trs1 S D
def hsG (S D : List Int) : Hs := ⟨(List.range (countG S).toNat).map (wtG S D), trs2 S D⟩
def houseG (first second : Int) : Hs := hsG (digF first 2520 8) (digF second 27720 16)
theorem countG_bd (S : List Int) : 1 ≤ countG S ∧ countG S ≤ 4 := by
  have := fm2 (x := S.getD 0 0) (m := 3) (by decide)
  unfold countG count0; split <;> (try split) <;> omega
theorem ntG_bd (S : List Int) : 1 ≤ ntG S ∧ ntG S ≤ 4 := by
  have := fm2 (x := S.getD 3 0) (m := 3) (by decide)
  unfold ntG; split <;> omega
theorem nlG_bd (S : List Int) (k : Nat) : 0 ≤ nlG S k ∧ nlG S k ≤ 3 := by
  have := fm2 (x := (k : Int)) (m := 2) (by decide)
  have := fm2 (x := (S.getD 1 0).fdiv ((k : Int) + 1)) (m := 3) (by decide)
  unfold nlG; split <;> omega
theorem nyG_bd (full : Bool) (k : Nat) : 1 ≤ nyG full k ∧ nyG full k ≤ 4 := by unfold nyG; split <;> omega
theorem layG_len (x : Int) : (layG x).length ≤ 1 := by unfold layG; split <;> (try split) <;> (try split) <;> simp
theorem laysG_len (d : Int) : ∀ m, (laysG d m).length ≤ m
  | 0 => Nat.le_refl _
  | m + 1 => by
    have := laysG_len d m
    have := layG_len (drG d (m + 1))
    unfold laysG; rw [List.length_append]; omega
theorem othersG_len (c d : Int) (hc : c ≤ 4) : (othersG c d).length ≤ 4 := Nat.le_trans (List.length_filterMap_le _ _) (by rw [List.length_range]; omega)
theorem dvB_len (full : Bool) (d : Int) : 2 ≤ (dvB full d).length ∧ (dvB full d).length ≤ 3 := by unfold dvB dvA; split <;> simp
theorem dvC_len (full great : Bool) (d : Int) (j : Nat) : 2 ≤ (dvC full great d j).length ∧ (dvC full great d j).length ≤ 4 := by
  have := dvB_len full d
  unfold dvC; split
  · rw [List.length_append]; simp only [List.length_singleton]; omega
  · omega
end MX

namespace DL
open PySem L2
variable {K : PySem.W.Frag} {E : XK} {env : EnvD}
theorem take_flat {α : Type} {zss : List (List α)} {i : Nat} {zs : List α} (h : zss[i]? = some zs) : (zss.take (i + 1)).flatten = (zss.take i).flatten ++ zs := by
  rw [List.take_add_one, h, Option.toList_some, List.flatten_append, List.flatten_singleton]
theorem flat_le {α : Type} {zss : List (List α)} {i : Nat} {zs : List α} (h : zss[i]? = some zs) : (zss.take i).flatten.length + zs.length ≤ zss.flatten.length := by
  have e : zss.flatten = (zss.take (i + 1)).flatten ++ (zss.drop (i + 1)).flatten := by rw [← List.flatten_append, List.take_append_drop]
  rw [e, List.length_append, take_flat h, List.length_append]; omega
/-- [e for x in xs for y in ys], the targets names -/
theorem en_lc2 {wi wi1 : TI} {te : TE} {vs vs1 : List Nat} {t t1 : Nat} {ds : List D} (zss : List (List D)) (hi : EvI K wi env ds) (ht : t ∈ vs) (ht1 : t1 ∈ vs1) (hl : zss.length = ds.length)
    (h : ∀ (i : Nat) (d : D) (zs : List D), ds[i]? = some d → zss[i]? = some zs → ∃ es : List D, EvI K wi1 ((wipeD env vs).set t (.dat d)) es ∧ es.length = zs.length ∧ ∀ (j : Nat) (e z : D), es[j]? = some e → zs[j]? = some z → EvD K te ((wipeD ((wipeD env vs).set t (.dat d)) vs1).set t1 (.dat e)) z)
    (hlen : zss.flatten.length ≤ 10000000) : EvN K (tLc2 wi (gName t) tYes wi1 (gName t1) tYes te vs vs1) env zss.flatten := fun G0 H0 G H σ ok Q q =>
  hi G0 H0 G H σ ok _ fun J G1 H1 a wk Dl hD => by
    have fr1 : Fw G H G1 (upd H1 Dl (.lst [])) := a.trans (Fw.hid a.gh hD)
    have hDH : H Dl = none := a.hh.free hD
    refine ⟨fun i m H2 => i + m = ds.length ∧ ∃ (G2 : Hp) (acc : List V), Same G1 G2 ∧ Fw G H G2 H2 ∧ G2 Dl = none ∧ H2 Dl = some (.lst acc) ∧ Dds K G2 acc (zss.take i).flatten, ⟨ds.length, Nat.zero_add _, G1, [], Same.refl _, fr1, a.gh.free hD, upd_same, .nil⟩, ?_⟩
    rintro i m H2 ⟨him, G2, acc, g12, f2, gD, hDl, hacc⟩
    by_cases hlt : i < ds.length
    · have hd := List.getElem?_eq_getElem hlt
      have hzs : zss[i]? = some zss[i] := List.getElem?_eq_getElem (by omega)
      generalize zss[i] = zs at hzs
      obtain ⟨es, hi1, hel, hte⟩ := h i _ _ hd hzs
      obtain ⟨hgo, hy⟩ := wk.go i _ G2 H2 hd g12 f2.gh
      refine .inr ⟨hgo, fun H' => ∃ (G3 : Hp) (acc : List V), Same G1 G3 ∧ Fw G H G3 H' ∧ G3 Dl = none ∧ H' Dl = some (.lst acc) ∧ Dds K G3 acc (zss.take (i + 1)).flatten, fun H' hN => ⟨m - 1, by omega, by omega, hN⟩, fun x H3 hx => ?_⟩
      obtain ⟨G3, a3, hx3⟩ := hy x H3 hx
      have f3 := f2.trans a3
      have hDne : H2 Dl ≠ none := by rw [hDl]; simp
      have ok2 : ∀ {G' H' : Hp}, Fw G H G' H' → Dd K G' x ds[i] → Ok K G0 H0 G' H' ((L2.wipe σ vs).set t (some x)) ((wipeD env vs).set t (.dat ds[i])) := fun f hx => ((ok.go f).wipe vs).set (s := .dat ds[i]) t rfl ⟨x, rfl, hx⟩
      refine ⟨wipe_sets (ts := [t]) (Sets.set (by simp)) (fun i hi => by rw [List.mem_singleton.mp hi]; exact ht), ?_⟩
      refine hi1 G0 H0 G3 H3 _ (ok2 f3 hx3) _ fun J1 G5 H5 a5 wk1 => ?_
      have f5 := f3.trans a5
      refine ⟨fun j k H6 => j + k = es.length ∧ ∃ (G6 : Hp) (acc : List V), Same G5 G6 ∧ Fw G H G6 H6 ∧ G6 Dl = none ∧ H6 Dl = some (.lst acc) ∧ Dds K G6 acc ((zss.take i).flatten ++ zs.take j), ⟨es.length, Nat.zero_add _, G5, acc, Same.refl _, f5, (a3.trans a5).fr Dl hDne gD, (a3.trans a5).hh _ _ hDl, by rw [List.take_zero, List.append_nil]; exact hacc.mono (a3.trans a5).gg⟩, ?_⟩
      rintro j k H6 ⟨hjk, G6, acc6, g56, f6, gD6, hDl6, hacc6⟩
      by_cases hj : j < es.length
      · have he := List.getElem?_eq_getElem hj
        have hz : zs[j]? = some (zs[j]'(by omega)) := List.getElem?_eq_getElem (by omega)
        generalize zs[j]'(by omega) = z at hz
        obtain ⟨hgo1, hy1⟩ := wk1.go j _ G6 H6 he g56 f6.gh
        refine .inr ⟨hgo1, fun H' => ∃ (G7 : Hp) (acc : List V), Same G5 G7 ∧ Fw G H G7 H' ∧ G7 Dl = none ∧ H' Dl = some (.lst acc) ∧ Dds K G7 acc ((zss.take i).flatten ++ zs.take (j + 1)), fun H' hN => ⟨k - 1, by omega, by omega, hN⟩, fun y H7 hy7 => ?_⟩
        obtain ⟨G7, a7, hy7⟩ := hy1 y H7 hy7
        have f7 := f6.trans a7
        refine ⟨wipe_sets (ts := [t1]) (Sets.set (by simp)) (fun i hi => by rw [List.mem_singleton.mp hi]; exact ht1), ?_⟩
        refine hte j _ _ he hz G0 H0 G7 H7 _ (((ok2 f7 (hx3.mono ((a5.gg.trans g56).trans a7.gg))).wipe vs1).set (s := .dat es[j]) t1 rfl ⟨y, rfl, hy7⟩) _ fun u G8 H8 a8 hu => ?_
        have a68 := a7.trans a8
        have hne6 : H6 Dl ≠ none := by rw [hDl6]; simp
        have g8 : G8 Dl = none := a68.fr Dl hne6 gD6
        refine ⟨acc6, a68.hh _ _ hDl6, ?_, G8, acc6 ++ [u], g56.trans a68.gg, ⟨(f6.trans a68).gg, same_upd2 a68.gh g8, fun b o e => by rw [upd_ne (ne_of_none e hDH)]; exact (f6.trans a68).hh _ _ e, (f6.trans a68).fr⟩, g8, upd_same, ?_⟩
        · have := flat_le hzs
          rw [hacc6.len, List.length_append, List.length_take, sizeLine_eq]; omega
        · rw [List.take_add_one, hz, Option.toList_some, ← List.append_assoc]
          exact (hacc6.mono a68.gg).append (.cons hu .nil)
      · have e : j = es.length := by omega
        subst e
        refine .inl ⟨wk1.stop G6 H6 g56 f6.gh, G6, acc6, (g12.trans (a3.trans a5).gg).trans g56, f6, gD6, hDl6, ?_⟩
        rw [hel, List.take_length] at hacc6
        rw [take_flat hzs]; exact hacc6
    · have e : i = ds.length := by omega
      subst e
      rw [← hl, List.take_length] at hacc
      exact .inl ⟨wk.stop G2 H2 g12 f2.gh, q Dl acc G2 H2 f2 hDH gD hDl hacc⟩
/-- [list(x) for x in xs], of which the item w stays hidden -/
theorem lc_hole {wi : TI} {te : TE} {vs : List Nat} {t w : Nat} {ds : List D} {zss : List (List D)} {zw : List D} (hw : zss[w]? = some zw) (hi : EvI K wi env ds) (ht : t ∈ vs) (hl : zss.length = ds.length)
    (h : ∀ (i : Nat) (d : D) (zs : List D), ds[i]? = some d → zss[i]? = some zs → EvN K te ((wipeD env vs).set t (.dat d)) zs) (hlen : ds.length ≤ 10000000)
    {G0 H0 G H : Hp} {σ : L2.St} (ok : Ok K G0 H0 G H σ env) {Q : VK}
    (q : ∀ (Dl p : Addr) (a1 a2 xs : List V) (G' H' : Hp), Fw G H G' H' → H Dl = none → G' Dl = none → H' Dl = some (.lst (a1 ++ .ref p :: a2)) → p ≠ Dl → H p = none → G' p = none → H' p = some (.lst xs) → Dds K G' xs zw → Dds K G' a1 ((zss.take w).map PyData.list) → Dds K G' a2 ((zss.drop (w + 1)).map PyData.list) → Q (.ref Dl) H') :
    tLc wi (gName t) tYes te vs σ H Q :=
  hi G0 H0 G H σ ok _ fun J G1 H1 a wk Dl hD => by
    have fr1 : Fw G H G1 (upd H1 Dl (.lst [])) := a.trans (Fw.hid a.gh hD)
    have hDH : H Dl = none := a.hh.free hD
    let St : Nat → Hp → Hp → List V → Prop := fun i G2 H2 acc => (i ≤ w ∧ Dds K G2 acc ((zss.take i).map PyData.list)) ∨ (w < i ∧ ∃ (p : Addr) (a1 a2 xs : List V), acc = a1 ++ .ref p :: a2 ∧ p ≠ Dl ∧ H p = none ∧ G2 p = none ∧ H2 p = some (.lst xs) ∧ Dds K G2 xs zw ∧ Dds K G2 a1 ((zss.take w).map PyData.list) ∧ Dds K G2 a2 (((zss.take i).drop (w + 1)).map PyData.list))
    refine ⟨fun i m H2 => i + m = ds.length ∧ ∃ (G2 : Hp) (acc : List V), Same G1 G2 ∧ Fw G H G2 H2 ∧ G2 Dl = none ∧ H2 Dl = some (.lst acc) ∧ acc.length = i ∧ St i G2 H2 acc, ⟨ds.length, Nat.zero_add _, G1, [], Same.refl _, fr1, a.gh.free hD, upd_same, rfl, .inl ⟨Nat.zero_le _, .nil⟩⟩, ?_⟩
    rintro i m H2 ⟨him, G2, acc, g12, f2, gD, hDl, hal, hst⟩
    by_cases hlt : i < ds.length
    · have hd := List.getElem?_eq_getElem hlt
      have hzs : zss[i]? = some zss[i] := List.getElem?_eq_getElem (by omega)
      generalize zss[i] = zs at hzs
      obtain ⟨hgo, hy⟩ := wk.go i _ G2 H2 hd g12 f2.gh
      refine .inr ⟨hgo, fun H' => ∃ (G3 : Hp) (acc : List V), Same G1 G3 ∧ Fw G H G3 H' ∧ G3 Dl = none ∧ H' Dl = some (.lst acc) ∧ acc.length = i + 1 ∧ St (i + 1) G3 H' acc, fun H' hN => ⟨m - 1, by omega, by omega, hN⟩, fun x H3 hx => ?_⟩
      obtain ⟨G3, a3, hx3⟩ := hy x H3 hx
      have f3 := f2.trans a3
      have hDne : H2 Dl ≠ none := by rw [hDl]; simp
      refine ⟨wipe_sets (ts := [t]) (Sets.set (by simp)) (fun i hi => by rw [List.mem_singleton.mp hi]; exact ht), ?_⟩
      refine h i _ _ hd hzs G0 H0 G3 H3 _ (((ok.go f3).wipe vs).set (s := .dat ds[i]) t rfl ⟨x, rfl, hx3⟩) _ fun p' xs' G6 H6 a6 hp0 gp hp hdd => ?_
      have a36 := a3.trans a6
      have g6 : G6 Dl = none := a36.fr Dl hDne gD
      have hD6 : H6 Dl = some (.lst acc) := a36.hh _ _ hDl
      have hpD : p' ≠ Dl := fun z => by rw [z] at hp0; have := a3.hh _ _ hDl; rw [this] at hp0; cases hp0
      have hp2 : H2 p' = none := a3.hh.free hp0
      have hpH : H p' = none := f2.hh.free hp2
      have hsz : acc.length < sizeLine := by rw [hal, sizeLine_eq]; omega
      have updD : ∀ {G7 : Hp}, Fw G H G7 H6 → G7 Dl = none → Fw G H G7 (upd H6 Dl (.lst (acc ++ [.ref p']))) := fun f7 g7 => ⟨f7.gg, same_upd2 f7.gh g7, fun b o e => by rw [upd_ne (ne_of_none e hDH)]; exact f7.hh _ _ e, f7.fr⟩
      have f6 := f2.trans a36
      -- publishing the new list
      have fp : Fw G2 H2 (upd G6 p' (.lst xs')) H6 := Fw.pub a36 hp2 hp gp
      have gpD : (upd G6 p' (.lst xs')) Dl = none := by rw [upd_ne (Ne.symm hpD)]; exact g6
      have dp : Dd K (upd G6 p' (.lst xs')) (.ref p') (.list zs) := .lst upd_same (hdd.mono (same_upd gp))
      rcases hst with ⟨hiw, hacc⟩ | ⟨hiw, p, a1, a2, xs, eacc, hpd, hpn, gpn, hpx, hxs, ha1, ha2⟩
      · by_cases e : i = w
        · -- the item w
          subst e
          rw [hw] at hzs
          cases hzs
          refine ⟨acc, hD6, hsz, G6, acc ++ [.ref p'], g12.trans a36.gg, updD f6 g6, g6, upd_same, by rw [List.length_append, hal]; rfl, .inr ⟨by omega, p', acc, [], xs', rfl, hpD, hpH, gp, by rw [upd_ne hpD]; exact hp, hdd, hacc.mono a36.gg, ?_⟩⟩
          rw [List.drop_eq_nil_of_le (by rw [List.length_take]; omega)]
          exact .nil
        · refine ⟨acc, hD6, hsz, upd G6 p' (.lst xs'), acc ++ [.ref p'], g12.trans fp.gg, updD (f2.trans fp) gpD, gpD, upd_same, by rw [List.length_append, hal]; rfl, .inl ⟨by omega, ?_⟩⟩
          rw [List.take_add_one, hzs, Option.toList_some, List.map_append]
          exact (hacc.mono fp.gg).append (.cons dp .nil)
      · have hpp : p ≠ p' := fun z => by rw [z, hp2] at hpx; cases hpx
        have hpx6 : H6 p = some (.lst xs) := a36.hh _ _ hpx
        have gp7 : (upd G6 p' (.lst xs')) p = none := by rw [upd_ne hpp]; exact a36.fr p (by rw [hpx]; simp) gpn
        refine ⟨acc, hD6, hsz, upd G6 p' (.lst xs'), acc ++ [.ref p'], g12.trans fp.gg, updD (f2.trans fp) gpD, gpD, upd_same, by rw [List.length_append, hal]; rfl, .inr ⟨by omega, p, a1, a2 ++ [.ref p'], xs, by rw [eacc, List.append_assoc]; rfl, hpd, hpn, gp7, by rw [upd_ne hpd]; exact hpx6, hxs.mono fp.gg, ha1.mono fp.gg, ?_⟩⟩
        rw [List.take_add_one, hzs, Option.toList_some, List.drop_append_of_le_length (by rw [List.length_take]; have := (List.getElem?_eq_some_iff.mp hzs).1; omega), List.map_append]
        exact (ha2.mono fp.gg).append (.cons dp .nil)
    · have e : i = ds.length := by omega
      subst e
      have hwl := (List.getElem?_eq_some_iff.mp hw).1
      rcases hst with ⟨hiw, hacc⟩ | ⟨hiw, p, a1, a2, xs, eacc, hpd, hpn, gpn, hpx, hxs, ha1, ha2⟩
      · omega
      · rw [← hl, List.take_length] at ha2
        rw [eacc] at hDl
        exact .inl ⟨wk.stop G2 H2 g12 f2.gh, q Dl p a1 a2 xs G2 H2 f2 hDH gD hDl hpd hpn gpn hpx hxs ha1 ha2⟩
end DL

namespace DL
open PySem L2 MX
variable {K : PySem.W.Frag} {E : XK} {env : EnvD}
abbrev rLstOf (K : PySem.W.Frag) : List V → Hp → VK → Prop := fun xs H Q => ∃ p ys, xs = [.ref p] ∧ (SqL K H p ys ∨ SqT K H p ys) ∧ ∀ l, H l = none → Q (.ref l) (upd H l (.lst ys))
theorem run_seqA {a b rest : TS} {e1 : EnvD} {r : RD} (h : Run K E (tSeq a b) env (.nx e1)) (h' : Run K E rest e1 r) : Run K E (tSeq a (tSeq b rest)) env r := run_seq (t := tSeq a b) h h'
section
variable {wi : TI} {te : TE} {vs : List Nat} {t w L : Nat} {ds : List D} {zss : List (List D)} {zw : List D}
theorem hole_end {G0 H0 G H G1 H1 G3 H3 : Hp} {σ : L2.St} {Dl p : Addr} {a1 a2 ys : List V} {zw' : List D} (ok : Ok K G0 H0 G H σ env) (hLl : L < env.length) (f : Fw G H G1 H1) (a23 : Fw G1 H1 G3 H3) (hDH : H Dl = none) (gD : G1 Dl = none) (hD : H1 Dl = some (.lst (a1 ++ .ref p :: a2))) (hpd : p ≠ Dl) (hpH : H p = none) (gp : G1 p = none) (hp : H1 p ≠ none)
    (hw : w < zss.length) (hys : Dds K G3 ys zw') (h1 : Dds K G1 a1 ((zss.take w).map PyData.list)) (h2 : Dds K G1 a2 ((zss.drop (w + 1)).map PyData.list)) :
    ∃ G5, Ok K G0 H0 G5 (upd H3 p (.lst ys)) (σ.set L (some (.ref Dl))) (env.set L (.ml ((zss.set w zw').map PyData.list))) := by
  have f3 : Fw G H G3 H3 := f.trans a23
  have g3p : G3 p = none := a23.fr p hp gp
  have g3D : G3 Dl = none := a23.fr Dl (by rw [hD]; simp) gD
  have f5 : Fw G H G3 (upd H3 p (.lst ys)) := ⟨f3.gg, same_upd2 f3.gh g3p, fun b o e => by rw [upd_ne (ne_of_none e hpH)]; exact f3.hh _ _ e, f3.fr⟩
  have fp : Fw G H (upd G3 p (.lst ys)) (upd H3 p (.lst ys)) := Fw.pub f5 hpH upd_same g3p
  have mono : Same G1 (upd G3 p (.lst ys)) := a23.gg.trans (same_upd g3p)
  refine ⟨upd G3 p (.lst ys), (ok.go fp).setMut L ⟨Dl, a1 ++ .ref p :: a2, rfl, by rw [upd_ne (Ne.symm hpd)]; exact g3D, by rw [upd_ne (Ne.symm hpd)]; exact a23.hh _ _ hD, ?_⟩ (free0 ok.fw hDH) fun j s l hj hm hs e => (ok.mutAt hj hm hs).2 (by rw [e]; exact hDH)⟩
  rw [List.set_eq_take_append_cons_drop, if_pos hw, List.map_append, List.map_cons]
  exact (h1.mono mono).append (.cons (.lst upd_same (hys.mono (same_upd g3p))) (h2.mono mono))
theorem hole_at {G1 : Hp} {p : Addr} {a1 a2 : List V} (hw : w < zss.length) (h1 : Dds K G1 a1 ((zss.take w).map PyData.list)) : atI (a1 ++ V.ref p :: a2) (w : Int) = some (.ref p) := by
  have e : a1.length = w := by rw [h1.len, List.length_map, List.length_take]; omega
  refine atI_int (by omega) ?_
  rw [Int.toNat_natCast, List.getElem?_append_right (by omega), e, Nat.sub_self]; rfl
/-- name = [list(x) for x in xs]; name[w].append(e) -/
theorem run_nestA {tw te2 : TE} {d : D} (hw : zss[w]? = some zw) (hi : EvI K wi env ds) (ht : t ∈ vs) (hl : zss.length = ds.length)
    (h : ∀ (i : Nat) (d : D) (zs : List D), ds[i]? = some d → zss[i]? = some zs → EvN K te ((wipeD env vs).set t (.dat d)) zs) (hlen : ds.length ≤ 10000000) (hLl : L < env.length)
    (hwi : EvD K tw (env.set L .un) (.int (w : Int))) (hd : EvD K te2 (env.set L .un) d) (hzl : zw.length < 10000000) :
    Run K E (tSeq (tAsg (tLc wi (gName t) tYes te vs) (gName L)) (tDrop (tBM K "list" rAppend (tOp (rIxL K) (tVar L) tw) (tCons te2 tNil)))) env (.nx (env.set L (.ml ((zss.set w (zw ++ [d])).map PyData.list)))) := fun G0 H0 G H σ D ok q => by
    show tLc wi (gName t) tYes te vs σ H (fun x H1 => (tDrop (tBM K "list" rAppend (tOp (rIxL K) (tVar L) tw) (tCons te2 tNil))) D (σ.set L (some x)) H1)
    refine lc_hole hw hi ht hl h hlen ok fun Dl p a1 a2 xs G1 H1 f hDH gD hD hpd hpH gp hp hxs h1 h2 => ?_
    have hwl := (List.getElem?_eq_some_iff.mp hw).1
    have okL : Ok K G0 H0 G1 H1 (σ.set L (some (.ref Dl))) (env.set L .un) := (ok.go f).set (s := .un) L rfl trivial
    have hsL : (σ.set L (some (.ref Dl)))[L]? = some (some (.ref Dl)) := List.getElem?_set_self (by rw [ok.len]; exact hLl)
    refine ⟨_, hsL, hwi G0 H0 G1 H1 _ okL _ fun u G2 H2 b2 hu => ⟨Dl, _, _, .ref p, rfl, hu.int_inv, .inl (.inl (b2.hh _ _ hD)), hole_at hwl h1, .inl ⟨rfl, xs, SqL.of (b2.hh _ _ hp)⟩, hd G0 H0 G2 H2 _ (okL.go b2) _ fun v G3 H3 b3 hv => ⟨p, xs, v, rfl, rfl, b3.hh _ _ (b2.hh _ _ hp), ?_, ?_⟩⟩⟩
    · rw [hxs.len, sizeLine_eq]; omega
    · obtain ⟨G5, ok5⟩ := hole_end (L := L) ok hLl f (b2.trans b3) hDH gD hD hpd hpH gp (by rw [hp]; simp) hwl ((hxs.mono (b2.trans b3).gg).append (.cons hv .nil)) h1 h2
      exact q G5 _ _ ok5
/-- name = [list(x) for x in xs]; name[w][n] = e -/
theorem run_nestS {tw te2 ty : TE} {d : D} {n : Int} {j : Nat} (hw : zss[w]? = some zw) (hi : EvI K wi env ds) (ht : t ∈ vs) (hl : zss.length = ds.length)
    (h : ∀ (i : Nat) (d : D) (zs : List D), ds[i]? = some d → zss[i]? = some zs → EvN K te ((wipeD env vs).set t (.dat d)) zs) (hlen : ds.length ≤ 10000000) (hLl : L < env.length)
    (hwi : EvD K tw (env.set L .un) (.int (w : Int))) (hd : EvD K te2 (env.set L .un) d) (hy : EvD K ty (env.set L .un) (.int n)) (hj : ixN zw.length n = some j) :
    Run K E (tSeq (tAsg (tLc wi (gName t) tYes te vs) (gName L)) (tAsg te2 (gSub (tOp (rIxL K) (tVar L) tw) ty rSetL))) env (.nx (env.set L (.ml ((zss.set w (zw.set j d)).map PyData.list)))) := fun G0 H0 G H σ D ok q => by
    show tLc wi (gName t) tYes te vs σ H (fun x H1 => (tAsg te2 (gSub (tOp (rIxL K) (tVar L) tw) ty rSetL)) D (σ.set L (some x)) H1)
    refine lc_hole hw hi ht hl h hlen ok fun Dl p a1 a2 xs G1 H1 f hDH gD hD hpd hpH gp hp hxs h1 h2 => ?_
    have hwl := (List.getElem?_eq_some_iff.mp hw).1
    have okL : Ok K G0 H0 G1 H1 (σ.set L (some (.ref Dl))) (env.set L .un) := (ok.go f).set (s := .un) L rfl trivial
    have hsL : (σ.set L (some (.ref Dl)))[L]? = some (some (.ref Dl)) := List.getElem?_set_self (by rw [ok.len]; exact hLl)
    refine hd G0 H0 G1 H1 _ okL _ fun v G2 H2 b2 hv => ⟨_, hsL, hwi G0 H0 G2 H2 _ (okL.go b2) _ fun u G3 H3 b3 hu => ⟨Dl, _, _, .ref p, rfl, hu.int_inv, .inl (.inl (b3.hh _ _ (b2.hh _ _ hD))), hole_at hwl h1, hy G0 H0 G3 H3 _ ((okL.go b2).go b3) _ fun u2 G4 H4 b4 hu2 => ⟨p, xs, n, j, rfl, hu2.int_inv, b4.hh _ _ (b3.hh _ _ (b2.hh _ _ hp)), by rw [hxs.len]; exact hj, ?_⟩⟩⟩
    have b24 := (b2.trans b3).trans b4
    obtain ⟨G5, ok5⟩ := hole_end (L := L) ok hLl f b24 hDH gD hD hpd hpH gp (by rw [hp]; simp) hwl (Dds.set (hv.mono (b3.trans b4).gg) j (hxs.mono b24.gg)) h1 h2
    exact q G5 _ _ ok5
end
end DL

namespace KP
open PySem L2 DL MX
def topS (i : Nat) : Stmt := PySem.Challenge.pw_lastcoffer_k50_tables_checked.main.body.getD i (.Pass ⟨0, 0, 0, 0⟩)
abbrev s_is_fraction : Stmt := topS 8
abbrev s_is_less : Stmt := topS 9
abbrev s_check_table : Stmt := topS 11
abbrev s_worths_in : Stmt := topS 12
abbrev s_is_between : Stmt := topS 13
abbrev s__law_cell : Stmt := topS 15
abbrev s__law_digits : Stmt := topS 16
abbrev s__law_fraction : Stmt := topS 17
abbrev s__law_spread : Stmt := topS 18
abbrev s__law_house : Stmt := topS 19
abbrev s__law_refused : Stmt := topS 20
abbrev s__law_spoilt : Stmt := topS 21
abbrev s_law : Stmt := topS 22
section
variable {P : Program} {w : World} {K : PySem.W.Frag} {mg : Str → Option Value} {base : Heap}
/-! ### common -/
theorem ei_is {wi : TI} {env : EnvD} {ds ds' : List D} (h : EvI K wi env ds) (e : ds = ds') : EvI K wi env ds' := e ▸ h
theorem et_sameS {ta tb : TE} {env : EnvD} {x : Str} (h1 : EvD K ta env (.str x)) (h2 : EvD K tb env (.str x)) : EvT K (tTest (tOp rNe ta tb)) env false :=
  (et_test (ed_neS h1 h2)).is (by rw [decide_eq_true rfl]; rfl)
theorem et_same {ta tb : TE} {env : EnvD} {x : D} (h1 : EvP K ta env x) (h2 : EvP K tb env x) (hx : SeqAt.shaped x = true) : EvT K (tTest (tOp (rNeD K) ta tb)) env false :=
  (et_test (ed_neD h1 h2 hx hx)).is (by
    have h := hx
    unfold SeqAt.shaped at h
    rw [Bool.and_eq_true] at h
    rw [SeqAt.eqv_refl _ h.1]; rfl)
theorem atI_at {ns : List Int} {i : Int} {n : Nat} {x : Int} (e : i = (n : Int)) (h : ns[n]? = some x) : atI (ns.map PyData.int) i = some (.int x) := by subst e; exact atI_map h
theorem atI_getD {ns : List Int} {i : Int} {n : Nat} {x : Int} (e : i = (n : Int)) (h : ns[n]? = some x) : atI (ns.map PyData.int) i = some (.int (ns.getD n 0)) := by
  rw [List.getD_eq_getElem?_getD, h, Option.getD_some]; exact atI_at e h
theorem cutD_min {xs : List D} {a b : Nat} (hab : a ≤ b) : cutD xs (some (a : Int)) (some (b : Int)) = (xs.drop a).take (b - a) := by
  by_cases hb : b ≤ xs.length
  · exact cutD_nat hb hab
  · unfold cutD
    rw [HT.sIx_nat, HT.sIx_nat, Nat.min_eq_right (by omega : xs.length ≤ b)]
    by_cases ha : a ≤ xs.length
    · rw [Nat.min_eq_left ha, List.take_of_length_le (by rw [List.length_drop]; omega), List.take_of_length_le (by rw [List.length_drop]; omega)]
    · rw [Nat.min_eq_right (by omega), List.drop_eq_nil_of_le (Nat.le_refl _), List.drop_eq_nil_of_le (by omega), List.take_nil, List.take_nil]
theorem cutD_first {xs : List D} {b : Nat} : cutD xs none (some (b : Int)) = xs.take b := cutD_min (xs := xs) (a := 0) (b := b) (Nat.zero_le _)
/-- the chance of a value -/
theorem lk_wt {s : Spr} (h : Can s) (v : Int) : (lkA s v).getD 0 = wt s v := by
  have hn : (s.map (·.1)).Nodup := h.asc.imp fun h => by omega
  cases e : lkA s v with
  | none => rw [wt_none (lk_none.mp e)]; rfl
  | some c => rw [wt_nodup hn (lk_mem e)]; rfl
def flt (s : Spr) (v : Int) : List Rat := s.filterMap fun p => if p.1 = v then some p.2 else none
theorem flt_sum (v : Int) : ∀ s : Spr, (flt s v).sum = wt s v
  | [] => rfl
  | p :: s => by
    have ih := flt_sum v s
    unfold flt at *
    rw [wt_cons, List.filterMap_cons]
    by_cases e : p.1 = v
    · rw [if_pos e, if_pos e, List.sum_cons, ih]
    · rw [if_neg e, if_neg e, ih]; grind
theorem flt_enc (s : Spr) (v : Int) : (flt s v).map encQ = s.filterMap fun p => if p.1 = v then some (encQ p.2) else none := by
  unfold flt
  rw [List.map_filterMap]
  congr 1
  funext p
  split <;> rfl
theorem sprOk8 : SprOk 8 21 := ⟨by decide, by decide, by decide, by decide⟩
theorem ty_flt {n : Nat} {s : Spr} (h : Ty n s) (hn : n ≤ 3000) (v : Int) : Fine (flt s v) := by
  obtain ⟨⟨N, b, h1, h2, h3, h4⟩, h5, h6⟩ := h
  refine ⟨N, b, fin_of h1 h2 h3 (Nat.lt_of_le_of_lt (List.length_filterMap_le _ _) h6) (by omega) (by omega), fun r hr => ?_⟩
  obtain ⟨p, hp, e⟩ := List.mem_filterMap.mp hr
  split at e
  · cases e; exact h4 p hp
  · cases e

/-! ### the law's cells and digits -/
theorem absI_eq (x : Int) : (if x < 0 then -x else x) = (x.natAbs : Int) := by split <;> omega
theorem ed_pw {x n y : Int} {env : EnvD} (hn : 0 ≤ n ∧ n ≤ 1000000 ∧ x.natAbs < 2 ^ 64) (e : x ^ n.toNat = y) : EvD K (tOp (rI CPow fun i j => .int (i ^ j.toNat)) (tC (.int x)) (tC (.int n))) env (.int y) := (ed_I (ed_int x) (ed_int n) hn).is (congrArg PyData.int e)
theorem rng_map (n : Nat) : rngD 0 1 n = (List.range n).map fun k : Nat => PyData.int (k : Int) := by
  unfold rngD
  exact List.map_congr_left fun (k : Nat) _ => by rw [show (0 : Int) + (k : Int) * 1 = (k : Int) by omega]
theorem sc__law_cell : FnScope ["script", "k"] ["script", "k"] (defScope s__law_cell) := ⟨rfl, rfl, rfl, by decide +kernel, rfl, by decide +kernel, by decide +kernel⟩
def sp__law_cell (K : PySem.W.Frag) : Sp := SpD K (fun a : List Int × Int => [.scr a.1, .dat (.int a.2)]) (fun a => 0 ≤ a.2) (fun a => .int (absI (cellF a.1 a.2)))
theorem ok__law_cell {f : Addr} {fd : FuncData} (F : Fun K "_law_cell" "_law_cell" s__law_cell f fd) (m_len : mg "len" = none) (m_int : mg "int" = none) (m_abs : mg "abs" = none) : FnOk P w K mg base CX0 1 f fd ["script", "k"] (sp__law_cell K) := by
  have sc := sc__law_cell
  refine fn_D F sc (fun _ => rfl) fun cdv A outer s H E hr => ?_
  refine ⟨_, (pss_cons (ps_if (pt_cmpR op_lt (pv 1) (pe_callB (id := "len") (r := rLenS K) call_len_seq (by rfl) m_len PySem.boot_len (pa_cons (pv 0) pa_nil)) (nomark _)) (pss_one (ps_ret (pe_callB (id := "abs") call_abs (by rfl) m_abs (by decide +kernel) (pa_cons (pe_callTy (T := "int") call_int1 (by rfl) m_int (by decide +kernel) (pa_cons (pe_ix (r := rIxL K) ix_list (pv 0) (pv 1) (fun _ _ => rfl)) pa_nil)) pa_nil)))) pss_nil)
      (pss_one (ps_ret pe_int))), fun a ha => ?_⟩
  obtain ⟨ns, k⟩ := a
  have h0 : 0 ≤ k := ha
  by_cases hk : k < (ns.length : Int)
  · exact run_seqR (run_ifT ((et_test (ed_B0 (ed_var 1 rfl) (ed_lenR 0 rfl))).is (decide_eq_true hk)) (run_ret (ed_abs (ed_int1 (ed_ixR 0 rfl (ed_var 1 rfl) (cell_at h0 hk))))))
  · refine run_seq (run_ifF ((et_test (ed_B0 (ed_var 1 rfl) (ed_lenR 0 rfl))).is (decide_eq_false hk)) run_next) ?_
    show Run K E _ _ (.rt (.int (absI (cellF ns k))))
    rw [show cellF ns k = 0 by unfold cellF; rw [if_neg hk]]
    exact run_ret (ed_int 0)
theorem sc__law_digits : FnScope ["cell", "base", "most", "digits", "large", "k"] ["cell", "base", "most"] (defScope s__law_digits) := ⟨rfl, rfl, rfl, by decide +kernel, rfl, by decide +kernel, by decide +kernel⟩
structure DgOk (a : Int × Int × Nat) : Prop where
  c : 0 ≤ a.1
  b : 0 < a.2.1 ∧ a.2.1 ≤ 1000000
  n : a.2.2 ≤ 1000
def sp__law_digits (K : PySem.W.Frag) : Sp := SpN K (fun a : Int × Int × Nat => [.dat (.int a.1), .dat (.int a.2.1), .dat (.int (a.2.2 : Int))]) DgOk (fun a => (digF a.1 a.2.1 a.2.2).map PyData.int)
theorem ok__law_digits {f : Addr} {fd : FuncData} (F : Fun K "_law_digits" "_law_digits" s__law_digits f fd) (m_int : mg "int" = none) (m_range : mg "range" = none) : FnOk P w K mg base CX0 1 f fd ["cell", "base", "most"] (sp__law_digits K) := by
  have sc := sc__law_digits
  refine fn_N F sc (fun _ => rfl) fun cdv A outer s H E hr => ?_
  refine ⟨_, (pss_cons (ps_set (i := 3) sc.nd rfl (by first | exact Or.inl rfl | exact Or.inr rfl) (pe_lst pa_nil))
      (pss_cons (ps_set (i := 4) sc.nd rfl (by first | exact Or.inl rfl | exact Or.inr rfl) (pe_cmpR op_ge (pv 0) (pe_op op_pow pe_int pe_int) (nomark _)))
      (pss_cons (ps_for PassesOwn.never rfl (pi_range1 (by rfl) m_range (pa_cons (pv 2) pa_nil)) (pg_name (i := 5) sc.nd rfl (by first | exact Or.inl rfl | exact Or.inr rfl)) (pss_one (ps_if (pt_val (pv 4)) (pss_cons (ps_expr (pe_bm PySem.F.plainAttrs_list PySem.F.slot_list_append PySem.F.type_list_append mt_append (pv 3) (pa_cons (pe_op op_modN (pe_callTy (T := "int") call_int1 (by rfl) m_int (by decide +kernel) (pa_cons (pv 0) pa_nil)) (pv 1)) pa_nil)))
      (pss_one (ps_set (i := 0) sc.nd rfl (by first | exact Or.inl rfl | exact Or.inr rfl) (pe_op op_fdivZ (pv 0) (pv 1))))) (pss_one (ps_expr (pe_bm PySem.F.plainAttrs_list PySem.F.slot_list_append PySem.F.type_list_append mt_append (pv 3) (pa_cons (pe_op op_modN (pe_op op_modN (pe_callTy (T := "int") call_int1 (by rfl) m_int (by decide +kernel) (pa_cons (pe_op op_add (pe_op op_add (pe_op op_mulX (pv 0) pe_int) (pe_op op_mulX (pe_op op_mulX (pe_op op_add (pv 5) pe_int) (pe_op op_add (pv 5) pe_int)) pe_int)) (pe_op op_mulX (pe_op op_fdivZ (pv 0) pe_int) (pv 5))) pa_nil)) pe_int) (pv 1)) pa_nil)))))))
      (pss_one (ps_ret (pv 3)))))), fun a ha => ?_⟩
  obtain ⟨c, b, n⟩ := a
  have hc : 0 ≤ c := ha.c
  have hb : 0 < b ∧ b ≤ 1000000 := ha.b
  have hn : n ≤ 1000 := ha.n
  refine run_seq (run_setN (en_lst (ds := []) ea_nil)) ?_
  refine run_seq (run_set ((ed_B0 (ed_var 0 rfl) (ed_pw (y := 1000000000000000000) (by decide) (by decide))).is (d' := .bool (largeF c)) rfl)) ?_
  show Run K E _ _ (.rn ((digF c b n).map PyData.int))
  generalize hL : largeF c = L
  have hds : digF c b n = (List.range n).map (gdig L b c) := by unfold digF; rw [hL]
  rw [hds]
  refine run_seq (run_for (ts := [5]) (ds := (List.range n).map fun k : Nat => PyData.int (k : Int)) (fun i => [.dat (.int (gcel L b c i)), .dat (.int b), .dat (.int (n : Int)), .ml (((List.range i).map (gdig L b c)).map PyData.int), .dat (.bool L), .un]) (ei_is (ei_rng1 (ed_var 2 rfl) (by show -(2 ^ 62) ≤ (n : Int) ∧ (n : Int) < 2 ^ 62; omega)) (by show rngD 0 1 (n : Int).toNat = _; rw [Int.toNat_natCast]; exact rng_map n)) (Less.refl _) (fun i d hi hd => ⟨_, eg_name (by decide), ?_⟩)) ?_
  · rw [List.length_map, List.length_range] at hi
    obtain rfl : d = .int (i : Int) := by rw [List.getElem?_map, List.getElem?_range hi] at hd; exact (Option.some.inj hd).symm
    rw [List.range_succ, List.map_append, List.map_append, List.map_singleton, List.map_singleton]
    have hlen : (((List.range i).map (gdig L b c)).map PyData.int).length < 10000000 := by rw [List.length_map, List.length_map, List.length_range]; omega
    cases L with
    | true =>
      have e : gdig true b c i = (gcel true b c i).fmod b := rfl
      have e2 : gcel true b c (i + 1) = (gcel true b c i).fdiv b := rfl
      rw [e, e2]
      exact .n (run_ifT (et_B (ed_var 4 rfl)) (run_seq (run_append (i := 3) rfl (ed_I (ed_int1 (ed_var 0 rfl)) (ed_var 1 rfl) (by omega)) hlen) (run_set (ed_I (ed_var 0 rfl) (ed_var 1 rfl) ⟨by omega, PySem.Flt.log2_lt_of (by decide) (Bt.mono (n := 21) (bt_range (by omega) (by omega)) (by decide : 21 ≤ 9000))⟩)))) (.eq (.eq (.eq (.eq (.eq (.un .nil))))))
    | false =>
      have hc2 : c < 1000000000000000000 := by
        have := of_decide_eq_false hL; omega
      have e : gdig false b c i = ((c * 48271 + ((i : Int) + 1) * ((i : Int) + 5) * 69621 + c.fdiv 97 * (i : Int)).fmod 2147483647).fmod b := rfl
      rw [e, gcel_small, gcel_small]
      have b0 : Bt 60 c := bt_range (by omega) (by omega)
      have bi : Bt 20 (i : Int) := bt_range (by omega) (by omega)
      have bi1 : Bt 20 ((i : Int) + 1) := bt_range (by omega) (by omega)
      have bi5 : Bt 20 ((i : Int) + 5) := bt_range (by omega) (by omega)
      have bd : Bt 60 (c.fdiv 97) := by
        rw [Int.fdiv_eq_ediv_of_nonneg _ (by decide)]
        exact bt_range (by omega) (by omega)
      exact .n (run_ifF (et_B (ed_var 4 rfl)) (run_append (i := 3) rfl (ed_I (ed_I (ed_int1 (ed_I0 (ed_I0 (ed_I (ed_var 0 rfl) (ed_int 48271) (b0.mulx (m := 20) (by decide) (by decide))) (ed_I (ed_I (ed_I0 (ed_var 5 rfl) (ed_int 1)) (ed_I0 (ed_var 5 rfl) (ed_int 5)) (bi1.mulx bi5 (by decide))) (ed_int 69621) ((bi1.mul bi5).mulx (m := 20) (by decide) (by decide)))) (ed_I (ed_I (ed_var 0 rfl) (ed_int 97) ⟨by decide, by decide⟩) (ed_var 5 rfl) (bd.mulx bi (by decide))))) (ed_int 2147483647) (by decide)) (ed_var 1 rfl) (by omega)) hlen)) (.eq (.eq (.eq (.eq (.eq (.un .nil))))))
  · rw [List.length_map, List.length_range]
    exact run_retM 3 rfl
theorem sc__law_fraction : FnScope ["top", "low", "a", "b", "step"] ["top", "low"] (defScope s__law_fraction) := ⟨rfl, rfl, rfl, by decide +kernel, rfl, by decide +kernel, by decide +kernel⟩
structure FrOk (a : Int × Int) : Prop where
  l : 0 < a.2
  bl : Bt 1900 a.2
  bt : Bt 1900 a.1
def sp__law_fraction (K : PySem.W.Frag) : Sp := SpD K (fun a : Int × Int => [.dat (.int a.1), .dat (.int a.2)]) FrOk (fun a => encQ (Rat.divInt a.1 a.2))
theorem ok__law_fraction {f : Addr} {fd : FuncData} (F : Fun K "_law_fraction" "_law_fraction" s__law_fraction f fd) (m_abs : mg "abs" = none) (m_int : mg "int" = none) (m_range : mg "range" = none) : FnOk P w K mg base CX0 1 f fd ["top", "low"] (sp__law_fraction K) := by
  have sc := sc__law_fraction
  refine fn_D F sc (fun _ => rfl) fun cdv A outer s H E hr => ?_
  refine ⟨_, (pss_cons (ps_set (i := 2) sc.nd rfl (by first | exact Or.inl rfl | exact Or.inr rfl) (pe_callB (id := "abs") call_abs (by rfl) m_abs (by decide +kernel) (pa_cons (pv 0) pa_nil)))
      (pss_cons (ps_set (i := 3) sc.nd rfl (by first | exact Or.inl rfl | exact Or.inr rfl) (pv 1))
      (pss_cons (ps_for PassesOwn.never rfl (pi_range1 (by rfl) m_range (pa_cons pe_int pa_nil)) (pg_name (i := 4) sc.nd rfl (by first | exact Or.inl rfl | exact Or.inr rfl)) (pss_cons (ps_if (pt_cmpR op_eq (pv 3) pe_int (nomark _)) (pss_one ps_break) pss_nil)
      (pss_one (ps_par (i := 2) (j := 3) (by rfl) sc.nd rfl rfl (by decide) rfl rfl (pa_cons (pv 3) (pa_cons (pe_op op_modN (pe_callTy (T := "int") call_int1 (by rfl) m_int (by decide +kernel) (pa_cons (pv 2) pa_nil)) (pv 3)) pa_nil)) (by rfl)))))
      (pss_one (ps_ret (pe_tup (pa_cons (pe_op op_fdivZ (pv 0) (pv 2)) (pa_cons (pe_op op_fdivZ (pv 1) (pv 2)) pa_nil)))))))), fun a ha => ?_⟩
  obtain ⟨t, l⟩ := a
  have hl : 0 < l := ha.l
  have hbl : Bt 1900 l := ha.bl
  have hbt : Bt 1900 t := ha.bt
  have st : sz t.natAbs ≤ 1900 := by rw [← bits_sz]; exact PyProof.Rows.intBits_le hbt
  have sl : sz l.natAbs ≤ 1900 := by rw [← bits_sz]; exact PyProof.Rows.intBits_le hbl
  refine run_seq (run_set ((ed_abs (ed_var 0 rfl)).is (congrArg PyData.int (absI_eq t)))) ?_
  refine run_seq (run_set ((ed_var 1 rfl).is (d' := .int ((l.natAbs : Nat) : Int)) (congrArg PyData.int (by omega)))) ?_
  obtain ⟨k, h1, h2, h3, h4⟩ := eu_first t.natAbs l.natAbs
  refine run_seq (run_forX (ts := [4]) (ds := rngD 0 1 4000) (r := .nx [.dat (.int t), .dat (.int l), .dat (.int ((eu t.natAbs l.natAbs k).1 : Int)), .dat (.int ((eu t.natAbs l.natAbs k).2 : Int)), .dat (.int (0 + (k : Int) * 1))]) (fun i => [.dat (.int t), .dat (.int l), .dat (.int ((eu t.natAbs l.natAbs i).1 : Int)), .dat (.int ((eu t.natAbs l.natAbs i).2 : Int)), .un]) k (ei_rng1 (ed_int 4000) (by decide)) (.eq (.eq (.eq (.eq (.un .nil))))) (fun i d hi hd => ⟨_, (eg_name (by decide)), ?_⟩) (.inr ⟨_, _, rngD_at (by omega), (eg_name (by decide)), .inr ⟨_, rfl, ?_⟩⟩)) ?_
  · refine .n (run_seq (run_ifF ((et_test (ed_eqI (ed_var 3 rfl) (ed_int 0))).is (decide_eq_false (by have := h3 i hi; omega))) run_next) (run_par (d := .int ((eu t.natAbs l.natAbs i).2 : Int)) (e := .int (((eu t.natAbs l.natAbs i).1 : Int).fmod ((eu t.natAbs l.natAbs i).2 : Int))) (ed_var 3 rfl) (ed_I (ed_int1 (ed_var 2 rfl)) (ed_var 3 rfl) (by have := h3 i hi; omega)))) ?_
    have e : ((eu t.natAbs l.natAbs i).1 : Int).fmod ((eu t.natAbs l.natAbs i).2 : Int) = (((eu t.natAbs l.natAbs i).1 % (eu t.natAbs l.natAbs i).2 : Nat) : Int) := by
      rw [Int.fmod_eq_emod_of_nonneg _ (by omega)]; rfl
    rw [e]
    exact (.eq (.eq (.eq (.eq (.un .nil)))))
  · exact run_seqX (run_ifT ((et_test (ed_eqI (ed_var 3 rfl) (ed_int 0))).is (decide_eq_true (by rw [h2]; rfl))) run_break) (fun _ z => nomatch z)
  obtain ⟨e1, e2⟩ := divInt_parts (t := t) (l := l) (by omega)
  have hg : sgcd t l = ((eu t.natAbs l.natAbs k).1 : Int) := by unfold sgcd; rw [if_neg (by omega), h4]
  show Run K E _ _ (.rt (.tuple [.int (Rat.divInt t l).num, .int ((Rat.divInt t l).den : Int)]))
  rw [e1, e2, ← hg]
  have hd : ∀ x, CDivZ x (sgcd t l) := fun x => sgcd_div (by omega) (hbl.mono (by decide))
  exact run_ret (ed_tup (ds := [.int _, .int _]) (ea_d (ed_I (ed_var 0 rfl) (ed_var 2 rfl) (hd _)) (ea_d (ed_I (ed_var 1 rfl) (ed_var 2 rfl) (hd _)) ea_nil)))
theorem sc__law_spread : FnScope ["draw", "values", "parts", "k"] ["draw", "values"] (defScope s__law_spread) := ⟨rfl, rfl, rfl, by decide +kernel, rfl, by decide +kernel, by decide +kernel⟩
def sp__law_spread (K : PySem.W.Frag) : Sp := SpN K (fun a : Int × List Int => [.dat (.int a.1), .dat (.list (a.2.map PyData.int))]) (fun a => a.2.length ≤ 100) (fun a => (spD a.1 a.2).map encI)
theorem ok__law_spread {f : Addr} {fd : FuncData} (F : Fun K "_law_spread" "_law_spread" s__law_spread f fd) (m_len : mg "len" = none) (m_range : mg "range" = none) (m_sum : mg "sum" = none) (C__law_fraction : Callee P w K mg base CX0 1 "_law_fraction" ["top", "low"] (sp__law_fraction K)) : FnOk P w K mg base CX0 2 f fd ["draw", "values"] (sp__law_spread K) := by
  have sc := sc__law_spread
  refine fn_N F sc (fun _ => rfl) fun cdv A outer s H E hr => ?_
  refine ⟨_, (pss_cons (ps_set (i := 2) sc.nd rfl (by first | exact Or.inl rfl | exact Or.inr rfl) (pe_lc (own := [("k", 3)]) rfl sc.nd (pi_range1 (by rfl) m_range (pa_cons (pe_callB (id := "len") (r := rLenS K) call_len_seq (by rfl) m_len PySem.boot_len (pa_cons (pv 1) pa_nil)) pa_nil)) (blkOk_by (own := [("k", 3)]) (N := ["draw", "values", "parts", "k"]) (sc := defScope s__law_spread) (by decide +kernel)) (fun _ _ _ _ _ => (pg_name (i := 3) sc.nd rfl (Or.inl rfl))) (fun _ _ _ _ _ => pts_nil) (fun _ _ _ _ _ => (pe_op op_add pe_int (pe_op op_modN (pe_op op_fdivZ (pv 0) (pe_op op_add (pe_op op_mulX pe_int (pv 3)) pe_int)) pe_int)))))
      (pss_one (ps_ret (pe_lc (own := [("k", 3)]) rfl sc.nd (pi_range1 (by rfl) m_range (pa_cons (pe_callB (id := "len") (r := rLenS K) call_len_seq (by rfl) m_len PySem.boot_len (pa_cons (pv 1) pa_nil)) pa_nil)) (blkOk_by (own := [("k", 3)]) (N := ["draw", "values", "parts", "k"]) (sc := defScope s__law_spread) (by decide +kernel)) (fun _ _ _ _ _ => (pg_name (i := 3) sc.nd rfl (Or.inl rfl))) (fun _ _ _ _ _ => pts_nil) (fun _ _ _ _ _ => (pe_tup (pa_cons (pe_ix (r := rIxL K) ix_list (pv 1) (pv 3) (fun _ _ => rfl)) (pa_cons (pe_c C__law_fraction (hr.mono (by decide)) pass0 (pa_cons (pe_ix (r := rIxL K) ix_list (pv 2) (pv 3) (fun _ _ => rfl)) (pa_cons (pe_callB (id := "sum") (r := rSum K) (cr_sum rfl) (by rfl) m_sum (by decide +kernel) (pa_cons (pv 2) pa_nil)) pa_nil))) pa_nil)))))))), fun a ha => ?_⟩
  obtain ⟨d, vs⟩ := a
  have hn : vs.length ≤ 100 := ha
  have hr1 : ∀ ev : EnvD, ev[1]? = some (.dat (.list (vs.map PyData.int))) → EvI K (iRng1 (tCons (tCB (rLenS K) (tCons (tVar 1) tNil)) tNil)) ev ((List.range vs.length).map fun k : Nat => PyData.int (k : Int)) := fun ev h => ei_is (ei_rng1 (ed_lenl (ed_var 1 h).l) (by rw [List.length_map]; omega)) (by rw [List.length_map, Int.toNat_natCast]; exact rng_map vs.length)
  refine run_seq (run_setN ((en_lc (hr1 _ rfl) (ts := [3]) (by decide) (lc_map (fun k : Nat => PyData.int (k : Int)) (fun k => PyData.int (partD d k)) fun k hk => ⟨_, eg_name (by decide), et_yes, ed_I0 (ed_int 1) (ed_I (ed_I (ed_var 0 rfl) (ed_I0 (ed_I (ed_int 3) (ed_var 3 rfl) (Bt.mulx (n := 20) (m := 20) (by decide) (bt_range (by omega) (by have := List.mem_range.mp hk; omega)) (by decide))) (ed_int 2)) ⟨by omega, PySem.Flt.log2_lt_of (by decide) (Bt.mono (n := 20) (bt_range (by omega) (by have := List.mem_range.mp hk; omega)) (by decide : 20 ≤ 9000))⟩) (ed_int 4) (by decide))⟩) (by rw [List.length_map, List.length_range]; omega)).is (d' := (partsD d vs.length).map PyData.int) (by unfold partsD; rw [List.map_map]; rfl))) ?_
  have hs := psum_bd d vs.length
  show Run K E _ _ (.rn (((List.range vs.length).map fun k => (vs.getD k 0, Rat.divInt (partD d k) (partsD d vs.length).sum)).map encI))
  rw [List.map_map]
  refine run_retN (en_lc (hr1 _ rfl) (ts := [3]) (by decide) (lc_map (fun k : Nat => PyData.int (k : Int)) (fun k => encI (vs.getD k 0, Rat.divInt (partD d k) (partsD d vs.length).sum)) fun k hk => ⟨_, eg_name (by decide), et_yes, ?_⟩) (by rw [List.length_map, List.length_range]; omega))
  have hk := List.mem_range.mp hk
  have hp := partD_bd d k
  have hv : vs[k]? = some (vs.getD k 0) := by rw [List.getD_eq_getElem?_getD, List.getElem?_eq_getElem hk]; rfl
  have hpk : (partsD d vs.length)[k]? = some (partD d k) := by unfold partsD; rw [List.getElem?_map, List.getElem?_range hk]; rfl
  exact ed_tup (ds := [.int (vs.getD k 0), encQ (Rat.divInt (partD d k) (partsD d vs.length).sum)]) (ea_d (ed_ixl (ed_var 1 rfl).l (ed_var 3 rfl) (atI_d rfl hv)) (ea_d (ed_call (x := (partD d k, (partsD d vs.length).sum)) (ea_d (ed_ixl (el_var 2 rfl) (ed_var 3 rfl) (atI_d rfl hpk)) (ea_d (ed_sum (el_var 2 rfl)) ea_nil)) rfl ⟨by show 0 < (partsD d vs.length).sum; omega, Bt.mono (n := 20) (bt_range (by show _ < (partsD d vs.length).sum; omega) (by show (partsD d vs.length).sum < _; omega)) (by decide), Bt.mono (n := 20) (bt_range (by show _ < partD d k; omega) (by show partD d k < _; omega)) (by decide)⟩) ea_nil))

end
end KP

namespace KP
open PySem L2 DL MX
section
variable {P : Program} {w : World} {K : PySem.W.Frag} {mg : Str → Option Value} {base : Heap}
/-! ### the law's house (second kind) -/
theorem sc__law_house : FnScope ["first", "second", "sizes", "draws", "full", "great", "count", "weathers", "k", "lines", "j", "draw", "low", "values", "others", "premium", "treaties", "layers"] ["first", "second"] (defScope s__law_house) := ⟨rfl, rfl, rfl, by decide +kernel, rfl, by decide +kernel, by decide +kernel⟩
def sp__law_house (K : PySem.W.Frag) : Sp := SpD K (fun a : Int × Int => [.dat (.int a.1), .dat (.int a.2)]) (fun a => 0 ≤ a.1 ∧ 0 ≤ a.2) (fun a => encH (houseG a.1 a.2))
theorem cdk (x : Int) {n : Nat} (h : n ≤ 100000) : CDivZ x ((n : Int) + 1) := ⟨by omega, PySem.Flt.log2_lt_of (by decide) (Bt.mono (n := 20) (bt_range (by omega) (by omega)) (by decide : 20 ≤ 9000))⟩
theorem mod16 (x : Nat) : ((x : Nat) : Int).fmod 16 = ((x % 16 : Nat) : Int) := by rw [Int.fmod_eq_emod_of_nonneg _ (by decide)]; rfl
theorem ok__law_house {f : Addr} {fd : FuncData} (F : Fun K "_law_house" "_law_house" s__law_house f fd) (m_range : mg "range" = none) (C__law_digits : Callee P w K mg base CX0 1 "_law_digits" ["cell", "base", "most"] (sp__law_digits K)) (C__law_fraction : Callee P w K mg base CX0 1 "_law_fraction" ["top", "low"] (sp__law_fraction K)) (C__law_spread : Callee P w K mg base CX0 2 "_law_spread" ["draw", "values"] (sp__law_spread K)) :
    FnOk P w K mg base CX0 3 f fd ["first", "second"] (sp__law_house K) := by
  have sc := sc__law_house
  refine fn_D F sc (fun _ => rfl) fun cdv A outer s H E hr => ?_
  refine ⟨_, (pss_cons (ps_set (i := 2) sc.nd rfl (by first | exact Or.inl rfl | exact Or.inr rfl) (pe_c C__law_digits (hr.mono (by decide)) pass0 (pa_cons (pv 0) (pa_cons pe_int (pa_cons pe_int pa_nil)))))
      (pss_cons (ps_set (i := 3) sc.nd rfl (by first | exact Or.inl rfl | exact Or.inr rfl) (pe_c C__law_digits (hr.mono (by decide)) pass0 (pa_cons (pv 1) (pa_cons pe_int (pa_cons pe_int pa_nil)))))
      (pss_cons (ps_set (i := 4) sc.nd rfl (by first | exact Or.inl rfl | exact Or.inr rfl) (pe_cmpR op_eq (pe_op op_modN (pe_ix (r := rIxL K) ix_list (pv 2) pe_int (fun _ _ => rfl)) pe_int) pe_int (nomark _)))
      (pss_cons (ps_set (i := 5) sc.nd rfl (by first | exact Or.inl rfl | exact Or.inr rfl) (pe_cmpR op_eq (pe_op op_modN (pe_ix (r := rIxL K) ix_list (pv 2) pe_int (fun _ _ => rfl)) pe_int) pe_int (nomark _)))
      (pss_cons (ps_set (i := 6) sc.nd rfl (by first | exact Or.inl rfl | exact Or.inr rfl) (pe_ifExp (pt_val (pv 4)) pe_int (pe_op op_add pe_int (pe_op op_modN (pe_ix (r := rIxL K) ix_list (pv 2) pe_int (fun _ _ => rfl)) pe_int))))
      (pss_cons (ps_if (pt_val (pv 5)) (pss_one (ps_set (i := 6) sc.nd rfl (by first | exact Or.inl rfl | exact Or.inr rfl) pe_int)) pss_nil)
      (pss_cons (ps_set (i := 7) sc.nd rfl (by first | exact Or.inl rfl | exact Or.inr rfl) (pe_lst pa_nil))
      (pss_cons (ps_for PassesOwn.never rfl (pi_range1 (by rfl) m_range (pa_cons (pv 6) pa_nil)) (pg_name (i := 8) sc.nd rfl (by first | exact Or.inl rfl | exact Or.inr rfl)) (pss_cons (ps_set (i := 9) sc.nd rfl (by first | exact Or.inl rfl | exact Or.inr rfl) (pe_lst pa_nil))
      (pss_cons (ps_for PassesOwn.never rfl (pi_range1 (by rfl) m_range (pa_cons (pe_ifExp (pt_val (pv 4)) (pe_op op_sub pe_int (pe_op op_modN (pv 8) pe_int)) (pe_op op_modN (pe_op op_fdivZ (pe_ix (r := rIxL K) ix_list (pv 2) pe_int (fun _ _ => rfl)) (pe_op op_add (pv 8) pe_int)) pe_int)) pa_nil)) (pg_name (i := 10) sc.nd rfl (by first | exact Or.inl rfl | exact Or.inr rfl)) (pss_cons (ps_set (i := 11) sc.nd rfl (by first | exact Or.inl rfl | exact Or.inr rfl) (pe_ix (r := rIxL K) ix_list (pv 3) (pe_op op_modN (pe_op op_add (pe_op op_mulX pe_int (pv 8)) (pv 10)) pe_int) (fun _ _ => rfl)))
      (pss_cons (ps_set (i := 12) sc.nd rfl (by first | exact Or.inl rfl | exact Or.inr rfl) (pe_op op_modN (pv 11) pe_int))
      (pss_cons (ps_set (i := 13) sc.nd rfl (by first | exact Or.inl rfl | exact Or.inr rfl) (pe_lst (pa_cons (pv 12) (pa_cons (pe_op op_add (pe_op op_add (pv 12) pe_int) (pe_op op_modN (pe_op op_fdivZ (pv 11) pe_int) pe_int)) pa_nil))))
      (pss_cons (ps_if (PW.pt (pw_and (pt_cmpR op_eq (pe_op op_modN (pe_op op_fdivZ (pv 11) pe_int) pe_int) pe_int (nomark _)) (pw_and1 (pt_not (pt_val (pv 4)))))) (pss_one (ps_expr (pe_bm PySem.F.plainAttrs_list PySem.F.slot_list_append PySem.F.type_list_append mt_append (pv 13) (pa_cons (pe_op op_add (pe_op op_add (pe_ix (r := rIxL K) ix_list (pv 13) pe_int (fun _ _ => rfl)) pe_int) (pe_op op_modN (pe_op op_fdivZ (pv 11) pe_int) pe_int)) pa_nil)))) pss_nil)
      (pss_cons (ps_if (PW.pt (pw_and (pt_val (pv 5)) (pw_and1 (pt_cmpR op_eq (pv 10) pe_int (nomark _))))) (pss_one (ps_expr (pe_bm PySem.F.plainAttrs_list PySem.F.slot_list_append PySem.F.type_list_append mt_append (pv 13) (pa_cons (pe_op op_add pe_int (pe_op op_modN (pv 11) pe_int)) pa_nil)))) pss_nil)
      (pss_one (ps_expr (pe_bm PySem.F.plainAttrs_list PySem.F.slot_list_append PySem.F.type_list_append mt_append (pv 9) (pa_cons (pe_c C__law_spread (hr.mono (by decide)) pass0 (pa_cons (pv 11) (pa_cons (pv 13) pa_nil))) pa_nil))))))))))
      (pss_cons (ps_setLc (i := 14) (own := [("j", 10)]) rfl sc.nd rfl rfl (sw_true rfl rfl rfl (by decide +kernel)) (pi_range1 (by rfl) m_range (pa_cons (pv 6) pa_nil)) (blkOk_by (own := [("j", 10)]) (N := ["first", "second", "sizes", "draws", "full", "great", "count", "weathers", "k", "lines", "j", "draw", "low", "values", "others", "premium", "treaties", "layers"]) (sc := defScope s__law_house) (by decide +kernel)) (fun _ _ _ _ _ => (pg_name (i := 10) sc.nd rfl (Or.inl rfl))) (fun _ _ _ _ _ => (pts_one (PW.pt (pw_or (pt_cmpR op_gt (pe_op op_modN (pe_op op_fdivZ (pe_ix (r := rIxL K) ix_list (pv 3) (pe_op op_add pe_int (pv 8)) (fun _ _ => rfl)) (pe_op op_add (pv 10) pe_int)) pe_int) pe_int (nomark _)) (pw_or1 (pt_cmpR op_eq (pv 10) (pe_op op_modN (pe_ix (r := rIxL K) ix_list (pv 3) (pe_op op_add pe_int (pv 8)) (fun _ _ => rfl)) (pv 6)) (nomark _))))))) (fun _ _ _ _ _ => (pv 10)))
      (pss_cons (ps_set (i := 15) sc.nd rfl (by first | exact Or.inl rfl | exact Or.inr rfl) (pe_op op_modN (pe_op op_fdivZ (pe_ix (r := rIxL K) ix_list (pv 2) pe_int (fun _ _ => rfl)) (pe_op op_add (pv 8) pe_int)) pe_int))
      (pss_cons (ps_if (pt_cmpR op_eq (pe_op op_modN (pe_ix (r := rIxL K) ix_list (pv 2) pe_int (fun _ _ => rfl)) pe_int) pe_int (nomark _)) (pss_one (ps_set (i := 15) sc.nd rfl (by first | exact Or.inl rfl | exact Or.inr rfl) (pe_op op_modN (pe_op op_fdivZ (pe_ix (r := rIxL K) ix_list (pv 2) pe_int (fun _ _ => rfl)) (pe_op op_add (pv 8) pe_int)) pe_int))) pss_nil)
      (pss_one (ps_expr (pe_bm PySem.F.plainAttrs_list PySem.F.slot_list_append PySem.F.type_list_append mt_append (pv 7) (pa_cons (pe_tup (pa_cons (pv 15) (pa_cons (pv 9) (pa_cons (pe_c C__law_spread (hr.mono (by decide)) pass0 (pa_cons (pe_ix (r := rIxL K) ix_list (pv 3) (pe_op op_add pe_int (pv 8)) (fun _ _ => rfl)) (pa_cons (pv 14) pa_nil))) pa_nil)))) pa_nil))))))))))
      (pss_cons (ps_set (i := 16) sc.nd rfl (by first | exact Or.inl rfl | exact Or.inr rfl) (pe_lst pa_nil))
      (pss_cons (ps_for PassesOwn.never rfl (pi_range1 (by rfl) m_range (pa_cons (pe_ifExp (pt_val (pv 4)) pe_int (pe_op op_add pe_int (pe_op op_modN (pe_ix (r := rIxL K) ix_list (pv 2) pe_int (fun _ _ => rfl)) pe_int))) pa_nil)) (pg_name (i := 8) sc.nd rfl (by first | exact Or.inl rfl | exact Or.inr rfl)) (pss_cons (ps_set (i := 11) sc.nd rfl (by first | exact Or.inl rfl | exact Or.inr rfl) (pe_ix (r := rIxL K) ix_list (pv 3) (pe_op op_modN (pe_op op_add pe_int (pv 8)) pe_int) (fun _ _ => rfl)))
      (pss_cons (ps_set (i := 17) sc.nd rfl (by first | exact Or.inl rfl | exact Or.inr rfl) (pe_lst pa_nil))
      (pss_cons (ps_for PassesOwn.never rfl (pi_range1 (by rfl) m_range (pa_cons (pe_ifExp (PW.pt (pw_and (pt_val (pv 4)) (pw_and1 (pt_cmpR op_eq (pv 8) pe_int (nomark _))))) pe_int pe_int) pa_nil)) (pg_name (i := 10) sc.nd rfl (by first | exact Or.inl rfl | exact Or.inr rfl)) (pss_cons (ps_set (i := 11) sc.nd rfl (by first | exact Or.inl rfl | exact Or.inr rfl) (pe_op op_add (pv 11) (pe_op op_mulX pe_int (pv 10))))
      (pss_one (ps_if (pt_cmpR op_eq (pe_op op_modN (pv 11) pe_int) pe_int (nomark _)) (pss_one (ps_expr (pe_bm PySem.F.plainAttrs_list PySem.F.slot_list_append PySem.F.type_list_append mt_append (pv 17) (pa_cons (pe_tup (pa_cons pe_str (pa_cons (pe_op op_modN (pe_op op_fdivZ (pv 11) pe_int) pe_int) pa_nil))) pa_nil)))) (pss_one (ps_if (pt_cmpR op_eq (pe_op op_modN (pv 11) pe_int) pe_int (nomark _)) (pss_one (ps_expr (pe_bm PySem.F.plainAttrs_list PySem.F.slot_list_append PySem.F.type_list_append mt_append (pv 17) (pa_cons (pe_tup (pa_cons pe_str (pa_cons (pe_c C__law_fraction (hr.mono (by decide)) pass0 (pa_cons (pe_op op_modN (pe_op op_fdivZ (pv 11) pe_int) pe_int) (pa_cons pe_int pa_nil))) pa_nil))) pa_nil)))) (pss_one (ps_if (pt_cmpR op_eq (pe_op op_modN (pv 11) pe_int) pe_int (nomark _)) (pss_one (ps_expr (pe_bm PySem.F.plainAttrs_list PySem.F.slot_list_append PySem.F.type_list_append mt_append (pv 17) (pa_cons (pe_tup (pa_cons pe_str (pa_cons (pe_op op_modN (pe_op op_fdivZ (pv 11) pe_int) pe_int) (pa_cons (pe_op op_add (pe_op op_modN (pe_op op_fdivZ (pv 11) pe_int) pe_int) (pe_op op_modN (pe_op op_fdivZ (pv 11) pe_int) pe_int)) pa_nil)))) pa_nil)))) pss_nil))))))))
      (pss_one (ps_expr (pe_bm PySem.F.plainAttrs_list PySem.F.slot_list_append PySem.F.type_list_append mt_append (pv 16) (pa_cons (pe_tup (pa_cons (pe_op op_modN (pe_op op_fdivZ (pv 11) pe_int) pe_int) (pa_cons (pv 17) pa_nil))) pa_nil))))))))
      (pss_cons (ps_if (pt_val (pv 4)) (pss_one (ps_asg (pe_tup (pa_cons pe_int (pa_cons (pe_ix (r := rIxT K) ix_tup (pe_ix (r := rIxL K) ix_list (pv 16) pe_int (fun _ _ => rfl)) pe_int (fun _ _ => rfl)) pa_nil))) (pg_sub (pv 16) pe_int set_list))) pss_nil)
      (pss_one (ps_ret (pe_tup (pa_cons (pv 7) (pa_cons (pv 16) pa_nil)))))))))))))))), fun ac hac => ?_⟩
  obtain ⟨a, c⟩ := ac
  have ha : 0 ≤ a := hac.1
  have hc : 0 ≤ c := hac.2
  refine run_seq (run_setN (en_call (x := ((a, 2520, 8) : Int × Int × Nat)) (ea_d (ed_var 0 rfl) (ea_d (ed_int 2520) (ea_d (ed_int 8) ea_nil))) rfl ⟨ha, ⟨by show (0 : Int) < 2520; decide, by show (2520 : Int) ≤ 1000000; decide⟩, by show 8 ≤ 1000; decide⟩)) (run_pub 2 rfl ?_)
  refine run_seq (run_setN (en_call (x := ((c, 27720, 16) : Int × Int × Nat)) (ea_d (ed_var 1 rfl) (ea_d (ed_int 27720) (ea_d (ed_int 16) ea_nil))) rfl ⟨hc, ⟨by show (0 : Int) < 27720; decide, by show (27720 : Int) ≤ 1000000; decide⟩, by show 16 ≤ 1000; decide⟩)) (run_pub 3 rfl ?_)
  show Run K E _ [.dat (.int a), .dat (.int c), .dat (.list ((digF a 2520 8).map PyData.int)), .dat (.list ((digF c 27720 16).map PyData.int)), .un, .un, .un, .un, .un, .un, .un, .un, .un, .un, .un, .un, .un, .un] (.rt (encH (hsG (digF a 2520 8) (digF c 27720 16))))
  have hS := dig_of (base := 2520) (by decide) a 8
  have hD := dig_of (base := 27720) (by decide) c 16
  generalize digF a 2520 8 = S at hS ⊢
  generalize digF c 27720 16 = D at hD ⊢
  refine run_seq (run_set ((ed_eqI (ed_I (ed_ixl (ed_var 2 rfl).l (ed_int 4) (hS.ix 4 rfl (by decide))) (ed_int 10) (by decide)) (ed_int 9)).is (d' := .bool (fullG S)) rfl)) ?_
  refine run_seq (run_set ((ed_eqI (ed_I (ed_ixl (ed_var 2 rfl).l (ed_int 4) (hS.ix 4 rfl (by decide))) (ed_int 10) (by decide)) (ed_int 8)).is (d' := .bool (greatG S)) rfl)) ?_
  refine run_seq (run_set (d := .int (count0 S)) (ed_if (et_B (ed_var 4 rfl)) (fun hb => (ed_int 4).is (by unfold count0; rw [if_pos hb])) (fun hb => (ed_I0 (ed_int 1) (ed_I (ed_ixl (ed_var 2 rfl).l (ed_int 0) (hS.ix 0 rfl (by decide))) (ed_int 3) (by decide))).is (by unfold count0; rw [if_neg (by rw [hb]; decide)])))) ?_
  refine run_seq (e1 := [.dat (.int a), .dat (.int c), .dat (.list (S.map PyData.int)), .dat (.list (D.map PyData.int)), .dat (.bool (fullG S)), .dat (.bool (greatG S)), .dat (.int (countG S)), .un, .un, .un, .un, .un, .un, .un, .un, .un, .un, .un]) (run_if (et_B (ed_var 5 rfl)) (fun hb => ?_) (fun hb => ?_)) ?_
  · rw [show countG S = 1 by unfold countG; rw [if_pos hb]]
    exact run_set (ed_int 1)
  · rw [show countG S = count0 S by unfold countG; rw [if_neg (by rw [hb]; decide)]]
    exact run_next
  have hcb := countG_bd S
  refine run_seq (run_setN (en_lst (ds := []) ea_nil)) ?_
  refine run_seq (run_for (ts := [8]) (ds := (List.range (countG S).toNat).map fun k : Nat => PyData.int (k : Int)) (fun i => [.dat (.int a), .dat (.int c), .dat (.list (S.map PyData.int)), .dat (.list (D.map PyData.int)), .dat (.bool (fullG S)), .dat (.bool (greatG S)), .dat (.int (countG S)), .ml (((List.range i).map (wtG S D)).map encW), .un, .un, .un, .un, .un, .un, .un, .un, .un, .un]) (ei_is (ei_rng1 (ed_var 6 rfl) (by omega)) (rng_map _)) (Less.refl _) (fun i d hi hd => ⟨_, eg_name (by decide), ?_⟩)) ?_
  · rw [List.length_map, List.length_range] at hi
    obtain rfl : d = .int (i : Int) := by rw [List.getElem?_map, List.getElem?_range hi] at hd; exact (Option.some.inj hd).symm
    have hi4 : i < 4 := by omega
    have hnl := nlG_bd S i
    rw [List.range_succ, List.map_append, List.map_append, List.map_singleton, List.map_singleton]
    refine Turn1.n (e1 := [.dat (.int a), .dat (.int c), .dat (.list (S.map PyData.int)), .dat (.list (D.map PyData.int)), .dat (.bool (fullG S)), .dat (.bool (greatG S)), .dat (.int (countG S)), .ml (((List.range i).map (wtG S D)).map encW ++ [encW (wtG S D i)]), .dat (.int (i : Int)), .dat (.list (((List.range (nlG S i).toNat).map (lineG S D i)).map encS)), .un, .un, .un, .un, .dat (.list ((othersG (countG S) (D.getD (10 + i) 0)).map PyData.int)), .dat (.int (premG S i)), .un, .un]) ?_ (.eq (.eq (.eq (.eq (.eq (.eq (.eq (.eq (.un (.un (.un (.un (.un (.un (.un (.un (.un (.un .nil))))))))))))))))))
    refine run_seq (run_setN (en_lst (ds := []) ea_nil)) ?_
    refine run_seq (run_for (ts := [10]) (ds := (List.range (nlG S i).toNat).map fun k : Nat => PyData.int (k : Int)) (fun j => [.dat (.int a), .dat (.int c), .dat (.list (S.map PyData.int)), .dat (.list (D.map PyData.int)), .dat (.bool (fullG S)), .dat (.bool (greatG S)), .dat (.int (countG S)), .ml (((List.range i).map (wtG S D)).map encW), .dat (.int (i : Int)), .ml (((List.range j).map (lineG S D i)).map encS), .un, .un, .un, .un, .un, .un, .un, .un]) (ei_is (ei_rng1 (j := nlG S i) (ed_if (et_B (ed_var 4 rfl)) (fun hb => (ed_I0 (ed_int 3) (ed_I (ed_var 8 rfl) (ed_int 2) (by decide))).is (by unfold nlG; rw [if_pos hb])) (fun hb => (ed_I (ed_I (ed_ixl (ed_var 2 rfl).l (ed_int 1) (hS.ix 1 rfl (by decide))) (ed_I0 (ed_var 8 rfl) (ed_int 1)) (cdk _ (by omega))) (ed_int 3) (by decide)).is (by unfold nlG; rw [if_neg (by rw [hb]; decide)]))) (by omega)) (rng_map _)) (Less.refl _) (fun j d hj hd => ⟨_, eg_name (by decide), ?_⟩)) ?_
    · rw [List.length_map, List.length_range] at hj
      obtain rfl : d = .int (j : Int) := by rw [List.getElem?_map, List.getElem?_range hj] at hd; exact (Option.some.inj hd).symm
      rw [List.range_succ, List.map_append, List.map_append, List.map_singleton, List.map_singleton]
      have hlen : (((List.range j).map (lineG S D i)).map encS).length < 10000000 := by rw [List.length_map, List.length_map, List.length_range]; omega
      have hx : (3 * (i : Int) + (j : Int)).fmod 16 = (((3 * i + j) % 16 : Nat) : Int) := by rw [← mod16]; congr 1
      have hat := hD.ix ((3 * i + j) % 16) hx (by omega)
      have hlg : lineG S D i j = spD (D.getD ((3 * i + j) % 16) 0) (dvC (fullG S) (greatG S) (D.getD ((3 * i + j) % 16) 0) j) := rfl
      rw [hlg]
      generalize D.getD ((3 * i + j) % 16) 0 = d at hat ⊢
      have hv2 := dvB_len (fullG S) d
      have hv3 := dvC_len (fullG S) (greatG S) d j
      refine Turn1.n (e1 := [.dat (.int a), .dat (.int c), .dat (.list (S.map PyData.int)), .dat (.list (D.map PyData.int)), .dat (.bool (fullG S)), .dat (.bool (greatG S)), .dat (.int (countG S)), .ml (((List.range i).map (wtG S D)).map encW), .dat (.int (i : Int)), .ml (((List.range j).map (lineG S D i)).map encS ++ [encS (spD d (dvC (fullG S) (greatG S) d j))]), .dat (.int (j : Int)), .dat (.int d), .dat (.int (d.fmod 2)), .dat (.list ((dvC (fullG S) (greatG S) d j).map PyData.int)), .un, .un, .un, .un]) ?_ (.eq (.eq (.eq (.eq (.eq (.eq (.eq (.eq (.eq (.eq (.un (.un (.un (.un (.un (.un (.un (.un .nil))))))))))))))))))
      refine run_seq (run_set (ed_ixl (ed_var 3 rfl).l (ed_I (ed_I0 (ed_I (ed_int 3) (ed_var 8 rfl) (Bt.mulx (n := 20) (m := 20) (by decide) (bt_range (by omega) (by omega)) (by decide))) (ed_var 10 rfl)) (ed_int 16) (by decide)) hat)) ?_
      refine run_seq (run_set (ed_I (ed_var 11 rfl) (ed_int 2) (by decide))) ?_
      refine run_seq (run_setN (en_lst (ds := [.int (d.fmod 2), .int (d.fmod 2 + 1 + (d.fdiv 2).fmod 3)]) (ea_d (ed_var 12 rfl) (ea_d (ed_I0 (ed_I0 (ed_var 12 rfl) (ed_int 1)) (ed_I (ed_I (ed_var 11 rfl) (ed_int 2) ⟨by decide, by decide⟩) (ed_int 3) (by decide))) ea_nil)))) ?_
      refine run_seq (e1 := [.dat (.int a), .dat (.int c), .dat (.list (S.map PyData.int)), .dat (.list (D.map PyData.int)), .dat (.bool (fullG S)), .dat (.bool (greatG S)), .dat (.int (countG S)), .ml (((List.range i).map (wtG S D)).map encW), .dat (.int (i : Int)), .ml (((List.range j).map (lineG S D i)).map encS), .dat (.int (j : Int)), .dat (.int d), .dat (.int (d.fmod 2)), .ml ((dvB (fullG S) d).map PyData.int), .un, .un, .un, .un]) (run_if (b := decide ((d.fdiv 6).fmod 2 = 1) && !fullG S) (et_and (et_test (ed_eqI (ed_I (ed_I (ed_var 11 rfl) (ed_int 6) ⟨by decide, by decide⟩) (ed_int 2) (by decide)) (ed_int 1))) (fun _ => et_not (et_B (ed_var 4 rfl)))) (fun hb => ?_) (fun hb => ?_)) ?_
      · rw [show dvB (fullG S) d = dvA d ++ [d.fmod 2 + 1 + (d.fdiv 2).fmod 3 + 1 + (d.fdiv 12).fmod 4] by unfold dvB; rw [if_pos hb]]
        exact run_append (i := 13) (ds := (dvA d).map PyData.int) (d := .int (d.fmod 2 + 1 + (d.fdiv 2).fmod 3 + 1 + (d.fdiv 12).fmod 4)) rfl (ed_I0 (ed_I0 (ed_ixl (z := .int (d.fmod 2 + 1 + (d.fdiv 2).fmod 3)) (el_var (ds := (dvA d).map PyData.int) 13 rfl) (ed_int 1) rfl) (ed_int 1)) (ed_I (ed_I (ed_var 11 rfl) (ed_int 12) ⟨by decide, by decide⟩) (ed_int 4) (by decide))) (by show 2 < 10000000; decide)
      · rw [show dvB (fullG S) d = dvA d by unfold dvB; rw [if_neg (by rw [hb]; decide)]]
        exact run_next
      refine run_seq (e1 := [.dat (.int a), .dat (.int c), .dat (.list (S.map PyData.int)), .dat (.list (D.map PyData.int)), .dat (.bool (fullG S)), .dat (.bool (greatG S)), .dat (.int (countG S)), .ml (((List.range i).map (wtG S D)).map encW), .dat (.int (i : Int)), .ml (((List.range j).map (lineG S D i)).map encS), .dat (.int (j : Int)), .dat (.int d), .dat (.int (d.fmod 2)), .ml ((dvC (fullG S) (greatG S) d j).map PyData.int), .un, .un, .un, .un]) (run_if (b := greatG S && decide ((j : Int) = 0)) (et_and (et_B (ed_var 5 rfl)) (fun _ => et_test (ed_eqI (ed_var 10 rfl) (ed_int 0)))) (fun hb => ?_) (fun hb => ?_)) ?_
      · rw [show dvC (fullG S) (greatG S) d j = dvB (fullG S) d ++ [20 + d.fmod 41] by unfold dvC; rw [if_pos hb], List.map_append]
        exact run_append (i := 13) rfl (ed_I0 (ed_int 20) (ed_I (ed_var 11 rfl) (ed_int 41) (by decide))) (by rw [List.length_map]; omega)
      · rw [show dvC (fullG S) (greatG S) d j = dvB (fullG S) d by unfold dvC; rw [if_neg (by rw [hb]; decide)]]
        exact run_next
      refine run_pub 13 rfl ?_
      exact run_append (i := 9) rfl (EvN.d (en_call (x := ((d, dvC (fullG S) (greatG S) d j) : Int × List Int)) (ea_d (ed_var 11 rfl) (ea_d (ed_var 13 rfl) ea_nil)) rfl (by show (dvC (fullG S) (greatG S) d j).length ≤ 100; omega))) hlen
    rw [List.length_map, List.length_range]
    refine run_pub 9 rfl ?_
    have hat := hD.ix (i := 10 + (i : Int)) (10 + i) (by omega) (by omega)
    have hwt : wtG S D i = ⟨premG S i, (List.range (nlG S i).toNat).map (lineG S D i), spD (D.getD (10 + i) 0) (othersG (countG S) (D.getD (10 + i) 0))⟩ := rfl
    rw [hwt]
    generalize D.getD (10 + i) 0 = d at hat ⊢
    have hol := othersG_len (countG S) d hcb.2
    refine run_seq (run_setN ((en_lc (ei_is (ei_rng1 (ed_var 6 rfl) (by omega)) (rng_map _)) (ts := [10]) (by decide) (lc_filter (fun k : Nat => PyData.int (k : Int)) (fun k => if otherB (countG S) d k = true then some (PyData.int (k : Int)) else none) fun k hk => ⟨_, eg_name (by decide), ?_⟩) (by rw [List.length_map, List.length_range]; omega)).is (d' := (othersG (countG S) d).map PyData.int) (by unfold othersG; rw [List.map_filterMap]; congr 1; funext k; split <;> rfl))) (run_pub 14 rfl ?_)
    · have hk := List.mem_range.mp hk
      by_cases ho : otherB (countG S) d k = true
      · exact .inl ⟨_, if_pos ho, (et_or (et_test (ed_B0 (ed_I (ed_I (ed_ixl (ed_var 3 rfl).l (ed_I0 (ed_int 10) (ed_var 8 rfl)) hat) (ed_I0 (ed_var 10 rfl) (ed_int 1)) (cdk _ (by omega))) (ed_int 3) (by decide)) (ed_int 0))) (fun _ => et_test (ed_eqI (ed_var 10 rfl) (ed_I (ed_ixl (ed_var 3 rfl).l (ed_I0 (ed_int 10) (ed_var 8 rfl)) hat) (ed_var 6 rfl) (by omega))))).is ho, ed_var 10 rfl⟩
      · exact .inr ⟨if_neg ho, (et_or (et_test (ed_B0 (ed_I (ed_I (ed_ixl (ed_var 3 rfl).l (ed_I0 (ed_int 10) (ed_var 8 rfl)) hat) (ed_I0 (ed_var 10 rfl) (ed_int 1)) (cdk _ (by omega))) (ed_int 3) (by decide)) (ed_int 0))) (fun _ => et_test (ed_eqI (ed_var 10 rfl) (ed_I (ed_ixl (ed_var 3 rfl).l (ed_I0 (ed_int 10) (ed_var 8 rfl)) hat) (ed_var 6 rfl) (by omega))))).is (show otherB (countG S) d k = false by simpa using ho)⟩
    have hs2 := hS.ix (i := 2) 2 rfl (by decide)
    refine run_seq (run_set (d := .int (prem1 S i)) (ed_I (ed_I (ed_ixl (ed_var 2 rfl).l (ed_int 2) hs2) (ed_I0 (ed_var 8 rfl) (ed_int 1)) (cdk _ (by omega))) (ed_int 4) (by decide))) ?_
    refine run_seq (e1 := [.dat (.int a), .dat (.int c), .dat (.list (S.map PyData.int)), .dat (.list (D.map PyData.int)), .dat (.bool (fullG S)), .dat (.bool (greatG S)), .dat (.int (countG S)), .ml (((List.range i).map (wtG S D)).map encW), .dat (.int (i : Int)), .dat (.list (((List.range (nlG S i).toNat).map (lineG S D i)).map encS)), .un, .un, .un, .un, .dat (.list ((othersG (countG S) d).map PyData.int)), .dat (.int (premG S i)), .un, .un]) (run_if (b := decide ((S.getD 5 0).fmod 4 = 3)) (et_test (ed_eqI (ed_I (ed_ixl (ed_var 2 rfl).l (ed_int 5) (hS.ix 5 rfl (by decide))) (ed_int 4) (by decide)) (ed_int 3))) (fun hb => ?_) (fun hb => ?_)) ?_
    · rw [show premG S i = ((S.getD 2 0).fdiv ((i : Int) + 1)).fmod 25 by unfold premG; rw [if_pos (of_decide_eq_true hb)]]
      exact run_set (ed_I (ed_I (ed_ixl (ed_var 2 rfl).l (ed_int 2) hs2) (ed_I0 (ed_var 8 rfl) (ed_int 1)) (cdk _ (by omega))) (ed_int 25) (by decide))
    · rw [show premG S i = prem1 S i by unfold premG; rw [if_neg (of_decide_eq_false hb)]]
      exact run_next
    exact run_append (i := 7) (d := .tuple [.int (premG S i), .list (((List.range (nlG S i).toNat).map (lineG S D i)).map encS), encS (spD d (othersG (countG S) d))]) rfl (ed_tup (ds := [.int (premG S i), .list (((List.range (nlG S i).toNat).map (lineG S D i)).map encS), encS (spD d (othersG (countG S) d))]) (ea_d (ed_var 15 rfl) (ea_d (ed_var 9 rfl) (ea_d (EvN.d (en_call (x := ((d, othersG (countG S) d) : Int × List Int)) (ea_d (ed_ixl (ed_var 3 rfl).l (ed_I0 (ed_int 10) (ed_var 8 rfl)) hat) (ea_d (ed_var 14 rfl) ea_nil)) rfl (by show (othersG (countG S) d).length ≤ 100; omega))) ea_nil)))) (by rw [List.length_map, List.length_map, List.length_range]; omega)
  rw [List.length_map, List.length_range]
  refine run_pub 7 rfl ?_
  have hnt := ntG_bd S
  refine run_seq (run_setN (en_lst (ds := []) ea_nil)) ?_
  refine run_seq (run_for (ts := [8]) (ds := (List.range (ntG S).toNat).map fun k : Nat => PyData.int (k : Int)) (fun i => [.dat (.int a), .dat (.int c), .dat (.list (S.map PyData.int)), .dat (.list (D.map PyData.int)), .dat (.bool (fullG S)), .dat (.bool (greatG S)), .dat (.int (countG S)), .dat (.list (((List.range (countG S).toNat).map (wtG S D)).map encW)), .un, .un, .un, .un, .un, .un, .un, .un, .ml (((List.range i).map fun k => trG (fullG S) (D.getD ((13 + k) % 16) 0) k).map encT), .un]) (ei_is (ei_rng1 (j := ntG S) (ed_if (et_B (ed_var 4 rfl)) (fun hb => (ed_int 4).is (by unfold ntG; rw [if_pos hb])) (fun hb => (ed_I0 (ed_int 1) (ed_I (ed_ixl (ed_var 2 rfl).l (ed_int 3) (hS.ix 3 rfl (by decide))) (ed_int 3) (by decide))).is (by unfold ntG; rw [if_neg (by rw [hb]; decide)]))) (by omega)) (rng_map _)) (Less.refl _) (fun i d hi hd => ⟨_, eg_name (by decide), ?_⟩)) ?_
  · rw [List.length_map, List.length_range] at hi
    obtain rfl : d = .int (i : Int) := by rw [List.getElem?_map, List.getElem?_range hi] at hd; exact (Option.some.inj hd).symm
    rw [List.range_succ, List.map_append, List.map_append, List.map_singleton, List.map_singleton]
    have hx : (13 + (i : Int)).fmod 16 = (((13 + i) % 16 : Nat) : Int) := by rw [← mod16]; congr 1
    have hat := hD.ix ((13 + i) % 16) hx (by omega)
    generalize D.getD ((13 + i) % 16) 0 = d at hat ⊢
    have hny := nyG_bd (fullG S) i
    refine Turn1.n (e1 := [.dat (.int a), .dat (.int c), .dat (.list (S.map PyData.int)), .dat (.list (D.map PyData.int)), .dat (.bool (fullG S)), .dat (.bool (greatG S)), .dat (.int (countG S)), .dat (.list (((List.range (countG S).toNat).map (wtG S D)).map encW)), .dat (.int (i : Int)), .un, .un, .dat (.int (drG d (nyG (fullG S) i).toNat)), .un, .un, .un, .un, .ml (((List.range i).map fun k => trG (fullG S) (D.getD ((13 + k) % 16) 0) k).map encT ++ [encT (trG (fullG S) d i)]), .dat (.list ((laysG d (nyG (fullG S) i).toNat).map encL))]) ?_ (.eq (.eq (.eq (.eq (.eq (.eq (.eq (.eq (.un (.un (.un (.un (.un (.un (.un (.un (.eq (.un .nil))))))))))))))))))
    refine run_seq (run_set (ed_ixl (ed_var 3 rfl).l (ed_I (ed_I0 (ed_int 13) (ed_var 8 rfl)) (ed_int 16) (by decide)) hat)) ?_
    refine run_seq (run_setN (en_lst (ds := []) ea_nil)) ?_
    refine run_seq (run_for (ts := [10]) (ds := (List.range (nyG (fullG S) i).toNat).map fun k : Nat => PyData.int (k : Int)) (fun j => [.dat (.int a), .dat (.int c), .dat (.list (S.map PyData.int)), .dat (.list (D.map PyData.int)), .dat (.bool (fullG S)), .dat (.bool (greatG S)), .dat (.int (countG S)), .dat (.list (((List.range (countG S).toNat).map (wtG S D)).map encW)), .dat (.int (i : Int)), .un, .un, .dat (.int (drG d j)), .un, .un, .un, .un, .ml (((List.range i).map fun k => trG (fullG S) (D.getD ((13 + k) % 16) 0) k).map encT), .ml ((laysG d j).map encL)]) (ei_is (ei_rng1 (j := nyG (fullG S) i) (ed_if (b := fullG S && decide ((i : Int) = 1)) (et_and (et_B (ed_var 4 rfl)) (fun _ => et_test (ed_eqI (ed_var 8 rfl) (ed_int 1)))) (fun hb => (ed_int 4).is (by unfold nyG; rw [if_pos hb])) (fun hb => (ed_int 1).is (by unfold nyG; rw [if_neg (by rw [hb]; decide)]))) (by omega)) (rng_map _)) (Less.refl _) (fun j d' hj hd => ⟨_, eg_name (by decide), ?_⟩)) ?_
    · rw [List.length_map, List.length_range] at hj
      obtain rfl : d' = .int (j : Int) := by rw [List.getElem?_map, List.getElem?_range hj] at hd; exact (Option.some.inj hd).symm
      have hll : ((laysG d j).map encL).length < 10000000 := by rw [List.length_map]; have := laysG_len d j; omega
      refine Turn1.n (e1 := [.dat (.int a), .dat (.int c), .dat (.list (S.map PyData.int)), .dat (.list (D.map PyData.int)), .dat (.bool (fullG S)), .dat (.bool (greatG S)), .dat (.int (countG S)), .dat (.list (((List.range (countG S).toNat).map (wtG S D)).map encW)), .dat (.int (i : Int)), .un, .dat (.int (j : Int)), .dat (.int (drG d (j + 1))), .un, .un, .un, .un, .ml (((List.range i).map fun k => trG (fullG S) (D.getD ((13 + k) % 16) 0) k).map encT), .ml ((laysG d (j + 1)).map encL)]) ?_ (.eq (.eq (.eq (.eq (.eq (.eq (.eq (.eq (.eq (.eq (.un (.eq (.un (.un (.un (.un (.eq (.eq .nil))))))))))))))))))
      refine run_seq (run_set (d := .int (drG d (j + 1))) (ed_I0 (ed_var 11 rfl) (ed_I (ed_int 7) (ed_var 10 rfl) (Bt.mulx (n := 20) (m := 20) (by decide) (bt_range (by omega) (by omega)) (by decide))))) ?_
      have hly : laysG d (j + 1) = laysG d j ++ layG (drG d (j + 1)) := rfl
      rw [hly, List.map_append]
      generalize laysG d j = L at hll ⊢
      generalize drG d (j + 1) = x
      refine run_if (b := decide (x.fmod 4 = 1)) (et_test (ed_eqI (ed_I (ed_var 11 rfl) (ed_int 4) (by decide)) (ed_int 1))) (fun hb => ?_) (fun hb => ?_)
      · have h1 := of_decide_eq_true hb
        rw [show layG x = [.limit ((x.fdiv 4).fmod 4)] by unfold layG; rw [if_pos h1]]
        exact run_append (i := 17) rfl (ed_tup (ds := [.str "limit", .int ((x.fdiv 4).fmod 4)]) (ea_d (ed_str "limit") (ea_d (ed_I (ed_I (ed_var 11 rfl) (ed_int 4) ⟨by decide, by decide⟩) (ed_int 4) (by decide)) ea_nil))) hll
      have h1 := of_decide_eq_false hb
      refine run_if (b := decide (x.fmod 4 = 2)) (et_test (ed_eqI (ed_I (ed_var 11 rfl) (ed_int 4) (by decide)) (ed_int 2))) (fun hb => ?_) (fun hb => ?_)
      · have h2 := of_decide_eq_true hb
        rw [show layG x = [.share (Rat.divInt ((x.fdiv 4).fmod 4) 3)] by unfold layG; rw [if_neg h1, if_pos h2]]
        have hm := fm2 (x := x.fdiv 4) (m := 4) (by decide)
        exact run_append (i := 17) rfl (ed_tup (ds := [.str "share", encQ (Rat.divInt ((x.fdiv 4).fmod 4) 3)]) (ea_d (ed_str "share") (ea_d (ed_call (x := (((x.fdiv 4).fmod 4, 3) : Int × Int)) (ea_d (ed_I (ed_I (ed_var 11 rfl) (ed_int 4) ⟨by decide, by decide⟩) (ed_int 4) (by decide)) (ea_d (ed_int 3) ea_nil)) rfl ⟨by show (0 : Int) < 3; decide, Bt.mono (n := 20) (by show Bt 20 3; decide) (by decide), Bt.mono (n := 20) (bt_range (by show _ < (x.fdiv 4).fmod 4; omega) (by show (x.fdiv 4).fmod 4 < _; omega)) (by decide)⟩) ea_nil))) hll
      have h2 := of_decide_eq_false hb
      refine run_if (b := decide (x.fmod 4 = 3)) (et_test (ed_eqI (ed_I (ed_var 11 rfl) (ed_int 4) (by decide)) (ed_int 3))) (fun hb => ?_) (fun hb => ?_)
      · have h3 := of_decide_eq_true hb
        rw [show layG x = [.band ((x.fdiv 4).fmod 3) ((x.fdiv 4).fmod 3 + (x.fdiv 12).fmod 4)] by unfold layG; rw [if_neg h1, if_neg h2, if_pos h3]]
        exact run_append (i := 17) rfl (ed_tup (ds := [.str "band", .int ((x.fdiv 4).fmod 3), .int ((x.fdiv 4).fmod 3 + (x.fdiv 12).fmod 4)]) (ea_d (ed_str "band") (ea_d (ed_I (ed_I (ed_var 11 rfl) (ed_int 4) ⟨by decide, by decide⟩) (ed_int 3) (by decide)) (ea_d (ed_I0 (ed_I (ed_I (ed_var 11 rfl) (ed_int 4) ⟨by decide, by decide⟩) (ed_int 3) (by decide)) (ed_I (ed_I (ed_var 11 rfl) (ed_int 12) ⟨by decide, by decide⟩) (ed_int 4) (by decide))) ea_nil)))) hll
      · have h3 := of_decide_eq_false hb
        rw [show layG x = [] by unfold layG; rw [if_neg h1, if_neg h2, if_neg h3], List.map_nil, List.append_nil]
        exact run_next
    rw [List.length_map, List.length_range]
    refine run_pub 17 rfl ?_
    exact run_append (i := 16) (d := .tuple [.int (((drG d (nyG (fullG S) i).toNat).fdiv 48).fmod 3), .list ((laysG d (nyG (fullG S) i).toNat).map encL)]) rfl (ed_tup (ds := [.int (((drG d (nyG (fullG S) i).toNat).fdiv 48).fmod 3), .list ((laysG d (nyG (fullG S) i).toNat).map encL)]) (ea_d (ed_I (ed_I (ed_var 11 rfl) (ed_int 48) ⟨by decide, by decide⟩) (ed_int 3) (by decide)) (ea_d (ed_var 17 rfl) ea_nil))) (by rw [List.length_map, List.length_map, List.length_range]; omega)
  rw [List.length_map, List.length_range]
  refine run_seq (e1 := [.dat (.int a), .dat (.int c), .dat (.list (S.map PyData.int)), .dat (.list (D.map PyData.int)), .dat (.bool (fullG S)), .dat (.bool (greatG S)), .dat (.int (countG S)), .dat (.list (((List.range (countG S).toNat).map (wtG S D)).map encW)), .un, .un, .un, .un, .un, .un, .un, .un, .ml ((trs2 S D).map encT), .un]) (run_if (et_B (ed_var 4 rfl)) (fun hb => ?_) (fun hb => ?_)) (run_pub 16 rfl (run_ret (ed_tup (ds := [.list (((List.range (countG S).toNat).map (wtG S D)).map encW), .list ((trs2 S D).map encT)]) (ea_d (ed_var 7 rfl) (ea_d (ed_var 16 rfl) ea_nil)))))
  · have e4 : (ntG S).toNat = 4 := by unfold ntG; rw [if_pos hb]; rfl
    rw [show trs2 S D = (trs1 S D).set 3 ⟨0, (trG true (D.getD 0 0) 3).ls⟩ by unfold trs2; rw [if_pos hb], List.map_set]
    have hl4 : ((trs1 S D).map encT).length = 4 := by unfold trs1; rw [List.length_map, List.length_map, List.length_range, e4]
    refine run_store (i := 16) rfl (ed_tup (ds := [.int 0, .list ((trG true (D.getD 0 0) 3).ls.map encL)]) (ea_d (ed_int 0) (ea_d (ed_ixT (ed_ixl (z := encT (trG true (D.getD 0 0) 3)) (el_var 16 rfl) (ed_int 3) ?_) (ed_int 1) rfl) ea_nil))) (ed_int 3) ?_
    · rw [e4, hb]; rfl
    · rw [hl4]; rfl
  · rw [show trs2 S D = trs1 S D by unfold trs2; rw [if_neg (by rw [hb]; decide)]]
    exact run_next

end
end KP

namespace KP
open PySem L2 DL MX
section
variable {P : Program} {w : World} {K : PySem.W.Frag} {mg : Str → Option Value} {base : Heap}
theorem first_bad {α : Type} {b : α → Bool} : ∀ {l : List α}, (¬∀ p ∈ l, b p = true) → ∃ (n : Nat) (p : α), l[n]? = some p ∧ b p = false ∧ ∀ (j : Nat) (q : α), j < n → l[j]? = some q → b q = true
  | [], h => absurd (by simp) h
  | p :: l, h => by
    cases hb : b p with
    | false => exact ⟨0, p, rfl, hb, fun j q hj => (by omega)⟩
    | true =>
      have h2 : ¬∀ q ∈ l, b q = true := fun z => h fun q hq => by
        rcases List.mem_cons.mp hq with e | e
        · rw [e]; exact hb
        · exact z q e
      obtain ⟨n, e, h3, h4, h5⟩ := first_bad h2
      refine ⟨n + 1, e, by simpa using h3, h4, fun j q hj hq => ?_⟩
      cases j with
      | zero => simp at hq; rw [← hq]; exact hb
      | succ j => exact h5 j q (by omega) (by simpa using hq)

/-! ### tables -/
abbrev frB (t l : Int) : Bool := decide (l ≥ 1) && decide (((Nat.gcd t.natAbs l.natAbs : Nat) : Int) = 1)
abbrev Fr := Int × Int
abbrev encF2 (p : Fr) : PyData := .tuple [.int p.1, .int p.2]
abbrev encRw (r : List Fr) : PyData := .list (r.map encF2)
structure RTb where
  rows : List (List Fr)
  scales : List Fr
  q : Fr
abbrev encTb (t : RTb) : PyData := .tuple [.list (t.rows.map encRw), .list (t.scales.map encF2), encF2 t.q]
theorem sc_is_fraction : FnScope ["pair", "top", "low"] ["pair"] (defScope s_is_fraction) := ⟨rfl, rfl, rfl, by decide +kernel, rfl, by decide +kernel, by decide +kernel⟩
def sp_is_fraction (K : PySem.W.Frag) : Sp := SpD K (fun a : Fr => [.dat (encF2 a)]) (fun _ => True) (fun a => .bool (frB a.1 a.2))
theorem ok_is_fraction {f : Addr} {fd : FuncData} (F : Fun K "is_fraction" "is_fraction" s_is_fraction f fd) (m_gcd : mg "gcd" = some (.builtin "math.gcd")) : FnOk P w K mg base CX0 1 f fd ["pair"] (sp_is_fraction K) := by
  have sc := sc_is_fraction
  refine fn_D F sc (fun _ => rfl) fun cdv A outer s H E hr => ?_
  refine ⟨_, (pss_cons (ps_asg (pv 0) (pg_tup rfl (pgs_cons (pg_name (i := 1) sc.nd rfl (by first | exact Or.inl rfl | exact Or.inr rfl)) (pgs_cons (pg_name (i := 2) sc.nd rfl (by first | exact Or.inl rfl | exact Or.inr rfl)) pgs_nil))))
      (pss_one (ps_ret (pe_and (pe_cmpR op_ge (pv 2) pe_int (nomark _)) (pe_one (pe_cmpR op_eq (pe_callBfun cr_gcd (by rfl) m_gcd (pa_cons (pv 1) (pa_cons (pv 2) pa_nil))) pe_int (nomark _))))))), fun a _ => ?_⟩
  refine run_seq (run_asg (ts := [1, 2]) (ed_var 0 rfl) (eg_tup (egs_cons (eg_name (by decide)) (egs_cons (eg_name (by decide)) egs_nil)) rfl)) ?_
  exact run_ret (ed_andV (ed_B0 (ed_var 2 rfl) (ed_int 1)) fun _ => ed_eqI (ed_gcd (ed_var 1 rfl) (ed_var 2 rfl)) (ed_int 1))
theorem sc_is_less : FnScope ["first", "second"] ["first", "second"] (defScope s_is_less) := ⟨rfl, rfl, rfl, by decide +kernel, rfl, by decide +kernel, by decide +kernel⟩
def sp_is_less (K : PySem.W.Frag) : Sp := SpD K (fun a : Fr × Fr => [.dat (encF2 a.1), .dat (encF2 a.2)]) (fun a => (Bt 4000 a.1.1 ∧ Bt 4000 a.1.2) ∧ Bt 4000 a.2.1 ∧ Bt 4000 a.2.2) (fun a => .bool (decide (a.1.1 * a.2.2 < a.2.1 * a.1.2)))
theorem ok_is_less {f : Addr} {fd : FuncData} (F : Fun K "is_less" "is_less" s_is_less f fd) : FnOk P w K mg base CX0 1 f fd ["first", "second"] (sp_is_less K) := by
  have sc := sc_is_less
  refine fn_D F sc (fun _ => rfl) fun cdv A outer s H E hr => ?_
  refine ⟨_, (pss_one (ps_ret (pe_cmpR op_lt (pe_op op_mulX (pe_ix (r := rIxT K) ix_tup (pv 0) pe_int (fun _ _ => rfl)) (pe_ix (r := rIxT K) ix_tup (pv 1) pe_int (fun _ _ => rfl))) (pe_op op_mulX (pe_ix (r := rIxT K) ix_tup (pv 1) pe_int (fun _ _ => rfl)) (pe_ix (r := rIxT K) ix_tup (pv 0) pe_int (fun _ _ => rfl))) (nomark _)))), fun a ha => ?_⟩
  obtain ⟨⟨a, b⟩, c, d⟩ := a
  obtain ⟨⟨ha, hb⟩, hc, hd⟩ := ha
  have ha : Bt 4000 a := ha
  have hb : Bt 4000 b := hb
  have hc : Bt 4000 c := hc
  have hd : Bt 4000 d := hd
  exact run_ret (ed_B0 (ed_I (ed_ixT (ed_var 0 rfl) (ed_int 0) rfl) (ed_ixT (ed_var 1 rfl) (ed_int 1) rfl) (ha.mulx hd (by decide))) (ed_I (ed_ixT (ed_var 1 rfl) (ed_int 0) rfl) (ed_ixT (ed_var 0 rfl) (ed_int 1) rfl) (hc.mulx hb (by decide))))
def betB (q : Fr) : Bool := decide (0 * q.2 < q.1 * 1) && decide (q.1 * 1 < 1 * q.2)
theorem sc_is_between : FnScope ["item"] ["item"] (defScope s_is_between) := ⟨rfl, rfl, rfl, by decide +kernel, rfl, by decide +kernel, by decide +kernel⟩
def sp_is_between (K : PySem.W.Frag) : Sp := SpD K (fun q : Fr => [.dat (encF2 q)]) (fun q => Bt 4000 q.1 ∧ Bt 4000 q.2) (fun q => .bool (betB q))
theorem ok_is_between {f aZERO aONE : Addr} {fd : FuncData} (F : Fun K "is_between" "is_between" s_is_between f fd) (m_ZERO : mg "ZERO" = some (.ref aZERO)) (c_ZERO : ∀ G : Hp, Dd K G (.ref aZERO) (encQ 0)) (m_ONE : mg "ONE" = some (.ref aONE)) (c_ONE : ∀ G : Hp, Dd K G (.ref aONE) (encQ 1)) (C_is_less : Callee P w K mg base CX0 1 "is_less" ["first", "second"] (sp_is_less K)) : FnOk P w K mg base CX0 2 f fd ["item"] (sp_is_between K) := by
  have sc := sc_is_between
  refine fn_D F sc (fun _ => rfl) fun cdv A outer s H E hr => ?_
  refine ⟨_, (pss_one (ps_ret (pe_and (pe_c C_is_less (hr.mono (by decide)) pass0 (pa_cons (pe_glob (v := .ref aZERO) rfl m_ZERO rfl) (pa_cons (pv 0) pa_nil))) (pe_one (pe_c C_is_less (hr.mono (by decide)) pass0 (pa_cons (pv 0) (pa_cons (pe_glob (v := .ref aONE) rfl m_ONE rfl) pa_nil))))))), fun q hq => ?_⟩
  have b0 : Bt 4000 0 := by show (0 : Int).natAbs < 2 ^ 4000; exact Nat.pos_of_ne_zero (by simp)
  have b1 : Bt 4000 1 := Bt.one (by decide)
  exact run_ret (ed_andV (ed_call (x := (((0, 1), q) : Fr × Fr)) (ea_d (ed_con c_ZERO) (ea_d (ed_var 0 rfl) ea_nil)) rfl ⟨⟨b0, b1⟩, hq⟩) (fun _ => ed_call (x := ((q, (1, 1)) : Fr × Fr)) (ea_d (ed_var 0 rfl) (ea_d (ed_con c_ONE) ea_nil)) rfl ⟨hq, b1, b1⟩))
structure TbPre (t : RTb) : Prop where
  rows : t.rows.length ≤ 1000
  flat : t.rows.flatten.length ≤ 10000
  scales : t.scales.length ≤ 1000
  q : Bt 4000 t.q.1 ∧ Bt 4000 t.q.2
theorem sc_worths_in : FnScope ["table", "rows", "scales", "_", "row", "item"] ["table"] (defScope s_worths_in) := ⟨rfl, rfl, rfl, by decide +kernel, rfl, by decide +kernel, by decide +kernel⟩
def sp_worths_in (K : PySem.W.Frag) : Sp := SpN K (fun t : RTb => [.dat (encTb t)]) TbPre (fun t => (t.rows.flatten ++ t.scales).map encF2)
theorem ok_worths_in {f : Addr} {fd : FuncData} (F : Fun K "worths_in" "worths_in" s_worths_in f fd) : FnOk P w K mg base CX0 1 f fd ["table"] (sp_worths_in K) := by
  have sc := sc_worths_in
  refine fn_N F sc (fun _ => rfl) fun cdv A outer s H E hr => ?_
  refine ⟨_, (pss_cons (ps_asg (pv 0) (pg_tup rfl (pgs_cons (pg_name (i := 1) sc.nd rfl (by first | exact Or.inl rfl | exact Or.inr rfl)) (pgs_cons (pg_name (i := 2) sc.nd rfl (by first | exact Or.inl rfl | exact Or.inr rfl)) (pgs_cons (pg_name (i := 3) sc.nd rfl (by first | exact Or.inl rfl | exact Or.inr rfl)) pgs_nil)))))
      (pss_one (ps_ret (pe_op op_cat (pe_lc2 (wi1 := iList K (tVar 4)) (own := [("row", 4), ("item", 5)]) (vs1 := [5]) rfl sc.nd (pi_list (pv 1)) (blkOk_by (own := [("row", 4), ("item", 5)]) (N := ["table", "rows", "scales", "_", "row", "item"]) (sc := defScope s_worths_in) (by decide +kernel)) (by decide) (fun _ _ _ _ _ => (pg_name (i := 4) sc.nd rfl (Or.inl rfl))) (fun _ _ _ _ _ => pts_nil) (fun _ _ _ _ _ => (pi_list (pv 4))) (fun _ _ _ _ _ => (pg_name (i := 5) sc.nd rfl (Or.inl rfl))) (fun _ _ _ _ _ => pts_nil) (fun _ _ _ _ _ => (pv 5))) (pv 2))))), fun t ht => ?_⟩
  refine run_seq (run_asg (ts := [1, 2, 3]) (ed_var 0 rfl) (eg_tup (egs_cons (eg_name (by decide)) (egs_cons (eg_name (by decide)) (egs_cons (eg_name (by decide)) egs_nil))) rfl)) ?_
  have ef : (t.rows.map fun r => r.map encF2).flatten = t.rows.flatten.map encF2 := by rw [List.map_flatten]
  have hfl : (t.rows.map fun r => r.map encF2).flatten.length = t.rows.flatten.length := by rw [ef, List.length_map]
  have h1 := ht.flat
  have h2 := ht.scales
  refine run_retN ((en_cat (en_lc2 (t.rows.map fun r => r.map encF2) (ei_list (ed_var 1 rfl)) (by decide) (by decide) (by rw [List.length_map, List.length_map]) (fun i d zs hd hz => ?_) (by rw [hfl]; omega)).l (ed_var 2 rfl).l (by rw [hfl, List.length_map]; omega)).is (by rw [ef, List.map_append]))
  rw [List.getElem?_map] at hd hz
  cases hr : t.rows[i]? with
  | none => rw [hr] at hd; cases hd
  | some r =>
    rw [hr] at hd hz
    cases hd; cases hz
    refine ⟨r.map encF2, ei_list (ed_var 4 rfl), rfl, fun j e z he hz => ?_⟩
    rw [he] at hz
    cases hz
    exact ed_var 5 rfl
/-! ### check_table -/
def shB (n : Nat) (t : RTb) : Bool := decide (t.rows.length = n) && decide (t.scales.length = n)
def rowB (t : RTb) (r : List Fr) : Bool := decide (r.length = (t.rows.headD []).length)
def itemsF (t : RTb) : List Fr := t.rows.flatten ++ t.scales ++ [t.q]
def tabB (n : Nat) (t : RTb) : Bool := shB n t && (t.rows.all (rowB t) && ((itemsF t).all (fun p => frB p.1 p.2) && betB t.q))
def tabO (a : Hs × RTb) : Option PyData := if tabB a.1.ws.length a.2 = true then some .none else none
theorem sc_check_table : FnScope ["house", "table", "rows", "scales", "q", "many", "row", "item"] ["house", "table"] (defScope s_check_table) := ⟨rfl, rfl, rfl, by decide +kernel, rfl, by decide +kernel, by decide +kernel⟩
def sp_check_table (K : PySem.W.Frag) (C : Addr) : Sp := SpX K (fun a : Hs × RTb => [.dat (encH a.1), .dat (encTb a.2)]) (fun a => TbPre a.2) (.ref C) tabO
theorem ok_check_table {f C : Addr} {fd : FuncData} (F : Fun K "check_table" "check_table" s_check_table f fd) (m_len : mg "len" = none) (e_OutOfRange : ErrC K mg "OutOfRange" C) (C_is_fraction : Callee P w K mg base CX0 1 "is_fraction" ["pair"] (sp_is_fraction K)) (C_worths_in : Callee P w K mg base CX0 1 "worths_in" ["table"] (sp_worths_in K)) (C_is_between : Callee P w K mg base CX0 2 "is_between" ["item"] (sp_is_between K)) :
    FnOk P w K mg base (L2.CX P w) 3 f fd ["house", "table"] (sp_check_table K C) := by
  have sc := sc_check_table
  refine fn_X F sc (fun _ => rfl) fun cdv A outer s H E hr => ?_
  refine ⟨_, (pss_cons (ps_asg (pv 1) (pg_tup rfl (pgs_cons (pg_name (i := 2) sc.nd rfl (by first | exact Or.inl rfl | exact Or.inr rfl)) (pgs_cons (pg_name (i := 3) sc.nd rfl (by first | exact Or.inl rfl | exact Or.inr rfl)) (pgs_cons (pg_name (i := 4) sc.nd rfl (by first | exact Or.inl rfl | exact Or.inr rfl)) pgs_nil)))))
      (pss_cons (ps_set (i := 5) sc.nd rfl (by first | exact Or.inl rfl | exact Or.inr rfl) (pe_callB (id := "len") (r := rLenS K) call_len_seq (by rfl) m_len PySem.boot_len (pa_cons (pe_ix (r := rIxT K) ix_tup (pv 0) pe_int (fun _ _ => rfl)) pa_nil)))
      (pss_cons (ps_if (PW.pt (pw_or (pt_cmpR op_ne (pe_callB (id := "len") (r := rLenS K) call_len_seq (by rfl) m_len PySem.boot_len (pa_cons (pv 2) pa_nil)) (pv 5) (nomark _)) (pw_or1 (pt_cmpR op_ne (pe_callB (id := "len") (r := rLenS K) call_len_seq (by rfl) m_len PySem.boot_len (pa_cons (pv 3) pa_nil)) (pv 5) (nomark _))))) (pss_one (ps_err rfl (takes_of rfl rfl rfl rfl) e_OutOfRange rfl)) pss_nil)
      (pss_cons (ps_for (passes_of rfl) rfl (pi_list (pv 2)) (pg_name (i := 6) sc.nd rfl (by first | exact Or.inl rfl | exact Or.inr rfl)) (pss_one (ps_if (pt_cmpR op_ne (pe_callB (id := "len") (r := rLenS K) call_len_seq (by rfl) m_len PySem.boot_len (pa_cons (pv 6) pa_nil)) (pe_callB (id := "len") (r := rLenS K) call_len_seq (by rfl) m_len PySem.boot_len (pa_cons (pe_ix (r := rIxL K) ix_list (pv 2) pe_int (fun _ _ => rfl)) pa_nil)) (nomark _)) (pss_one (ps_err rfl (takes_of rfl rfl rfl rfl) e_OutOfRange rfl)) pss_nil)))
      (pss_cons (ps_for (passes_of rfl) rfl (pi_list (pe_op op_cat (pe_c C_worths_in (hr.mono (by decide)) pass0 (pa_cons (pv 1) pa_nil)) (pe_lst (pa_cons (pv 4) pa_nil)))) (pg_name (i := 7) sc.nd rfl (by first | exact Or.inl rfl | exact Or.inr rfl)) (pss_one (ps_if (pt_not (pt_val (pe_c C_is_fraction (hr.mono (by decide)) pass0 (pa_cons (pv 7) pa_nil)))) (pss_one (ps_err rfl (takes_of rfl rfl rfl rfl) e_OutOfRange rfl)) pss_nil)))
      (pss_one (ps_if (pt_not (pt_val (pe_c C_is_between (hr.mono (by decide)) pass0 (pa_cons (pv 4) pa_nil)))) (pss_one (ps_err rfl (takes_of rfl rfl rfl rfl) e_OutOfRange rfl)) pss_nil))))))), fun a hpre => ?_⟩
  obtain ⟨h, t⟩ := a
  have hpre : TbPre t := hpre
  have eE : ∀ d, tabO (h, t) = some d → d = .none := fun d hd => by unfold tabO at hd; split at hd <;> cases hd; rfl
  have tst1 : EvT K (tOr (tTest (tOp rNe (tCB (rLenS K) (tCons (tVar 2) tNil)) (tVar 5))) (tTest (tOp rNe (tCB (rLenS K) (tCons (tVar 3) tNil)) (tVar 5)))) [.dat (encH h), .dat (encTb t), .dat (.list (t.rows.map encRw)), .dat (.list (t.scales.map encF2)), .dat (encF2 t.q), .dat (.int (h.ws.length : Int)), .un, .un] (!shB h.ws.length t) := (et_or (et_test (ed_neI (ed_lenl (ed_var 2 rfl).l) (ed_var 5 rfl))) (fun _ => et_test (ed_neI (ed_lenl (ed_var 3 rfl).l) (ed_var 5 rfl)))).is (by
    rw [List.length_map, List.length_map]
    unfold shB
    rw [Bool.not_and]
    congr 2 <;> exact decide_eq_decide.mpr (by omega))
  have tst2 : ∀ r : List Fr, t.rows ≠ [] → EvT K (tTest (tOp rNe (tCB (rLenS K) (tCons (tVar 6) tNil)) (tCB (rLenS K) (tCons (tOp (rIxL K) (tVar 2) (tC (.int 0))) tNil)))) [.dat (encH h), .dat (encTb t), .dat (.list (t.rows.map encRw)), .dat (.list (t.scales.map encF2)), .dat (encF2 t.q), .dat (.int (h.ws.length : Int)), .dat (encRw r), .un] (!rowB t r) := fun r hne => (et_test (ed_neI (ed_lenl (ed_var 6 rfl).l) (ed_lenl (ed_ixl (z := encRw (t.rows.headD [])) (ed_var 2 rfl).l (ed_int 0) (by
      cases hr : t.rows with
      | nil => exact absurd hr hne
      | cons a l => exact atI_int (by decide) rfl)).l))).is (by
    rw [List.length_map, List.length_map]
    unfold rowB
    congr 1; exact decide_eq_decide.mpr (by omega))
  have tst3 : ∀ p : Fr, EvT K (tNot (tB (tCall (sp_is_fraction K) [] E0 (tCons (tVar 7) tNil)))) [.dat (encH h), .dat (encTb t), .dat (.list (t.rows.map encRw)), .dat (.list (t.scales.map encF2)), .dat (encF2 t.q), .dat (.int (h.ws.length : Int)), .un, .dat (encF2 p)] (!frB p.1 p.2) := fun p => et_not (et_B (ed_call (x := p) (ea_d (ed_var 7 rfl) ea_nil) rfl trivial))
  have tst4 : EvT K (tNot (tB (tCall (sp_is_between K) [] E0 (tCons (tVar 4) tNil)))) [.dat (encH h), .dat (encTb t), .dat (.list (t.rows.map encRw)), .dat (.list (t.scales.map encF2)), .dat (encF2 t.q), .dat (.int (h.ws.length : Int)), .un, .un] (!betB t.q) := et_not (et_B (ed_call (x := t.q) (ea_d (ed_var 4 rfl) ea_nil) rfl hpre.q))
  have turn : ∀ {α : Type} {f : α → PyData} (l : List α) (i : Nat) (d : PyData), (l.map f)[i]? = some d → ∃ r, l[i]? = some r ∧ d = f r := fun l i d hd => by
    rw [List.getElem?_map] at hd
    obtain ⟨r, h1, h2⟩ := Option.map_eq_some_iff.mp hd
    exact ⟨r, h1, h2.symm⟩
  have l6 : ∀ {a b c d e f g h : SD}, Less [a, b, c, d, e, f, g, h] [a, b, c, d, e, f, .un, .un] := (.eq (.eq (.eq (.eq (.eq (.eq (.un (.un .nil))))))))
  have items : EvI K (iList K (tOp rCat (tCall (sp_worths_in K) [] E0 (tCons (tVar 1) tNil)) (tLst (tCons (tVar 4) tNil)))) [.dat (encH h), .dat (encTb t), .dat (.list (t.rows.map encRw)), .dat (.list (t.scales.map encF2)), .dat (encF2 t.q), .dat (.int (h.ws.length : Int)), .un, .un] ((itemsF t).map encF2) := ei_is (ei_list (en_cat (en_call (x := t) (ea_d (ed_var 1 rfl) ea_nil) rfl hpre).l (en_lst (ds := [encF2 t.q]) (ea_d (ed_var 4 rfl) ea_nil)).l (by have := hpre.flat; have := hpre.scales; rw [List.length_map, List.length_append]; show _ + 1 ≤ 1000000; omega)).d) (by unfold itemsF; rw [List.map_append, List.map_append, List.map_append]; rfl)
  have start : ∀ {u : TS} {r : RD}, Run K E u [.dat (encH h), .dat (encTb t), .dat (.list (t.rows.map encRw)), .dat (.list (t.scales.map encF2)), .dat (encF2 t.q), .dat (.int (h.ws.length : Int)), .un, .un] r → Run K E (tSeq (tAsg (tVar 1) (gTup K 3 (gCons (gName 2) (gCons (gName 3) (gCons (gName 4) gNil))))) (tSeq (tAsg (tCB (rLenS K) (tCons (tOp (rIxT K) (tVar 0) (tC (.int 0))) tNil)) (gName 5)) u)) [.dat (encH h), .dat (encTb t), .un, .un, .un, .un, .un, .un] r := fun hu => run_seq (run_asg (ts := [2, 3, 4]) (ed_var 1 rfl) (eg_tup (egs_cons (eg_name (by decide)) (egs_cons (eg_name (by decide)) (egs_cons (eg_name (by decide)) egs_nil))) rfl)) (run_seq (run_set ((ed_lenl (ed_ixT (ed_var 0 rfl) (ed_int 0) rfl).l).is (d' := .int (h.ws.length : Int)) (by rw [List.length_map]))) hu)
  cases c1 : shB h.ws.length t with
  | false =>
    have hn : tabO (h, t) = none := by unfold tabO tabB; simp [c1]
    exact ⟨fun d hd => (by rw [hn] at hd; cases hd), fun _ => start (run_seqE (run_ifT (tst1.is (by rw [c1]; rfl)) run_err))⟩
  | true =>
  have go1 := run_ifF (K := K) (E := E) (t := fun _ _ H => E (.ref C) none H) (tst1.is (show _ = false by rw [c1]; rfl)) run_next
  cases c2 : t.rows.all (rowB t) with
  | false =>
    have hn : tabO (h, t) = none := by unfold tabO tabB; simp [c1, c2]
    obtain ⟨n, r, e1, e2, e3⟩ := first_bad (b := rowB t) (l := t.rows) (fun z => by rw [List.all_eq_true.mpr z] at c2; cases c2)
    have hne : t.rows ≠ [] := fun z => by rw [z] at e1; cases e1
    refine ⟨fun d hd => (by rw [hn] at hd; cases hd), fun _ => start (run_seq go1 (run_seqE (run_forE (ts := [6]) (fun _ => [.dat (encH h), .dat (encTb t), .dat (.list (t.rows.map encRw)), .dat (.list (t.scales.map encF2)), .dat (encF2 t.q), .dat (.int (h.ws.length : Int)), .un, .un]) n (ei_list (ed_var 2 rfl)) (Less.refl _) (fun i d hi hd => ?_) (d := encRw r) (by rw [List.getElem?_map, e1]; rfl) (eg_name (by decide)) (run_ifT ((tst2 r hne).is (by rw [e2]; rfl)) run_err))))⟩
    obtain ⟨r', hr', rfl⟩ := turn t.rows i d hd
    exact ⟨_, eg_name (by decide), .n (run_ifF ((tst2 r' hne).is (by rw [e3 i r' hi hr']; rfl)) run_next) l6⟩
  | true =>
  have go2 := run_for (K := K) (E := E) (ts := [6]) (fun _ => [.dat (encH h), .dat (encTb t), .dat (.list (t.rows.map encRw)), .dat (.list (t.scales.map encF2)), .dat (encF2 t.q), .dat (.int (h.ws.length : Int)), .un, .un]) (ei_list (ed_var 2 rfl)) (Less.refl _) (g := gName 6) (tb := tIfS (tTest (tOp rNe (tCB (rLenS K) (tCons (tVar 6) tNil)) (tCB (rLenS K) (tCons (tOp (rIxL K) (tVar 2) (tC (.int 0))) tNil)))) (fun _ _ H => E (.ref C) none H) tNext) (fun i d hi hd => by
    obtain ⟨r', hr', rfl⟩ := turn t.rows i d hd
    have hne : t.rows ≠ [] := fun z => by rw [z] at hr'; cases hr'
    exact ⟨_, eg_name (by decide), .n (run_ifF ((tst2 r' hne).is (by rw [List.all_eq_true.mp c2 r' (List.mem_of_getElem? hr')]; rfl)) run_next) l6⟩)
  cases c3 : (itemsF t).all (fun p => frB p.1 p.2) with
  | false =>
    have hn : tabO (h, t) = none := by unfold tabO tabB; simp [c1, c2, c3]
    obtain ⟨n, r, e1, e2, e3⟩ := first_bad (b := fun p : Fr => frB p.1 p.2) (l := itemsF t) (fun z => by rw [List.all_eq_true.mpr z] at c3; cases c3)
    refine ⟨fun d hd => (by rw [hn] at hd; cases hd), fun _ => start (run_seq go1 (run_seq go2 (run_seqE (run_forE (ts := [7]) (fun _ => [.dat (encH h), .dat (encTb t), .dat (.list (t.rows.map encRw)), .dat (.list (t.scales.map encF2)), .dat (encF2 t.q), .dat (.int (h.ws.length : Int)), .un, .un]) n items (Less.refl _) (fun i d hi hd => ?_) (d := encF2 r) (by rw [List.getElem?_map, e1]; rfl) (eg_name (by decide)) (run_ifT ((tst3 r).is (by rw [e2]; rfl)) run_err)))))⟩
    obtain ⟨r', hr', rfl⟩ := turn (itemsF t) i d hd
    exact ⟨_, eg_name (by decide), .n (run_ifF ((tst3 r').is (by rw [e3 i r' hi hr']; rfl)) run_next) l6⟩
  | true =>
  have go3 := run_for (K := K) (E := E) (ts := [7]) (fun _ => [.dat (encH h), .dat (encTb t), .dat (.list (t.rows.map encRw)), .dat (.list (t.scales.map encF2)), .dat (encF2 t.q), .dat (.int (h.ws.length : Int)), .un, .un]) items (Less.refl _) (g := gName 7) (tb := tIfS (tNot (tB (tCall (sp_is_fraction K) [] E0 (tCons (tVar 7) tNil)))) (fun _ _ H => E (.ref C) none H) tNext) (fun i d hi hd => by
    obtain ⟨r', hr', rfl⟩ := turn (itemsF t) i d hd
    exact ⟨_, eg_name (by decide), .n (run_ifF ((tst3 r').is (by rw [List.all_eq_true.mp c3 r' (List.mem_of_getElem? hr')]; rfl)) run_next) l6⟩)
  cases c4 : betB t.q with
  | false =>
    have hn : tabO (h, t) = none := by unfold tabO tabB; simp [c4]
    exact ⟨fun d hd => (by rw [hn] at hd; cases hd), fun _ => start (run_seq go1 (run_seq go2 (run_seq go3 (run_ifT (tst4.is (by rw [c4]; rfl)) run_err))))⟩
  | true =>
    have hn : tabO (h, t) = some .none := by unfold tabO tabB; simp [c1, c2, c3, c4]
    exact ⟨fun d hd => .inr ⟨eE d hd, _, start (run_seq go1 (run_seq go2 (run_seq go3 (run_ifF (tst4.is (by rw [c4]; rfl)) run_next))))⟩, fun z => (by rw [hn] at z; cases z)⟩

end
end KP

namespace KP
open PySem L2 DL MX
section
variable {P : Program} {w : World} {K : PySem.W.Frag} {mg : Str → Option Value} {base : Heap}
/-! ### slices of encoded lists -/
section
variable {α : Type} {fe : α → PyData} {ta tb te tm : TE} {env : EnvD} {n m : Int} {L M : List α} {k j : Nat}
theorem cutD_tail {xs : List D} {a : Nat} : cutD xs (some (a : Int)) none = xs.drop a := by
  unfold cutD
  rw [HT.sIx_nat]
  show (xs.drop (min a xs.length)).take (xs.length - min a xs.length) = _
  by_cases h : a ≤ xs.length
  · rw [Nat.min_eq_left h, List.take_of_length_le (by rw [List.length_drop]; omega)]
  · rw [Nat.min_eq_right (by omega), List.drop_eq_nil_of_le (Nat.le_refl _), List.drop_eq_nil_of_le (by omega), List.take_nil]
theorem en_to (ha : EvL K ta env (L.map fe)) (hi : EvD K te env (.int n)) (hn : n = (k : Int)) : EvN K (tSl (rSlL K) ta tNoPart (tPart te)) env ((L.take k).map fe) :=
  (en_slice ha eo_none (eo_some hi)).is (by rw [hn, cutD_first, List.map_take])
theorem en_from (ha : EvL K ta env (L.map fe)) (hi : EvD K te env (.int n)) (hn : n = (k : Int)) : EvN K (tSl (rSlL K) ta (tPart te) tNoPart) env ((L.drop k).map fe) :=
  (en_slice ha (eo_some hi) eo_none).is (by rw [hn, cutD_tail, List.map_drop])
theorem en_app (ha : EvL K ta env (L.map fe)) (hb : EvL K tb env (M.map fe)) (hl : L.length ≤ 1000 ∧ M.length ≤ 1000) : EvN K (tOp rCat ta tb) env ((L ++ M).map fe) := (en_cat ha hb (by rw [List.length_map, List.length_map]; omega)).is (by rw [List.map_append])
/-- L[:k] + M + L[j:] -/
theorem en_mid (ha : EvL K ta env (L.map fe)) (hi : EvD K te env (.int n)) (hn : n = (k : Int)) (hM : EvL K tm env (M.map fe)) (hj : EvD K tb env (.int m)) (hm : m = (j : Int)) (hl : L.length ≤ 1000 ∧ M.length ≤ 1000) :
    EvN K (tOp rCat (tOp rCat (tSl (rSlL K) ta tNoPart (tPart te)) tm) (tSl (rSlL K) ta (tPart tb) tNoPart)) env ((L.take k ++ M ++ L.drop j).map fe) :=
  (en_cat (en_cat (en_to ha hi hn).l hM (by rw [List.length_map, List.length_map, List.length_take]; omega)).l (en_from ha hj hm).l (by rw [List.length_append, List.length_map, List.length_map, List.length_map, List.length_take, List.length_drop]; omega)).is (by rw [List.map_append, List.map_append])
theorem mem_mid {P : α → Prop} (hL : ∀ p ∈ L, P p) (hM : ∀ p ∈ M, P p) : ∀ p ∈ L.take k ++ M ++ L.drop j, P p := fun p hp => by
  rcases List.mem_append.mp hp with hp | hp
  · rcases List.mem_append.mp hp with hp | hp
    · exact hL p (List.mem_of_mem_take hp)
    · exact hM p hp
  · exact hL p (List.mem_of_mem_drop hp)
theorem len_midF : (L.take k ++ M ++ L.drop j).length ≤ L.length + M.length + L.length := by
  rw [List.length_append, List.length_append, List.length_take, List.length_drop]; omega
end
theorem fmod_nat {x : Int} {n : Nat} (h : 0 < n) : ∃ m : Nat, m < n ∧ x.fmod (n : Int) = (m : Int) := by
  have := fmod_bd (x := x) (y := (n : Int)) (by omega)
  exact ⟨(x.fmod (n : Int)).toNat, by omega, by omega⟩
theorem ed_p2 {env : EnvD} {ta tb : TE} {j k : Int} (hx : EvD K ta env (.int j)) (hy : EvD K tb env (.int k)) : EvD K (tTup (tCons ta (tCons tb tNil))) env (.tuple [.int j, .int k]) := ed_tup (ds := [.int j, .int k]) (ea_d hx (ea_d hy ea_nil))
/-! ### refused -/
structure ErrsS (K : PySem.W.Frag) (mg : Str → Option Value) (C C1 C2 : Addr) : Prop where
  eC : ErrC K mg "OutOfRange" C
  g1 : mg "CofferError" = some (.ref C1)
  g2 : mg "TooLong" = some (.ref C2)
  k1 : PySem.W.kitOne K (.ref C) (.ref C1) = some true
  k2 : PySem.W.kitOne K (.ref C) (.ref C2) = some false
theorem sc__law_refused : FnScope ["house", "table", "e"] ["house", "table"] (defScope s__law_refused) := ⟨rfl, rfl, rfl, by decide +kernel, rfl, by decide +kernel, by decide +kernel⟩
def sp__law_refused (K : PySem.W.Frag) : Sp := SpD K (fun a : Hs × RTb => [.dat (encH a.1), .dat (encTb a.2)]) (fun a => TbPre a.2 ∧ tabO a = none) (fun _ => .bool true)
theorem ok__law_refused {f C C1 C2 : Addr} {fd : FuncData} (F : Fun K "_law_refused" "_law_refused" s__law_refused f fd) (T : ErrsS K mg C C1 C2) (m_isinstance : mg "isinstance" = none) (C_check_table : Callee P w K mg base (L2.CX P w) 3 "check_table" ["house", "table"] (sp_check_table K C)) :
    FnOk P w K mg base CX0 4 f fd ["house", "table"] (sp__law_refused K) := by
  have sc := sc__law_refused
  refine fn_D F sc (fun _ => rfl) fun cdv A outer s H E hr => ?_
  refine ⟨_, (pss_cons (ps_try_as (i := 2) (Wout := fun _ _ _ _ => False) rfl rfl sc.nd rfl rfl ⟨rfl, by decide, .inl T.eC.g⟩ takes0
    (fun W pn xe tk _ => pss_one (ps_expr (pe_cS C_check_table (hr.mono (by decide)) (fun σ => passAt tk σ) (pa_cons (pv 0) (pa_cons (pv 1) pa_nil)))))
    (fun a oe cls d pn hz hf => pss_one (ps_ret (pe_and (pe_callB (call_isF T.eC.own hz hf) (by rfl) m_isinstance (by decide +kernel) (pa_cons (pv 2) (pa_cons (pe_glob (v := .ref C1) rfl T.g1 rfl) pa_nil)))
      (pe_one (pe_not (pe_callB (call_isF T.eC.own hz hf) (by rfl) m_isinstance (by decide +kernel) (pa_cons (pv 2) (pa_cons (pe_glob (v := .ref C2) rfl T.g2 rfl) pa_nil)))))))))
    (pss_one (ps_ret pe_bl))), fun a ha => ?_⟩
  refine run_seqR (run_tryR (x := a) (ea_d (ed_var 0 rfl) (ea_d (ed_var 1 rfl) ea_nil)) rfl ha.1 ha.2 T.eC.exm fun b => ?_)
  exact run_ret (ed_andV (ed_isF (c := .ref C1) (cv := .ref C1) rfl (fun _ h => h) T.k1) fun _ => ed_notV (ed_isF (c := .ref C2) (cv := .ref C2) rfl (fun _ h => h) T.k2))
/-! ### spoilt tables -/
def itemsL : List Fr := [(2, 4), (0, 3), (1, 0), (3, -1), (-1, -2), (0, 0), (6, 3)]
def badQ : List Fr := [(0, 1), (1, 1), (-1, 2), (3, 2), (2, 4), (1, 0), (-1, -3)]
def spW (t : RTb) (d : Int) : Nat := (d.fmod t.rows.length).toNat
def spI (d : Int) : Fr := itemsL.getD ((d.fdiv 3).fmod 7).toNat (0, 0)
def spA (t : RTb) (d : Int) : Nat := ((d.fdiv 21).fmod (t.rows.headD []).length).toNat
def spS (t : RTb) (d : Int) : List Fr := (List.range t.scales.length).map fun k : Nat => if (k : Int) = (spW t d : Int) then spI d else t.scales.getD k (0, 0)
def spo1 (t : RTb) (d : Int) : List RTb := [⟨t.rows ++ [t.rows.headD []], t.scales, t.q⟩, ⟨t.rows.drop 1, t.scales, t.q⟩, ⟨t.rows, t.scales ++ [(1, 2)], t.q⟩, ⟨t.rows, t.scales.drop 1, t.q⟩] ++ [⟨t.rows, spS t d, t.q⟩]
def spL (t : RTb) (d : Int) : List (List Fr) := t.rows.set (spW t d) (t.rows.getD (spW t d) [] ++ [(1, 3)])
def spX (t : RTb) (d : Int) : List (List Fr) := t.rows.set (spW t d) ((t.rows.getD (spW t d) []).set (spA t d) (spI d))
def spo2 (t : RTb) (d : Int) : List RTb := if 1 < t.rows.length then spo1 t d ++ [⟨spL t d, t.scales, t.q⟩] else spo1 t d
def spo3 (t : RTb) (d : Int) : List RTb := if 0 < (t.rows.headD []).length then spo2 t d ++ [⟨spX t d, t.scales, t.q⟩] else spo2 t d
def spoF (t : RTb) (d : Int) : List RTb := spo3 t d ++ badQ.map fun one => ⟨t.rows, t.scales, one⟩
structure SpPre (a : RTb × Int) : Prop where
  n : 1 ≤ a.1.rows.length ∧ a.1.rows.length ≤ 100
  sc : a.1.scales.length ≤ 100
  rw : ∀ r ∈ a.1.rows, r.length = (a.1.rows.headD []).length
  len : (a.1.rows.headD []).length ≤ 1000
theorem en_listof {ta : TE} {env : EnvD} {ds : List D} (ha : EvL K ta env ds) : EvN K (tCB (rLstOf K) (tCons ta tNil)) env ds := fun G0 H0 G H σ ok Q q =>
  ha G0 H0 G H σ ok _ fun p xs G1 H1 a h1 hd => ⟨p, xs, rfl, .inl (SqL.of h1), fun l hl => q l xs G1 _ (a.trans (Fw.hid a.gh hl)) (a.hh.free hl) (a.gh.free hl) upd_same hd⟩
theorem set_rows (L : List (List Fr)) (k : Nat) (z : List Fr) : (L.set k z).map encRw = ((L.map fun r => r.map encF2).set k (z.map encF2)).map PyData.list := by
  rw [List.map_set, List.map_set, List.map_map]; rfl
theorem ixN_at {n : Nat} {x : Int} {k : Nat} (e : x = (k : Int)) (h : k < n) : ixN n x = some k := by
  subst e
  unfold ixN
  simp; omega
theorem sc__law_spoilt : FnScope ["rows", "scales", "q", "draw", "w", "items", "item", "longer", "wrong", "at", "spoilt", "row", "one", "k"] ["rows", "scales", "q", "draw"] (defScope s__law_spoilt) := ⟨rfl, rfl, rfl, by decide +kernel, rfl, by decide +kernel, by decide +kernel⟩
def sp__law_spoilt (K : PySem.W.Frag) : Sp := SpN K (fun a : RTb × Int => [.dat (.list (a.1.rows.map encRw)), .dat (.list (a.1.scales.map encF2)), .dat (encF2 a.1.q), .dat (.int a.2)]) SpPre (fun a => (spoF a.1 a.2).map encTb)
theorem ok__law_spoilt {f : Addr} {fd : FuncData} (F : Fun K "_law_spoilt" "_law_spoilt" s__law_spoilt f fd) (m_len : mg "len" = none) (m_list : mg "list" = none) (m_range : mg "range" = none) : FnOk P w K mg base CX0 1 f fd ["rows", "scales", "q", "draw"] (sp__law_spoilt K) := by
  have sc := sc__law_spoilt
  refine fn_N F sc (fun _ => rfl) fun cdv A outer s H E hr => ?_
  refine ⟨_, (pss_cons (ps_set (i := 4) sc.nd rfl (by first | exact Or.inl rfl | exact Or.inr rfl) (pe_op op_modN (pv 3) (pe_callB (id := "len") (r := rLenS K) call_len_seq (by rfl) m_len PySem.boot_len (pa_cons (pv 0) pa_nil))))
      (pss_cons (ps_set (i := 5) sc.nd rfl (by first | exact Or.inl rfl | exact Or.inr rfl) (pe_lst (pa_cons (pe_tup (pa_cons pe_int (pa_cons pe_int pa_nil))) (pa_cons (pe_tup (pa_cons pe_int (pa_cons pe_int pa_nil))) (pa_cons (pe_tup (pa_cons pe_int (pa_cons pe_int pa_nil))) (pa_cons (pe_tup (pa_cons pe_int (pa_cons (pe_un un_neg pe_int) pa_nil))) (pa_cons (pe_tup (pa_cons (pe_un un_neg pe_int) (pa_cons (pe_un un_neg pe_int) pa_nil))) (pa_cons (pe_tup (pa_cons pe_int (pa_cons pe_int pa_nil))) (pa_cons (pe_tup (pa_cons pe_int (pa_cons pe_int pa_nil))) pa_nil)))))))))
      (pss_cons (ps_set (i := 6) sc.nd rfl (by first | exact Or.inl rfl | exact Or.inr rfl) (pe_ix (r := rIxL K) ix_list (pv 5) (pe_op op_modN (pe_op op_fdivZ (pv 3) pe_int) pe_int) (fun _ _ => rfl)))
      (pss_cons (ps_setLc (i := 7) (own := [("row", 11)]) rfl sc.nd rfl rfl (sw_true rfl rfl rfl (by decide +kernel)) (pi_list (pv 0)) (blkOk_by (own := [("row", 11)]) (N := ["rows", "scales", "q", "draw", "w", "items", "item", "longer", "wrong", "at", "spoilt", "row", "one", "k"]) (sc := defScope s__law_spoilt) (by decide +kernel)) (fun _ _ _ _ _ => (pg_name (i := 11) sc.nd rfl (Or.inl rfl))) (fun _ _ _ _ _ => pts_nil) (fun _ _ _ _ _ => (pe_callTy (T := "list") (r := rLstOf K) call_list_of (by rfl) m_list (by decide +kernel) (pa_cons (pv 11) pa_nil))))
      (pss_cons (ps_expr (pe_bm PySem.F.plainAttrs_list PySem.F.slot_list_append PySem.F.type_list_append mt_append (pe_ix (r := rIxL K) ix_list (pv 7) (pv 4) (fun _ _ => rfl)) (pa_cons (pe_tup (pa_cons pe_int (pa_cons pe_int pa_nil))) pa_nil)))
      (pss_cons (ps_set (i := 8) sc.nd rfl (by first | exact Or.inl rfl | exact Or.inr rfl) (pe_lst (pa_cons (pe_tup (pa_cons (pe_op op_cat (pv 0) (pe_lst (pa_cons (pe_callTy (T := "list") (r := rLstOf K) call_list_of (by rfl) m_list (by decide +kernel) (pa_cons (pe_ix (r := rIxL K) ix_list (pv 0) pe_int (fun _ _ => rfl)) pa_nil)) pa_nil))) (pa_cons (pv 1) (pa_cons (pv 2) pa_nil)))) (pa_cons (pe_tup (pa_cons (pe_slice (r := rSlL K) sl_list (pv 0) (po_some pe_int) po_none) (pa_cons (pv 1) (pa_cons (pv 2) pa_nil)))) (pa_cons (pe_tup (pa_cons (pv 0) (pa_cons (pe_op op_cat (pv 1) (pe_lst (pa_cons (pe_tup (pa_cons pe_int (pa_cons pe_int pa_nil))) pa_nil))) (pa_cons (pv 2) pa_nil)))) (pa_cons (pe_tup (pa_cons (pv 0) (pa_cons (pe_slice (r := rSlL K) sl_list (pv 1) (po_some pe_int) po_none) (pa_cons (pv 2) pa_nil)))) pa_nil))))))
      (pss_cons (ps_expr (pe_bm PySem.F.plainAttrs_list PySem.F.slot_list_append PySem.F.type_list_append mt_append (pv 8) (pa_cons (pe_tup (pa_cons (pv 0) (pa_cons (pe_lc (own := [("k", 13)]) rfl sc.nd (pi_range1 (by rfl) m_range (pa_cons (pe_callB (id := "len") (r := rLenS K) call_len_seq (by rfl) m_len PySem.boot_len (pa_cons (pv 1) pa_nil)) pa_nil)) (blkOk_by (own := [("k", 13)]) (N := ["rows", "scales", "q", "draw", "w", "items", "item", "longer", "wrong", "at", "spoilt", "row", "one", "k"]) (sc := defScope s__law_spoilt) (by decide +kernel)) (fun _ _ _ _ _ => (pg_name (i := 13) sc.nd rfl (Or.inl rfl))) (fun _ _ _ _ _ => pts_nil) (fun _ _ _ _ _ => (pe_ifExp (pt_cmpR op_eq (pv 13) (pv 4) (nomark _)) (pv 6) (pe_ix (r := rIxL K) ix_list (pv 1) (pv 13) (fun _ _ => rfl))))) (pa_cons (pv 2) pa_nil)))) pa_nil)))
      (pss_cons (ps_if (pt_cmpR op_gt (pe_callB (id := "len") (r := rLenS K) call_len_seq (by rfl) m_len PySem.boot_len (pa_cons (pv 0) pa_nil)) pe_int (nomark _)) (pss_one (ps_expr (pe_bm PySem.F.plainAttrs_list PySem.F.slot_list_append PySem.F.type_list_append mt_append (pv 8) (pa_cons (pe_tup (pa_cons (pv 7) (pa_cons (pv 1) (pa_cons (pv 2) pa_nil)))) pa_nil)))) pss_nil)
      (pss_cons (ps_if (pt_cmpR op_gt (pe_callB (id := "len") (r := rLenS K) call_len_seq (by rfl) m_len PySem.boot_len (pa_cons (pe_ix (r := rIxL K) ix_list (pv 0) pe_int (fun _ _ => rfl)) pa_nil)) pe_int (nomark _)) (pss_cons (ps_set (i := 9) sc.nd rfl (by first | exact Or.inl rfl | exact Or.inr rfl) (pe_op op_modN (pe_op op_fdivZ (pv 3) pe_int) (pe_callB (id := "len") (r := rLenS K) call_len_seq (by rfl) m_len PySem.boot_len (pa_cons (pe_ix (r := rIxL K) ix_list (pv 0) pe_int (fun _ _ => rfl)) pa_nil))))
      (pss_cons (ps_setLc (i := 10) (own := [("row", 11)]) rfl sc.nd rfl rfl (sw_true rfl rfl rfl (by decide +kernel)) (pi_list (pv 0)) (blkOk_by (own := [("row", 11)]) (N := ["rows", "scales", "q", "draw", "w", "items", "item", "longer", "wrong", "at", "spoilt", "row", "one", "k"]) (sc := defScope s__law_spoilt) (by decide +kernel)) (fun _ _ _ _ _ => (pg_name (i := 11) sc.nd rfl (Or.inl rfl))) (fun _ _ _ _ _ => pts_nil) (fun _ _ _ _ _ => (pe_callTy (T := "list") (r := rLstOf K) call_list_of (by rfl) m_list (by decide +kernel) (pa_cons (pv 11) pa_nil))))
      (pss_cons (ps_asg (pv 6) (pg_sub (pe_ix (r := rIxL K) ix_list (pv 10) (pv 4) (fun _ _ => rfl)) (pv 9) set_list))
      (pss_one (ps_expr (pe_bm PySem.F.plainAttrs_list PySem.F.slot_list_append PySem.F.type_list_append mt_append (pv 8) (pa_cons (pe_tup (pa_cons (pv 10) (pa_cons (pv 1) (pa_cons (pv 2) pa_nil)))) pa_nil))))))) pss_nil)
      (pss_one (ps_ret (pe_op op_cat (pv 8) (pe_lc (own := [("one", 12)]) rfl sc.nd (pi_list (pe_lst (pa_cons (pe_tup (pa_cons pe_int (pa_cons pe_int pa_nil))) (pa_cons (pe_tup (pa_cons pe_int (pa_cons pe_int pa_nil))) (pa_cons (pe_tup (pa_cons (pe_un un_neg pe_int) (pa_cons pe_int pa_nil))) (pa_cons (pe_tup (pa_cons pe_int (pa_cons pe_int pa_nil))) (pa_cons (pe_tup (pa_cons pe_int (pa_cons pe_int pa_nil))) (pa_cons (pe_tup (pa_cons pe_int (pa_cons pe_int pa_nil))) (pa_cons (pe_tup (pa_cons (pe_un un_neg pe_int) (pa_cons (pe_un un_neg pe_int) pa_nil))) pa_nil))))))))) (blkOk_by (own := [("one", 12)]) (N := ["rows", "scales", "q", "draw", "w", "items", "item", "longer", "wrong", "at", "spoilt", "row", "one", "k"]) (sc := defScope s__law_spoilt) (by decide +kernel)) (fun _ _ _ _ _ => (pg_name (i := 12) sc.nd rfl (Or.inl rfl))) (fun _ _ _ _ _ => pts_nil) (fun _ _ _ _ _ => (pe_tup (pa_cons (pv 0) (pa_cons (pv 1) (pa_cons (pv 12) pa_nil)))))))))))))))))), fun a ha => ?_⟩
  obtain ⟨t, d⟩ := a
  have hn : 1 ≤ t.rows.length ∧ t.rows.length ≤ 100 := ha.n
  have hsc : t.scales.length ≤ 100 := ha.sc
  have hrw : ∀ r ∈ t.rows, r.length = (t.rows.headD []).length := ha.rw
  have hr0 : (t.rows.headD []).length ≤ 1000 := ha.len
  have hm := fm2 (x := d) (m := (t.rows.length : Int)) (by omega)
  have hwn : (spW t d : Int) = d.fmod t.rows.length := by unfold spW; omega
  have hwl : spW t d < t.rows.length := by omega
  have hrow : t.rows[spW t d]? = some (t.rows.getD (spW t d) []) := by rw [List.getD_eq_getElem?_getD, List.getElem?_eq_getElem hwl]; rfl
  have hrl : (t.rows.getD (spW t d) []).length = (t.rows.headD []).length := hrw _ (List.mem_of_getElem? hrow)
  have hi7 := fm2 (x := d.fdiv 3) (m := 7) (by decide)
  have hitem : atI (itemsL.map encF2) ((d.fdiv 3).fmod 7) = some (encF2 (spI d)) := by
    refine atI_int hi7.1 ?_
    have hl : ((d.fdiv 3).fmod 7).toNat < itemsL.length := by show _ < 7; omega
    unfold spI
    rw [List.getElem?_map, List.getD_eq_getElem?_getD, List.getElem?_eq_getElem hl]; rfl
  have hhead : atI (t.rows.map encRw) 0 = some (encRw (t.rows.headD [])) := by
    cases hr : t.rows with
    | nil => rw [hr] at hn; simp at hn
    | cons a l => exact atI_int (by decide) rfl
  show Run K E _ [.dat (.list (t.rows.map encRw)), .dat (.list (t.scales.map encF2)), .dat (encF2 t.q), .dat (.int d), .un, .un, .un, .un, .un, .un, .un, .un, .un, .un] (.rn ((spoF t d).map encTb))
  refine run_seq (run_set ((ed_I (ed_var 3 rfl) (ed_lenl (ed_var 0 rfl).l) (by rw [List.length_map]; omega)).is (d' := .int (spW t d : Int)) (by rw [List.length_map, hwn]))) ?_
  refine run_seq (run_setN ((en_lst (ds := [encF2 (2, 4), encF2 (0, 3), encF2 (1, 0), encF2 (3, -1), encF2 (-1, -2), encF2 (0, 0), encF2 (6, 3)]) (ea_d (ed_p2 (ed_int 2) (ed_int 4)) (ea_d (ed_p2 (ed_int 0) (ed_int 3)) (ea_d (ed_p2 (ed_int 1) (ed_int 0)) (ea_d (ed_p2 (ed_int 3) (ed_neg (ed_int 1))) (ea_d (ed_p2 (ed_neg (ed_int 1)) (ed_neg (ed_int 2))) (ea_d (ed_p2 (ed_int 0) (ed_int 0)) (ea_d (ed_p2 (ed_int 6) (ed_int 3)) ea_nil)))))))).is (d' := itemsL.map encF2) rfl)) ?_
  refine run_seq (run_set (ed_ixl (el_var 5 rfl) (ed_I (ed_I (ed_var 3 rfl) (ed_int 3) ⟨by decide, by decide⟩) (ed_int 7) (by decide)) hitem)) ?_
  have zs : ∀ (i : Nat) (d : PyData) (zs : List PyData), (t.rows.map encRw)[i]? = some d → (t.rows.map fun r => r.map encF2)[i]? = some zs → d = .list zs := fun i d zs h1 h2 => by
    rw [List.getElem?_map] at h1 h2
    cases hr : t.rows[i]? with
    | none => rw [hr] at h1; cases h1
    | some r => rw [hr] at h1 h2; cases h1; cases h2; rfl
  have hzw : (t.rows.map fun r => r.map encF2)[spW t d]? = some ((t.rows.getD (spW t d) []).map encF2) := by rw [List.getElem?_map, hrow]; rfl
  refine run_seqA (e1 := [.dat (.list (t.rows.map encRw)), .dat (.list (t.scales.map encF2)), .dat (encF2 t.q), .dat (.int d), .dat (.int (spW t d : Int)), .ml (itemsL.map encF2), .dat (encF2 (spI d)), .ml ((spL t d).map encRw), .un, .un, .un, .un, .un, .un]) ?_ ?_
  · have := run_nestA (K := K) (E := E) (L := 7) (t := 11) (vs := [11]) (te := tCB (rLstOf K) (tCons (tVar 11) tNil)) (tw := tVar 4) (te2 := tTup (tCons (tC (.int 1)) (tCons (tC (.int 3)) tNil))) (d := encF2 (1, 3)) (env := [.dat (.list (t.rows.map encRw)), .dat (.list (t.scales.map encF2)), .dat (encF2 t.q), .dat (.int d), .dat (.int (spW t d : Int)), .ml (itemsL.map encF2), .dat (encF2 (spI d)), .un, .un, .un, .un, .un, .un, .un]) hzw (ei_list (ed_var 0 rfl)) (by decide) (by rw [List.length_map, List.length_map]) (fun i d' zs' h1 h2 => by
      have e := zs i d' zs' h1 h2
      subst e
      exact en_listof (ed_var 11 rfl).l) (by rw [List.length_map]; omega) (by show 7 < 14; decide) (ed_var 4 rfl) (ed_p2 (ed_int 1) (ed_int 3)) (by rw [List.length_map]; omega)
    have e : (spL t d).map encRw = ((t.rows.map fun r => r.map encF2).set (spW t d) ((t.rows.getD (spW t d) []).map encF2 ++ [encF2 (1, 3)])).map PyData.list := by
      unfold spL
      rw [set_rows, List.map_append]; rfl
    rw [e]
    exact this
  refine run_pub 7 rfl ?_
  refine run_seq (run_setN (en_lst (ds := [encTb ⟨t.rows ++ [t.rows.headD []], t.scales, t.q⟩, encTb ⟨t.rows.drop 1, t.scales, t.q⟩, encTb ⟨t.rows, t.scales ++ [(1, 2)], t.q⟩, encTb ⟨t.rows, t.scales.drop 1, t.q⟩]) (ea_d (ed_tup (ds := [.list ((t.rows ++ [t.rows.headD []]).map encRw), .list (t.scales.map encF2), encF2 t.q]) (ea_d ((en_cat (ed_var 0 rfl).l (en_lst (ds := [encRw (t.rows.headD [])]) (ea_d (en_listof (ed_ixl (ed_var 0 rfl).l (ed_int 0) hhead).l).d ea_nil)).l (by rw [List.length_map]; show _ + 1 ≤ 1000000; omega)).is (d' := (t.rows ++ [t.rows.headD []]).map encRw) (by rw [List.map_append]; rfl)).d (ea_d (ed_var 1 rfl) (ea_d (ed_var 2 rfl) ea_nil))))
    (ea_d (ed_tup (ds := [.list ((t.rows.drop 1).map encRw), .list (t.scales.map encF2), encF2 t.q]) (ea_d (en_from (ed_var 0 rfl).l (ed_int 1) (k := 1) rfl).d (ea_d (ed_var 1 rfl) (ea_d (ed_var 2 rfl) ea_nil))))
    (ea_d (ed_tup (ds := [.list (t.rows.map encRw), .list ((t.scales ++ [(1, 2)]).map encF2), encF2 t.q]) (ea_d (ed_var 0 rfl) (ea_d ((en_cat (ed_var 1 rfl).l (en_lst (ds := [encF2 (1, 2)]) (ea_d (ed_p2 (ed_int 1) (ed_int 2)) ea_nil)).l (by rw [List.length_map]; show _ + 1 ≤ 1000000; omega)).is (d' := (t.scales ++ [(1, 2)]).map encF2) (by rw [List.map_append]; rfl)).d (ea_d (ed_var 2 rfl) ea_nil))))
    (ea_d (ed_tup (ds := [.list (t.rows.map encRw), .list ((t.scales.drop 1).map encF2), encF2 t.q]) (ea_d (ed_var 0 rfl) (ea_d (en_from (ed_var 1 rfl).l (ed_int 1) (k := 1) rfl).d (ea_d (ed_var 2 rfl) ea_nil)))) ea_nil)))))) ?_
  refine run_seq (run_append (i := 8) (d := encTb ⟨t.rows, spS t d, t.q⟩) rfl (ed_tup (ds := [.list (t.rows.map encRw), .list ((spS t d).map encF2), encF2 t.q]) (ea_d (ed_var 0 rfl) (ea_d ((en_lc (ei_is (ei_rng1 (ed_lenl (ed_var 1 rfl).l) (by rw [List.length_map]; omega)) (by rw [List.length_map, Int.toNat_natCast]; exact rng_map _)) (ts := [13]) (by decide) (lc_map (fun k : Nat => PyData.int (k : Int)) (fun k => encF2 (if (k : Int) = (spW t d : Int) then spI d else t.scales.getD k (0, 0))) fun k hk => ⟨_, eg_name (by decide), et_yes, ?_⟩) (by rw [List.length_map, List.length_range]; omega)).is (d' := (spS t d).map encF2) (by unfold spS; rw [List.map_map]; rfl)).d (ea_d (ed_var 2 rfl) ea_nil)))) (by show 4 < 10000000; decide)) ?_
  · have hk := List.mem_range.mp hk
    refine ed_if (et_test (ed_eqI (ed_var 13 rfl) (ed_var 4 rfl))) (fun hb => (ed_var 6 rfl).is (by rw [if_pos (of_decide_eq_true hb)])) (fun hb => (ed_ixl (ed_var 1 rfl).l (ed_var 13 rfl) (z := encF2 (t.scales.getD k (0, 0))) (atI_int (by omega) (by rw [Int.toNat_natCast, List.getElem?_map, List.getD_eq_getElem?_getD, List.getElem?_eq_getElem hk]; rfl))).is (by rw [if_neg (of_decide_eq_false hb)]))
  have hl1 : ((spo1 t d).map encTb).length = 5 := rfl
  refine run_seq (e1 := [.dat (.list (t.rows.map encRw)), .dat (.list (t.scales.map encF2)), .dat (encF2 t.q), .dat (.int d), .dat (.int (spW t d : Int)), .ml (itemsL.map encF2), .dat (encF2 (spI d)), .dat (.list ((spL t d).map encRw)), .ml ((spo2 t d).map encTb), .un, .un, .un, .un, .un]) (run_if (b := decide (1 < t.rows.length)) ((et_test (ed_B0 (g := fun x y => decide (x > y)) (ed_lenl (ed_var 0 rfl).l) (ed_int 1))).is (by rw [List.length_map]; exact decide_eq_decide.mpr (by omega))) (fun hb => ?_) (fun hb => ?_)) ?_
  · rw [show spo2 t d = spo1 t d ++ [⟨spL t d, t.scales, t.q⟩] by unfold spo2; rw [if_pos (of_decide_eq_true hb)], List.map_append]
    exact run_append (i := 8) (ds := (spo1 t d).map encTb) rfl (ed_tup (ds := [.list ((spL t d).map encRw), .list (t.scales.map encF2), encF2 t.q]) (ea_d (ed_var 7 rfl) (ea_d (ed_var 1 rfl) (ea_d (ed_var 2 rfl) ea_nil)))) (by rw [hl1]; decide)
  · rw [show spo2 t d = spo1 t d by unfold spo2; rw [if_neg (of_decide_eq_false hb)]]
    exact run_next
  have hl2 : ((spo2 t d).map encTb).length ≤ 6 := by
    rw [List.length_map]
    unfold spo2
    split
    · rw [List.length_append]; show 5 + 1 ≤ 6; decide
    · show 5 ≤ 6; decide
  refine run_seq (e1 := [.dat (.list (t.rows.map encRw)), .dat (.list (t.scales.map encF2)), .dat (encF2 t.q), .dat (.int d), .dat (.int (spW t d : Int)), .un, .un, .un, .ml ((spo3 t d).map encTb), .un, .un, .un, .un, .un]) (run_if (b := decide (0 < (t.rows.headD []).length)) ((et_test (ed_B0 (g := fun x y => decide (x > y)) (ed_lenl (ed_ixl (ed_var 0 rfl).l (ed_int 0) hhead).l) (ed_int 0))).is (by rw [List.length_map]; exact decide_eq_decide.mpr (by omega))) (fun hb => ?_) (fun hb => ?_)) ?_
  · have h0 := of_decide_eq_true hb
    rw [show spo3 t d = spo2 t d ++ [⟨spX t d, t.scales, t.q⟩] by unfold spo3; rw [if_pos h0], List.map_append]
    have hma := fm2 (x := d.fdiv 21) (m := ((t.rows.headD []).length : Int)) (by omega)
    have han : (spA t d : Int) = (d.fdiv 21).fmod (t.rows.headD []).length := by unfold spA; omega
    refine run_less (e1 := [.dat (.list (t.rows.map encRw)), .dat (.list (t.scales.map encF2)), .dat (encF2 t.q), .dat (.int d), .dat (.int (spW t d : Int)), .ml (itemsL.map encF2), .dat (encF2 (spI d)), .dat (.list ((spL t d).map encRw)), .ml ((spo2 t d).map encTb ++ [encTb ⟨spX t d, t.scales, t.q⟩]), .dat (.int (spA t d : Int)), .dat (.list ((spX t d).map encRw)), .un, .un, .un]) ?_ (.eq (.eq (.eq (.eq (.eq (.un (.un (.un (.eq (.un (.un (.un (.un (.un .nil))))))))))))))
    refine run_seq (run_set ((ed_I (ed_I (ed_var 3 rfl) (ed_int 21) ⟨by decide, by decide⟩) (ed_lenl (ed_ixl (ed_var 0 rfl).l (ed_int 0) hhead).l) (by rw [List.length_map]; omega)).is (d' := .int (spA t d : Int)) (by rw [List.length_map, han]))) ?_
    refine run_seqA (e1 := [.dat (.list (t.rows.map encRw)), .dat (.list (t.scales.map encF2)), .dat (encF2 t.q), .dat (.int d), .dat (.int (spW t d : Int)), .ml (itemsL.map encF2), .dat (encF2 (spI d)), .dat (.list ((spL t d).map encRw)), .ml ((spo2 t d).map encTb), .dat (.int (spA t d : Int)), .ml ((spX t d).map encRw), .un, .un, .un]) ?_ (run_pub 10 rfl (run_append (i := 8) (ds := (spo2 t d).map encTb) rfl (ed_tup (ds := [.list ((spX t d).map encRw), .list (t.scales.map encF2), encF2 t.q]) (ea_d (ed_var 10 rfl) (ea_d (ed_var 1 rfl) (ea_d (ed_var 2 rfl) ea_nil)))) (by omega)))
    have := run_nestS (K := K) (E := E) (L := 10) (t := 11) (vs := [11]) (te := tCB (rLstOf K) (tCons (tVar 11) tNil)) (tw := tVar 4) (te2 := tVar 6) (ty := tVar 9) (d := encF2 (spI d)) (n := (spA t d : Int)) (j := spA t d) (env := [.dat (.list (t.rows.map encRw)), .dat (.list (t.scales.map encF2)), .dat (encF2 t.q), .dat (.int d), .dat (.int (spW t d : Int)), .ml (itemsL.map encF2), .dat (encF2 (spI d)), .dat (.list ((spL t d).map encRw)), .ml ((spo2 t d).map encTb), .dat (.int (spA t d : Int)), .un, .un, .un, .un]) hzw (ei_list (ed_var 0 rfl)) (by decide) (by rw [List.length_map, List.length_map]) (fun i d' zs' h1 h2 => by
      have e := zs i d' zs' h1 h2
      subst e
      exact en_listof (ed_var 11 rfl).l) (by rw [List.length_map]; omega) (by show 10 < 14; decide) (ed_var 4 rfl) (ed_var 6 rfl) (ed_var 9 rfl) (ixN_at rfl (by rw [List.length_map]; omega))
    have e : (spX t d).map encRw = ((t.rows.map fun r => r.map encF2).set (spW t d) (((t.rows.getD (spW t d) []).map encF2).set (spA t d) (encF2 (spI d)))).map PyData.list := by
      unfold spX
      rw [set_rows, show (((t.rows.getD (spW t d) []).set (spA t d) (spI d)).map encF2) = ((t.rows.getD (spW t d) []).map encF2).set (spA t d) (encF2 (spI d)) by rw [List.map_set]]
    rw [e]
    exact this
  · rw [show spo3 t d = spo2 t d by unfold spo3; rw [if_neg (of_decide_eq_false hb)]]
    exact run_less run_next (.eq (.eq (.eq (.eq (.eq (.un (.un (.un (.eq (.un (.un (.un (.un (.un .nil))))))))))))))
  have hl3 : ((spo3 t d).map encTb).length ≤ 7 := by
    rw [List.length_map] at hl2 ⊢
    unfold spo3
    split
    · rw [List.length_append]; show _ + 1 ≤ 7; omega
    · omega
  refine run_retN ((en_cat (el_var 8 rfl) (en_lc (ei_list ((en_lst (ds := [encF2 (0, 1), encF2 (1, 1), encF2 (-1, 2), encF2 (3, 2), encF2 (2, 4), encF2 (1, 0), encF2 (-1, -3)]) (ea_d (ed_p2 (ed_int 0) (ed_int 1)) (ea_d (ed_p2 (ed_int 1) (ed_int 1)) (ea_d (ed_p2 (ed_neg (ed_int 1)) (ed_int 2)) (ea_d (ed_p2 (ed_int 3) (ed_int 2)) (ea_d (ed_p2 (ed_int 2) (ed_int 4)) (ea_d (ed_p2 (ed_int 1) (ed_int 0)) (ea_d (ed_p2 (ed_neg (ed_int 1)) (ed_neg (ed_int 3))) ea_nil)))))))).is (d' := badQ.map encF2) rfl).d) (ts := [12]) (by decide) (lc_map encF2 (fun one => encTb ⟨t.rows, t.scales, one⟩) fun one hk => ⟨_, eg_name (by decide), et_yes, ed_tup (ds := [.list (t.rows.map encRw), .list (t.scales.map encF2), encF2 one]) (ea_d (ed_var 0 rfl) (ea_d (ed_var 1 rfl) (ea_d (ed_var 12 rfl) ea_nil)))⟩) (by show 7 ≤ 10000000; decide)).l (by show _ + 7 ≤ 1000000; omega)).is (by unfold spoF; rw [List.map_append, List.map_map]; rfl))

end
end KP

namespace KP
open PySem L2 DL MX
section
variable {P : Program} {w : World} {K : PySem.W.Frag} {mg : Str → Option Value} {base : Heap}
/-! ### what the law's tables are -/
def frF (t l : Int) : Fr := ((Rat.divInt t l).num, ((Rat.divInt t l).den : Int))
theorem frB_frF (t l : Int) : frB (frF t l).1 (frF t l).2 = true := by
  have h1 := (Rat.divInt t l).den_nz
  have h2 := (Rat.divInt t l).reduced
  show (decide (((Rat.divInt t l).den : Int) ≥ 1) && decide (((Nat.gcd (Rat.divInt t l).num.natAbs ((Rat.divInt t l).den : Int).natAbs : Nat) : Int) = 1)) = true
  rw [decide_eq_true (by omega), Int.natAbs_natCast, decide_eq_true (by rw [show Nat.gcd (Rat.divInt t l).num.natAbs (Rat.divInt t l).den = 1 from h2]; rfl)]; rfl
def rowG (D : List Int) (size w : Nat) : List Fr := (List.range size).map fun k => frF ((D.getD ((1 + 5 * w + k) % 24) 0).fmod 41 - 20) (1 + (D.getD (k % 24) 0).fmod 9)
def scalesG (D : List Int) (count : Nat) : List Fr := (List.range count).map fun w => frF ((D.getD (16 + w) 0).fmod 41 - 20) (1 + (D.getD w 0).fmod 9)
def lowG (D : List Int) : Int := 2 + (D.getD 20 0).fmod 30
def topG (D : List Int) : Int := 1 + ((D.getD 20 0).fdiv 30).fmod (lowG D - 1)
def size0 (D : List Int) : Int := (D.getD 0 0).fmod 5
def sizeG (D : List Int) : Int := if (D.getD 23 0).fmod 3 = 0 then 5 + (D.getD 0 0).fmod 36 else size0 D
def tabG (D : List Int) (count : Nat) : RTb := ⟨(List.range count).map (rowG D (sizeG D).toNat), scalesG D count, frF (topG D) (lowG D)⟩
theorem sizeG_bd (D : List Int) : 0 ≤ sizeG D ∧ sizeG D ≤ 40 := by
  have := fm2 (x := D.getD 0 0) (m := 5) (by decide)
  have := fm2 (x := D.getD 0 0) (m := 36) (by decide)
  unfold sizeG size0; split <;> omega
theorem lowG_bd (D : List Int) : 2 ≤ lowG D ∧ lowG D ≤ 31 := by
  have := fm2 (x := D.getD 20 0) (m := 30) (by decide)
  unfold lowG; omega
theorem topG_bd (D : List Int) : 1 ≤ topG D ∧ topG D < lowG D := by
  have := lowG_bd D
  have := fm2 (x := (D.getD 20 0).fdiv 30) (m := lowG D - 1) (by omega)
  unfold topG; omega
theorem bet_frF {t l : Int} (h : 1 ≤ t ∧ t < l) : betB (frF t l) = true := by
  have hl : l ≠ 0 := by omega
  obtain ⟨e1, e2⟩ := divInt_parts (t := t) hl
  have hg : 0 < sgcd t l := by
    unfold sgcd
    rw [if_neg (by omega)]
    have := Nat.gcd_pos_of_pos_left l.natAbs (show 0 < t.natAbs by omega)
    omega
  have d1 : t / sgcd t l * sgcd t l = t := Int.ediv_mul_cancel (sgcd_top t l)
  have d2 : l / sgcd t l * sgcd t l = l := Int.ediv_mul_cancel (sgcd_low t l)
  rw [Int.fdiv_eq_ediv_of_nonneg _ (by omega)] at e1 e2
  show (decide (0 * ((Rat.divInt t l).den : Int) < (Rat.divInt t l).num * 1) && decide ((Rat.divInt t l).num * 1 < 1 * ((Rat.divInt t l).den : Int))) = true
  rw [e1, e2]
  generalize t / sgcd t l = a at *
  generalize l / sgcd t l = b at *
  generalize sgcd t l = g at *
  have ha : 0 < a := by
    by_cases z : 0 < a
    · exact z
    · have := Int.mul_nonneg (show 0 ≤ -a by omega) (show 0 ≤ g by omega)
      rw [Int.neg_mul] at this; omega
  have hab : a < b := by
    by_cases z : a < b
    · exact z
    · have := Int.mul_le_mul_of_nonneg_right (show b ≤ a by omega) (show 0 ≤ g by omega)
      omega
  rw [decide_eq_true (by omega), decide_eq_true (by omega)]; rfl
theorem rowG_len (D : List Int) (n w : Nat) : (rowG D n w).length = n := by unfold rowG; rw [List.length_map, List.length_range]
theorem headD_G (D : List Int) {n : Nat} (h : 1 ≤ n) : (tabG D n).rows.headD [] = rowG D (sizeG D).toNat 0 := by
  obtain ⟨m, rfl⟩ : ∃ m, n = m + 1 := ⟨n - 1, by omega⟩
  show ((List.range (m + 1)).map _).headD [] = _
  rw [List.range_succ_eq_map]; rfl
theorem rows_G (D : List Int) (n : Nat) : (tabG D n).rows.length = n := by show ((List.range n).map _).length = n; rw [List.length_map, List.length_range]
theorem scales_G (D : List Int) (n : Nat) : (tabG D n).scales.length = n := by show ((List.range n).map _).length = n; rw [List.length_map, List.length_range]
/-- items of at most 40 bits -/
def Sm (p : Fr) : Prop := Bt 40 p.1 ∧ Bt 40 p.2
theorem sm_frF {t l : Int} (hl : l ≠ 0) (h1 : -100000 ≤ t ∧ t ≤ 100000) (h2 : -100000 ≤ l ∧ l ≤ 100000) : Sm (frF t l) := by
  have b1 : Bt 40 t := bt_range (by omega) (by omega)
  have b2 : Bt 40 l := bt_range (by omega) (by omega)
  have h := qb_divInt hl b1 b2
  exact ⟨h.num, h.den⟩
theorem sm_row (D : List Int) (n w : Nat) : ∀ p ∈ rowG D n w, Sm p := fun p hp => by
  obtain ⟨k, _, rfl⟩ := List.mem_map.mp hp
  have := fm2 (x := D.getD ((1 + 5 * w + k) % 24) 0) (m := 41) (by decide)
  have := fm2 (x := D.getD (k % 24) 0) (m := 9) (by decide)
  exact sm_frF (by omega) (by omega) (by omega)
theorem sm_scales (D : List Int) (n : Nat) : ∀ p ∈ scalesG D n, Sm p := fun p hp => by
  obtain ⟨k, _, rfl⟩ := List.mem_map.mp hp
  have := fm2 (x := D.getD (16 + k) 0) (m := 41) (by decide)
  have := fm2 (x := D.getD k 0) (m := 9) (by decide)
  exact sm_frF (by omega) (by omega) (by omega)
/-- a table, good or not, that is small -/
structure SmT (t : RTb) : Prop where
  n : t.rows.length ≤ 5
  rw : ∀ r ∈ t.rows, r.length ≤ 41 ∧ ∀ p ∈ r, Sm p
  sc : t.scales.length ≤ 5 ∧ ∀ p ∈ t.scales, Sm p
  q : Sm t.q
theorem sb_F {p : Fr} (h : Sm p) : Sb 1 2 (encF2 p) := (sb_tup (sbs_cons (sb_int (h.1.mono (by decide))) (sbs_cons (sb_int (h.2.mono (by decide))) sbs_nil))).mono (by decide) (by decide)
theorem sb_Rw {r : List Fr} (h : r.length ≤ 41 ∧ ∀ p ∈ r, Sm p) : Sb 2 123 (encRw r) := by
  have := sbs_map (f := encF2) fun p hp => sb_F (h.2 p hp)
  exact (sb_lst this).mono (by decide) (by omega)
theorem sb_Tb {t : RTb} (h : SmT t) : Sb 4 700 (encTb t) := by
  have h1 := sbs_map (f := encRw) fun r hr => sb_Rw (h.rw r hr)
  have h2 := sbs_map (f := encF2) fun p hp => sb_F (h.sc.2 p hp)
  have := h.n
  have := h.sc.1
  exact (sb_tup (sbs_cons ((sb_lst h1).mono (Nat.le_refl 3) (by omega : _ ≤ 620)) (sbs_cons ((sb_lst h2).mono (by decide : 2 ≤ 3) (by omega : _ ≤ 15)) (sbs_cons ((sb_F h.q).mono (by decide : 1 ≤ 3) (Nat.le_refl 2)) sbs_nil)))).mono (by decide) (by decide)
theorem smt_G (D : List Int) {n : Nat} (h : n ≤ 4) : SmT (tabG D n) := by
  have hl := lowG_bd D
  have ht := topG_bd D
  have hs := sizeG_bd D
  refine ⟨by rw [rows_G]; omega, fun r hr => ?_, ⟨by rw [scales_G]; omega, sm_scales D n⟩, sm_frF (by omega) (by omega) (by omega)⟩
  obtain ⟨w, _, rfl⟩ := List.mem_map.mp hr
  exact ⟨by rw [rowG_len]; omega, sm_row D _ w⟩
theorem SmT.pre {t : RTb} (h : SmT t) : TbPre t := by
  have hf : ∀ (L : List (List Fr)), (∀ r ∈ L, r.length ≤ 41) → L.flatten.length ≤ 41 * L.length := fun L => by
    induction L with
    | nil => intro _; simp
    | cons a l ih =>
      intro hh
      have h1 := hh a (List.mem_cons_self)
      have h2 := ih fun r hr => hh r (List.mem_cons_of_mem _ hr)
      rw [List.flatten_cons, List.length_append, List.length_cons]; omega
  have h1 := hf t.rows fun r hr => (h.rw r hr).1
  have h2 := h.n
  have h3 := h.sc.1
  exact ⟨by omega, by omega, by omega, h.q.1.mono (by decide), h.q.2.mono (by decide)⟩
theorem tab_good (D : List Int) {n : Nat} (h : 1 ≤ n ∧ n ≤ 4) : tabB n (tabG D n) = true := by
  unfold tabB
  have e1 : shB n (tabG D n) = true := by unfold shB; rw [rows_G, scales_G, decide_eq_true rfl]; rfl
  have e2 : (tabG D n).rows.all (rowB (tabG D n)) = true := List.all_eq_true.mpr fun r hr => by
    unfold rowB
    obtain ⟨w, _, rfl⟩ := List.mem_map.mp hr
    rw [headD_G D h.1, rowG_len, rowG_len, decide_eq_true rfl]
  have e3 : (itemsF (tabG D n)).all (fun p => frB p.1 p.2) = true := List.all_eq_true.mpr fun p hp => by
    unfold itemsF at hp
    rcases List.mem_append.mp hp with hp | hp
    · rcases List.mem_append.mp hp with hp | hp
      · obtain ⟨r, hr, hp⟩ := List.mem_flatten.mp hp
        obtain ⟨w, _, rfl⟩ := List.mem_map.mp hr
        obtain ⟨k, _, rfl⟩ := List.mem_map.mp hp
        exact frB_frF _ _
      · obtain ⟨k, _, rfl⟩ := List.mem_map.mp hp
        exact frB_frF _ _
    · rw [List.mem_singleton.mp hp]; exact frB_frF _ _
  rw [e1, e2, e3, show betB (tabG D n).q = true from bet_frF (topG_bd D)]; rfl
/-- the table without rows -/
def emptT (t : RTb) : RTb := ⟨List.replicate t.rows.length [], t.scales, t.q⟩
theorem empt_good (D : List Int) {n : Nat} (h : 1 ≤ n ∧ n ≤ 4) : tabB n (emptT (tabG D n)) = true := by
  have hg := tab_good D h
  unfold tabB at hg ⊢
  rw [Bool.and_eq_true, Bool.and_eq_true, Bool.and_eq_true] at hg ⊢
  obtain ⟨g1, g2, g3, g4⟩ := hg
  refine ⟨?_, ?_, ?_, g4⟩
  · unfold shB at g1 ⊢
    show (decide ((List.replicate (tabG D n).rows.length ([] : List Fr)).length = n) && _) = true
    rw [List.length_replicate]; exact g1
  · refine List.all_eq_true.mpr fun r hr => ?_
    have e : r = [] := (List.mem_replicate.mp hr).2
    unfold rowB
    rw [show (emptT (tabG D n)).rows.headD [] = [] by
      show (List.replicate _ ([] : List Fr)).headD [] = []
      rw [rows_G]
      obtain ⟨m, rfl⟩ : ∃ m, n = m + 1 := ⟨n - 1, by omega⟩
      rfl, e]; rfl
  · refine List.all_eq_true.mpr fun p hp => List.all_eq_true.mp g3 p ?_
    unfold itemsF at hp ⊢
    rw [show (emptT (tabG D n)).rows.flatten = [] by
      show (List.replicate _ ([] : List Fr)).flatten = []
      simp] at hp
    rcases List.mem_append.mp hp with hp | hp
    · exact List.mem_append.mpr (.inl (List.mem_append.mpr (.inr hp)))
    · exact List.mem_append.mpr (.inr hp)
theorem empt_sm {t : RTb} (h : SmT t) : SmT (emptT t) := ⟨by show (List.replicate _ _).length ≤ 5; rw [List.length_replicate]; exact h.n, fun r hr => by rw [(List.mem_replicate.mp hr).2]; exact ⟨by decide, fun p hp => by cases hp⟩, h.sc, h.q⟩
/-! ### the spoilt tables are bad -/
theorem bad_item {t : RTb} {n : Nat} (h : ∃ p ∈ itemsF t, frB p.1 p.2 = false) : tabB n t = false := by
  obtain ⟨p, hp, hb⟩ := h
  have : (itemsF t).all (fun p => frB p.1 p.2) = false := by
    cases e : (itemsF t).all (fun p => frB p.1 p.2) with
    | false => rfl
    | true => have := List.all_eq_true.mp e p hp; rw [hb] at this; cases this
  unfold tabB
  rw [this, Bool.false_and, Bool.and_false, Bool.and_false]
theorem bad_bet {t : RTb} {n : Nat} (h : betB t.q = false) : tabB n t = false := by
  unfold tabB; rw [h, Bool.and_false, Bool.and_false, Bool.and_false]
theorem bad_sh {t : RTb} {n : Nat} (h : t.rows.length ≠ n ∨ t.scales.length ≠ n) : tabB n t = false := by
  have : shB n t = false := by
    unfold shB
    rcases h with h | h
    · rw [decide_eq_false h]; rfl
    · rw [decide_eq_false h, Bool.and_false]
  unfold tabB; rw [this]; rfl
theorem bad_row {t : RTb} {n : Nat} (h : ∃ r ∈ t.rows, r.length ≠ (t.rows.headD []).length) : tabB n t = false := by
  obtain ⟨r, hr, hne⟩ := h
  have : t.rows.all (rowB t) = false := by
    cases e : t.rows.all (rowB t) with
    | false => rfl
    | true =>
      have := List.all_eq_true.mp e r hr
      unfold rowB at this
      exact absurd (of_decide_eq_true this) hne
  unfold tabB; rw [this, Bool.false_and, Bool.and_false]
theorem items_bad : ∀ p ∈ itemsL, frB p.1 p.2 = false ∧ Sm p := by
  intro p hp
  unfold itemsL at hp
  simp only [List.mem_cons, List.not_mem_nil, or_false] at hp
  rcases hp with e | e | e | e | e | e | e <;> subst e <;> exact ⟨by decide, by decide, by decide⟩
theorem spI_bad (d : Int) : frB (spI d).1 (spI d).2 = false ∧ Sm (spI d) := by
  refine items_bad _ ?_
  have hi7 := fm2 (x := d.fdiv 3) (m := 7) (by decide)
  have hl : ((d.fdiv 3).fmod 7).toNat < itemsL.length := by show _ < 7; omega
  unfold spI
  rw [List.getD_eq_getElem?_getD, List.getElem?_eq_getElem hl]
  exact List.getElem_mem hl
theorem qs_bad : ∀ q ∈ badQ, (frB q.1 q.2 = false ∨ betB q = false) ∧ Sm q := by
  intro p hp
  unfold badQ at hp
  simp only [List.mem_cons, List.not_mem_nil, or_false] at hp
  rcases hp with e | e | e | e | e | e | e <;> subst e <;> exact ⟨by decide, by decide, by decide⟩
structure Gd50 (n : Nat) (t : RTb) : Prop where
  nb : 1 ≤ n ∧ n ≤ 4
  r : t.rows.length = n
  s : t.scales.length = n
  w : ∀ r ∈ t.rows, r.length = (t.rows.headD []).length
  l : (t.rows.headD []).length ≤ 40
  sm : SmT t
theorem gd_G (D : List Int) {n : Nat} (h : 1 ≤ n ∧ n ≤ 4) : Gd50 n (tabG D n) := ⟨h, rows_G D n, scales_G D n, fun r hr => by
  obtain ⟨w, _, rfl⟩ := List.mem_map.mp hr
  rw [headD_G D h.1, rowG_len, rowG_len], by rw [headD_G D h.1, rowG_len]; have := sizeG_bd D; omega, smt_G D h.2⟩
theorem spo_bad {n : Nat} {t : RTb} (g : Gd50 n t) (d : Int) : ∀ x ∈ spoF t d, tabB n x = false ∧ SmT x := by
  have h1 := g.nb
  have hr := g.r
  have hs := g.s
  have sm := g.sm
  have hm := fm2 (x := d) (m := (t.rows.length : Int)) (by omega)
  have hwl : spW t d < t.rows.length := by unfold spW; omega
  have hrow : t.rows[spW t d]? = some (t.rows.getD (spW t d) []) := by rw [List.getD_eq_getElem?_getD, List.getElem?_eq_getElem hwl]; rfl
  have hmem := List.mem_of_getElem? hrow
  have hrl := g.w _ hmem
  obtain ⟨r0, rest, hrr⟩ : ∃ r0 rest, t.rows = r0 :: rest := by
    cases e : t.rows with
    | nil => rw [e] at hr; simp at hr; omega
    | cons a l => exact ⟨a, l, rfl⟩
  have hhd : t.rows.headD [] = r0 := by rw [hrr]; rfl
  have hr0 : r0 ∈ t.rows := by rw [hrr]; exact List.mem_cons_self
  have sI := spI_bad d
  intro x hx
  unfold spoF at hx
  rcases List.mem_append.mp hx with hx | hx
  · have c3 : x ∈ spo2 t d ∨ (0 < (t.rows.headD []).length ∧ x = ⟨spX t d, t.scales, t.q⟩) := by
      unfold spo3 at hx
      split at hx
      · rename_i h0
        rcases List.mem_append.mp hx with hx | hx
        · exact .inl hx
        · exact .inr ⟨h0, List.mem_singleton.mp hx⟩
      · exact .inl hx
    rcases c3 with hx | ⟨h0, rfl⟩
    · have c2 : x ∈ spo1 t d ∨ (1 < t.rows.length ∧ x = ⟨spL t d, t.scales, t.q⟩) := by
        unfold spo2 at hx
        split at hx
        · rename_i h0
          rcases List.mem_append.mp hx with hx | hx
          · exact .inl hx
          · exact .inr ⟨h0, List.mem_singleton.mp hx⟩
        · exact .inl hx
      rcases c2 with hx | ⟨h0, rfl⟩
      · unfold spo1 at hx
        simp only [List.mem_append, List.mem_cons, List.not_mem_nil, or_false] at hx
        rcases hx with (e | e | e | e) | e <;> subst e
        · refine ⟨bad_sh (.inl (by show (t.rows ++ [_]).length ≠ n; rw [List.length_append, List.length_singleton]; omega)), ⟨by show (t.rows ++ [_]).length ≤ 5; rw [List.length_append, List.length_singleton]; omega, fun r hr => ?_, sm.sc, sm.q⟩⟩
          rcases List.mem_append.mp hr with hr | hr
          · exact sm.rw r hr
          · rw [List.mem_singleton.mp hr, hhd]; exact sm.rw r0 hr0
        · exact ⟨bad_sh (.inl (by show (t.rows.drop 1).length ≠ n; rw [List.length_drop]; omega)), ⟨by show (t.rows.drop 1).length ≤ 5; rw [List.length_drop]; omega, fun r hr => sm.rw r (List.mem_of_mem_drop hr), sm.sc, sm.q⟩⟩
        · refine ⟨bad_sh (.inr (by show (t.scales ++ [_]).length ≠ n; rw [List.length_append, List.length_singleton]; omega)), ⟨sm.n, sm.rw, ⟨by show (t.scales ++ [_]).length ≤ 5; rw [List.length_append, List.length_singleton]; omega, fun p hp => ?_⟩, sm.q⟩⟩
          rcases List.mem_append.mp hp with hp | hp
          · exact sm.sc.2 p hp
          · rw [List.mem_singleton.mp hp]; exact ⟨by decide, by decide⟩
        · exact ⟨bad_sh (.inr (by show (t.scales.drop 1).length ≠ n; rw [List.length_drop]; omega)), ⟨sm.n, sm.rw, ⟨by show (t.scales.drop 1).length ≤ 5; rw [List.length_drop]; omega, fun p hp => sm.sc.2 p (List.mem_of_mem_drop hp)⟩, sm.q⟩⟩
        · refine ⟨bad_item ⟨spI d, ?_, sI.1⟩, ⟨sm.n, sm.rw, ⟨by show (spS t d).length ≤ 5; unfold spS; rw [List.length_map, List.length_range]; omega, fun p hp => ?_⟩, sm.q⟩⟩
          · show spI d ∈ t.rows.flatten ++ spS t d ++ [t.q]
            refine List.mem_append.mpr (.inl (List.mem_append.mpr (.inr ?_)))
            unfold spS
            exact List.mem_map.mpr ⟨spW t d, List.mem_range.mpr (by omega), if_pos rfl⟩
          · have hp : p ∈ spS t d := hp
            unfold spS at hp
            obtain ⟨k, hk, rfl⟩ := List.mem_map.mp hp
            have hk := List.mem_range.mp hk
            split
            · exact sI.2
            · rw [List.getD_eq_getElem?_getD, List.getElem?_eq_getElem hk]
              exact sm.sc.2 _ (List.getElem_mem hk)
      · -- a row longer
        have hL : ∀ r ∈ spL t d, r ∈ t.rows ∨ r = t.rows.getD (spW t d) [] ++ [(1, 3)] := fun r hr => List.mem_or_eq_of_mem_set hr
        refine ⟨bad_row ?_, ⟨by show (spL t d).length ≤ 5; unfold spL; rw [List.length_set]; exact sm.n, fun r hr => ?_, sm.sc, sm.q⟩⟩
        · show ∃ r ∈ spL t d, r.length ≠ ((spL t d).headD []).length
          unfold spL
          have hlong : (t.rows.getD (spW t d) [] ++ [((1, 3) : Fr)]).length = r0.length + 1 := by rw [List.length_append, hrl, hhd]; rfl
          generalize t.rows.getD (spW t d) [] ++ [((1, 3) : Fr)] = z at hlong ⊢
          generalize spW t d = w at hwl ⊢
          cases w with
          | zero =>
            obtain ⟨r1, rest1, e⟩ : ∃ r1 rest1, rest = r1 :: rest1 := by
              cases e : rest with
              | nil => rw [hrr, e] at h0; simp at h0
              | cons a l => exact ⟨a, l, rfl⟩
            refine ⟨r1, by rw [hrr, e]; simp, ?_⟩
            have := g.w r1 (by rw [hrr, e]; simp)
            rw [hrr]
            show r1.length ≠ z.length
            rw [this, hhd]; omega
          | succ w =>
            refine ⟨z, ?_, ?_⟩
            · exact List.mem_set hwl z
            · rw [hrr]
              show z.length ≠ r0.length
              omega
        · rcases hL r hr with hr | hr
          · exact sm.rw r hr
          · have h2 := sm.rw _ hmem
            subst hr
            have hl := g.l
            refine ⟨by rw [List.length_append, hrl]; show _ + 1 ≤ 41; omega, fun p hp => ?_⟩
            rcases List.mem_append.mp hp with hp | hp
            · exact h2.2 p hp
            · rw [List.mem_singleton.mp hp]; exact ⟨by decide, by decide⟩
    · -- an item spoilt
      have hma := fm2 (x := d.fdiv 21) (m := ((t.rows.headD []).length : Int)) (by omega)
      have hal : spA t d < (t.rows.getD (spW t d) []).length := by rw [hrl]; unfold spA; omega
      have hX : ∀ r ∈ spX t d, r ∈ t.rows ∨ r = (t.rows.getD (spW t d) []).set (spA t d) (spI d) := fun r hr => List.mem_or_eq_of_mem_set hr
      refine ⟨bad_item ⟨spI d, ?_, sI.1⟩, ⟨by show (spX t d).length ≤ 5; unfold spX; rw [List.length_set]; exact sm.n, fun r hr => ?_, sm.sc, sm.q⟩⟩
      · show spI d ∈ (spX t d).flatten ++ t.scales ++ [t.q]
        refine List.mem_append.mpr (.inl (List.mem_append.mpr (.inl (List.mem_flatten.mpr ⟨(t.rows.getD (spW t d) []).set (spA t d) (spI d), ?_, List.mem_set hal _⟩))))
        unfold spX
        exact List.mem_set hwl _
      · rcases hX r hr with hr | hr
        · exact sm.rw r hr
        · have h2 := sm.rw _ hmem
          subst hr
          refine ⟨by rw [List.length_set]; exact h2.1, fun p hp => ?_⟩
          rcases List.mem_or_eq_of_mem_set hp with hp | hp
          · exact h2.2 p hp
          · rw [hp]; exact sI.2
  · obtain ⟨q, hq, rfl⟩ := List.mem_map.mp hx
    obtain ⟨hb, hsq⟩ := qs_bad q hq
    refine ⟨?_, ⟨sm.n, sm.rw, sm.sc, hsq⟩⟩
    rcases hb with hb | hb
    · exact bad_item ⟨q, List.mem_append.mpr (.inr (List.mem_singleton.mpr rfl)), hb⟩
    · exact bad_bet hb
theorem gd_pre {n : Nat} {t : RTb} (g : Gd50 n t) (d : Int) : SpPre (t, d) := ⟨by show 1 ≤ t.rows.length ∧ t.rows.length ≤ 100; rw [g.r]; have := g.nb; omega, by show t.scales.length ≤ 100; rw [g.s]; have := g.nb; omega, g.w, by have := g.l; show (t.rows.headD []).length ≤ 1000; omega⟩

end
end KP

namespace KP
open PySem L2 DL MX
section
variable {P : Program} {w : World} {K : PySem.W.Frag} {mg : Str → Option Value} {base : Heap}
/-! ### what repr shows of a house -/
structure SmS (s : Spr) : Prop where
  len : s.length ≤ 4
  v : ∀ p ∈ s, Bt 1900 p.1 ∧ Qb 1900 p.2
theorem sb_SS {s : Spr} (h : SmS s) : Sb 3 24 (encS s) := by
  have h2 := sbs_map (n := 2) (k := 5) (f := encI) (xs := s) fun p hp =>
    (sb_tup (sbs_cons ((sb_int (h.v p hp).1).mono (by decide) (Nat.le_refl _)) (sbs_cons (sb_tup (sbs_cons (sb_int (h.v p hp).2.num) (sbs_cons (sb_int (h.v p hp).2.den) sbs_nil))) sbs_nil))).mono (by decide) (by decide)
  have := h.len
  exact (sb_lst h2).mono (by decide) (by omega)
theorem sms_spD {d : Int} {vs : List Int} (hl : vs.length ≤ 4) (hv : ∀ v ∈ vs, -1000 ≤ v ∧ v ≤ 1000) : SmS (spD d vs) := by
  refine ⟨by rw [spD_len]; exact hl, fun p hp => ?_⟩
  obtain ⟨k, hk, rfl⟩ := List.mem_map.mp hp
  have hk := List.mem_range.mp hk
  have hs := psum_bd d vs.length
  have hp := partD_bd d k
  have b1 : Bt 40 (partD d k) := bt_range (by omega) (by omega)
  have b2 : Bt 40 (partsD d vs.length).sum := bt_range (by omega) (by omega)
  refine ⟨?_, (qb_divInt (by omega) b1 b2).mono (by decide)⟩
  have hm : vs.getD k 0 ∈ vs := by rw [List.getD_eq_getElem?_getD, List.getElem?_eq_getElem hk]; exact List.getElem_mem hk
  have := hv _ hm
  exact Bt.mono (n := 20) (bt_range (by show _ < vs.getD k 0; omega) (by show vs.getD k 0 < _; omega)) (by decide)
theorem dvA_v (d : Int) : ∀ v ∈ dvA d, -1000 ≤ v ∧ v ≤ 1000 := fun v hv => by
  have := fm2 (x := d) (m := 2) (by decide)
  have := fm2 (x := d.fdiv 2) (m := 3) (by decide)
  unfold dvA at hv
  simp only [List.mem_cons, List.not_mem_nil, or_false] at hv
  rcases hv with e | e <;> omega
theorem dvB_v (full : Bool) (d : Int) : ∀ v ∈ dvB full d, -1000 ≤ v ∧ v ≤ 1000 := fun v hv => by
  have := fm2 (x := d) (m := 2) (by decide)
  have := fm2 (x := d.fdiv 2) (m := 3) (by decide)
  have := fm2 (x := d.fdiv 12) (m := 4) (by decide)
  unfold dvB at hv
  split at hv
  · rcases List.mem_append.mp hv with hv | hv
    · exact dvA_v d v hv
    · rw [List.mem_singleton] at hv; omega
  · exact dvA_v d v hv
theorem dvC_v (full great : Bool) (d : Int) (j : Nat) : ∀ v ∈ dvC full great d j, -1000 ≤ v ∧ v ≤ 1000 := fun v hv => by
  have := fm2 (x := d) (m := 41) (by decide)
  unfold dvC at hv
  split at hv
  · rcases List.mem_append.mp hv with hv | hv
    · exact dvB_v full d v hv
    · rw [List.mem_singleton] at hv; omega
  · exact dvB_v full d v hv
theorem others_v {c d : Int} (hc : c ≤ 4) : ∀ v ∈ othersG c d, -1000 ≤ v ∧ v ≤ 1000 := fun v hv => by
  unfold othersG at hv
  obtain ⟨k, hk, e⟩ := List.mem_filterMap.mp hv
  have hk := List.mem_range.mp hk
  split at e
  · cases e; omega
  · cases e
theorem sb_WG (S D : List Int) (k : Nat) : Sb 5 110 (encW (wtG S D k)) := by
  have hc := countG_bd S
  have hn := nlG_bd S k
  have h1 : Sbs 3 ((24 + 1) * ((List.range (nlG S k).toNat).map fun j => lineG S D k j).length) (((List.range (nlG S k).toNat).map fun j => lineG S D k j).map encS) := sbs_map fun s hs => by
    obtain ⟨j, _, rfl⟩ := List.mem_map.mp hs
    exact sb_SS (sms_spD (dvC_len _ _ _ _).2 (dvC_v _ _ _ _))
  rw [List.length_map, List.length_range] at h1
  have h2 := sb_SS (sms_spD (d := D.getD (10 + k) 0) (othersG_len (countG S) (D.getD (10 + k) 0) hc.2) (others_v hc.2))
  have hp : -1000 ≤ premG S k ∧ premG S k ≤ 1000 := by
    have := fm2 (x := (S.getD 2 0).fdiv ((k : Int) + 1)) (m := 4) (by decide)
    have := fm2 (x := (S.getD 2 0).fdiv ((k : Int) + 1)) (m := 25) (by decide)
    unfold premG prem1; split <;> omega
  have hb : Bt 1900 (premG S k) := Bt.mono (n := 30) (bt_range (by omega) (by omega)) (by decide)
  exact (sb_tup (sbs_cons ((sb_int hb).mono (by decide) (Nat.le_refl _)) (sbs_cons ((sb_lst h1).mono (Nat.le_refl 4) (by omega : _ ≤ 75)) (sbs_cons (h2.mono (by decide) (Nat.le_refl _)) sbs_nil)))).mono (by decide) (by decide)
theorem sb_layG (x : Int) : ∀ l ∈ layG x, Sb 2 30 (encL l) := fun l hl => by
  have h4 := fm2 (x := x.fdiv 4) (m := 4) (by decide)
  have h3 := fm2 (x := x.fdiv 4) (m := 3) (by decide)
  have h12 := fm2 (x := x.fdiv 12) (m := 4) (by decide)
  have big : ∀ {y : Int}, -1000 ≤ y → y ≤ 1000 → Bt 1900 y := fun h0 h1 => Bt.mono (n := 30) (bt_range (by omega) (by omega)) (by decide)
  unfold layG at hl
  split at hl
  · rw [List.mem_singleton.mp hl]
    exact (sb_tup (sbs_cons ((sb_str (k := 10) (by decide) (by decide)).mono (Nat.zero_le 0) (Nat.le_refl _)) (sbs_cons (sb_int (big (by omega) (by omega))) sbs_nil))).mono (by decide) (by decide)
  · split at hl
    · rw [List.mem_singleton.mp hl]
      have b1 : Bt 40 ((x.fdiv 4).fmod 4) := bt_range (by omega) (by omega)
      have hq := (qb_divInt (t := (x.fdiv 4).fmod 4) (l := 3) (by decide) b1 (by decide)).mono (by decide : 40 ≤ 1900)
      exact (sb_tup (sbs_cons ((sb_str (k := 10) (by decide) (by decide)).mono (Nat.zero_le 1) (Nat.le_refl _)) (sbs_cons (sb_tup (sbs_cons (sb_int hq.num) (sbs_cons (sb_int hq.den) sbs_nil))) sbs_nil))).mono (by decide) (by decide)
    · split at hl
      · rw [List.mem_singleton.mp hl]
        exact (sb_tup (sbs_cons ((sb_str (k := 10) (by decide) (by decide)).mono (Nat.zero_le 0) (Nat.le_refl _)) (sbs_cons (sb_int (big (by omega) (by omega))) (sbs_cons (sb_int (big (by omega) (by omega))) sbs_nil)))).mono (by decide) (by decide)
      · cases hl
theorem sb_lays (d : Int) : ∀ m, ∀ l ∈ laysG d m, Sb 2 30 (encL l)
  | 0, l, hl => by cases hl
  | m + 1, l, hl => by
    unfold laysG at hl
    rcases List.mem_append.mp hl with hl | hl
    · exact sb_lays d m l hl
    · exact sb_layG _ l hl
theorem sb_TG {p d : Int} {m : Nat} (hp : -1000 ≤ p ∧ p ≤ 1000) (hm : m ≤ 4) : Sb 4 140 (encT ⟨p, laysG d m⟩) := by
  have h2 := sbs_map (f := encL) fun l hl => sb_lays d m l hl
  have := laysG_len d m
  have hb : Bt 1900 p := Bt.mono (n := 30) (bt_range (by omega) (by omega)) (by decide)
  exact (sb_tup (sbs_cons ((sb_int hb).mono (by decide) (Nat.le_refl _)) (sbs_cons ((sb_lst h2).mono (Nat.le_refl 3) (by omega : _ ≤ 124)) sbs_nil))).mono (by decide) (by decide)
theorem sb_trG (full : Bool) (d : Int) (k : Nat) : Sb 4 140 (encT (trG full d k)) := by
  have := nyG_bd full k
  have := fm2 (x := (drG d (nyG full k).toNat).fdiv 48) (m := 3) (by decide)
  exact sb_TG (by omega) (by omega)
theorem sb_trs (S D : List Int) : ∀ t ∈ trs2 S D, Sb 4 140 (encT t) := fun t ht => by
  have h1 : ∀ t ∈ trs1 S D, Sb 4 140 (encT t) := fun t ht => by
    obtain ⟨k, _, rfl⟩ := List.mem_map.mp ht
    exact sb_trG _ _ _
  unfold trs2 at ht
  split at ht
  · rcases List.mem_or_eq_of_mem_set ht with ht | ht
    · exact h1 t ht
    · rw [ht]
      have := nyG_bd true 3
      exact sb_TG (by decide) (by omega)
  · exact h1 t ht
theorem sb_HG (S D : List Int) : Sb 7 2000 (encH (hsG S D)) := by
  have h1 : Sbs 5 ((110 + 1) * ((List.range (countG S).toNat).map (wtG S D)).length) (((List.range (countG S).toNat).map (wtG S D)).map encW) := sbs_map fun w hw => by
    obtain ⟨k, _, rfl⟩ := List.mem_map.mp hw
    exact sb_WG S D k
  have h2 : Sbs 4 ((140 + 1) * (trs2 S D).length) ((trs2 S D).map encT) := sbs_map (sb_trs S D)
  have hl : (trs2 S D).length ≤ 4 := by
    have := ntG_bd S
    have e : (trs1 S D).length = (ntG S).toNat := by unfold trs1; rw [List.length_map, List.length_range]
    unfold trs2; split
    · rw [List.length_set, e]; omega
    · rw [e]; omega
  have := countG_bd S
  rw [List.length_map, List.length_range] at h1
  exact (sb_tup (sbs_cons ((sb_lst h1).mono (Nat.le_refl 6) (by omega : _ ≤ 444)) (sbs_cons ((sb_lst h2).mono (by decide : 5 ≤ 6) (by omega : _ ≤ 564)) sbs_nil))).mono (by decide) (by decide)
/-! ### k50: law -/
theorem mod24 (x : Nat) : ((x : Nat) : Int).fmod 24 = ((x % 24 : Nat) : Int) := by rw [Int.fmod_eq_emod_of_nonneg _ (by decide)]; rfl
theorem absI_nn (x : Int) : 0 ≤ absI x := by unfold absI; split <;> omega
theorem sc_law : FnScope ["script", "house", "draws", "count", "size", "rows", "scales", "low", "q", "table", "kept", "wrong", "handed", "w", "k"] ["script"] (defScope s_law) := ⟨rfl, rfl, rfl, by decide +kernel, rfl, by decide +kernel, by decide +kernel⟩
def sp_law (K : PySem.W.Frag) : Sp := SpD K (fun ns : List Int => [.scr ns]) (fun ns => ns.length ≤ 63) (fun _ => .bool true)
theorem ok_law {f C : Addr} {fd : FuncData} (F : Fun K "law" "law" s_law f fd) (m_len : mg "len" = none) (m_range : mg "range" = none) (m_repr : mg "repr" = none)
    (C_check_table : Callee P w K mg base (L2.CX P w) 3 "check_table" ["house", "table"] (sp_check_table K C))
    (C__law_cell : Callee P w K mg base CX0 1 "_law_cell" ["script", "k"] (sp__law_cell K)) (C__law_digits : Callee P w K mg base CX0 1 "_law_digits" ["cell", "base", "most"] (sp__law_digits K)) (C__law_fraction : Callee P w K mg base CX0 1 "_law_fraction" ["top", "low"] (sp__law_fraction K)) (C__law_house : Callee P w K mg base CX0 3 "_law_house" ["first", "second"] (sp__law_house K))
    (C__law_spoilt : Callee P w K mg base CX0 1 "_law_spoilt" ["rows", "scales", "q", "draw"] (sp__law_spoilt K)) (C__law_refused : Callee P w K mg base CX0 4 "_law_refused" ["house", "table"] (sp__law_refused K)) :
    FnG P w K mg base 5 f fd ["script"] (sp_law K) := by
  have sc := sc_law
  refine fn_GD F sc (fun _ => rfl) fun cdv A outer s H E GD hr => ?_
  refine ⟨_, (pss_cons (ps_set (i := 1) sc.nd rfl (by first | exact Or.inl rfl | exact Or.inr rfl) (pe_c C__law_house (hr.mono (by decide)) pass0 (pa_cons (pe_c C__law_cell (hr.mono (by decide)) pass0 (pa_cons (pv 0) (pa_cons pe_int pa_nil))) (pa_cons (pe_c C__law_cell (hr.mono (by decide)) pass0 (pa_cons (pv 0) (pa_cons pe_int pa_nil))) pa_nil))))
      (pss_cons (ps_set (i := 2) sc.nd rfl (by first | exact Or.inl rfl | exact Or.inr rfl) (pe_c C__law_digits (hr.mono (by decide)) pass0 (pa_cons (pe_c C__law_cell (hr.mono (by decide)) pass0 (pa_cons (pv 0) (pa_cons pe_int pa_nil))) (pa_cons pe_int (pa_cons pe_int pa_nil)))))
      (pss_cons (ps_set (i := 3) sc.nd rfl (by first | exact Or.inl rfl | exact Or.inr rfl) (pe_callB (id := "len") (r := rLenS K) call_len_seq (by rfl) m_len PySem.boot_len (pa_cons (pe_ix (r := rIxT K) ix_tup (pv 1) pe_int (fun _ _ => rfl)) pa_nil)))
      (pss_cons (ps_set (i := 4) sc.nd rfl (by first | exact Or.inl rfl | exact Or.inr rfl) (pe_op op_modN (pe_ix (r := rIxL K) ix_list (pv 2) pe_int (fun _ _ => rfl)) pe_int))
      (pss_cons (ps_if (pt_cmpR op_eq (pe_op op_modN (pe_ix (r := rIxL K) ix_list (pv 2) pe_int (fun _ _ => rfl)) pe_int) pe_int (nomark _)) (pss_one (ps_set (i := 4) sc.nd rfl (by first | exact Or.inl rfl | exact Or.inr rfl) (pe_op op_add pe_int (pe_op op_modN (pe_ix (r := rIxL K) ix_list (pv 2) pe_int (fun _ _ => rfl)) pe_int)))) pss_nil)
      (pss_cons (ps_setLc (i := 5) (own := [("w", 13)]) rfl sc.nd rfl rfl (sw_true rfl rfl rfl (by decide +kernel)) (pi_range1 (by rfl) m_range (pa_cons (pv 3) pa_nil)) (blkOk_by (own := [("w", 13)]) (N := ["script", "house", "draws", "count", "size", "rows", "scales", "low", "q", "table", "kept", "wrong", "handed", "w", "k"]) (sc := defScope s_law) (by decide +kernel)) (fun _ _ _ _ _ => (pg_name (i := 13) sc.nd rfl (by first | exact Or.inl rfl | exact Or.inr rfl))) (fun _ _ _ _ _ => pts_nil) (fun _ _ _ _ _ => (pe_lc (own := [("k", 14)]) rfl sc.nd (pi_range1 (by rfl) m_range (pa_cons (pv 4) pa_nil)) (blkOk_by (by rfl)) (fun _ _ _ _ _ => (pg_name (i := 14) sc.nd rfl (Or.inl rfl))) (fun _ _ _ _ _ => pts_nil) (fun _ _ _ _ _ => (pe_c C__law_fraction (hr.mono (by decide)) pass0 (pa_cons (pe_op op_sub (pe_op op_modN (pe_ix (r := rIxL K) ix_list (pv 2) (pe_op op_modN (pe_op op_add (pe_op op_add pe_int (pe_op op_mulX pe_int (pv 13))) (pv 14)) pe_int) (fun _ _ => rfl)) pe_int) pe_int) (pa_cons (pe_op op_add pe_int (pe_op op_modN (pe_ix (r := rIxL K) ix_list (pv 2) (pe_op op_modN (pv 14) pe_int) (fun _ _ => rfl)) pe_int)) pa_nil)))))))
      (pss_cons (ps_setLc (i := 6) (own := [("w", 13)]) rfl sc.nd rfl rfl (sw_true rfl rfl rfl (by decide +kernel)) (pi_range1 (by rfl) m_range (pa_cons (pv 3) pa_nil)) (blkOk_by (own := [("w", 13)]) (N := ["script", "house", "draws", "count", "size", "rows", "scales", "low", "q", "table", "kept", "wrong", "handed", "w", "k"]) (sc := defScope s_law) (by decide +kernel)) (fun _ _ _ _ _ => (pg_name (i := 13) sc.nd rfl (by first | exact Or.inl rfl | exact Or.inr rfl))) (fun _ _ _ _ _ => pts_nil) (fun _ _ _ _ _ => (pe_c C__law_fraction (hr.mono (by decide)) pass0 (pa_cons (pe_op op_sub (pe_op op_modN (pe_ix (r := rIxL K) ix_list (pv 2) (pe_op op_add pe_int (pv 13)) (fun _ _ => rfl)) pe_int) pe_int) (pa_cons (pe_op op_add pe_int (pe_op op_modN (pe_ix (r := rIxL K) ix_list (pv 2) (pv 13) (fun _ _ => rfl)) pe_int)) pa_nil)))))
      (pss_cons (ps_set (i := 7) sc.nd rfl (by first | exact Or.inl rfl | exact Or.inr rfl) (pe_op op_add pe_int (pe_op op_modN (pe_ix (r := rIxL K) ix_list (pv 2) pe_int (fun _ _ => rfl)) pe_int)))
      (pss_cons (ps_set (i := 8) sc.nd rfl (by first | exact Or.inl rfl | exact Or.inr rfl) (pe_c C__law_fraction (hr.mono (by decide)) pass0 (pa_cons (pe_op op_add pe_int (pe_op op_modN (pe_op op_fdivZ (pe_ix (r := rIxL K) ix_list (pv 2) pe_int (fun _ _ => rfl)) pe_int) (pe_op op_sub (pv 7) pe_int))) (pa_cons (pv 7) pa_nil))))
      (pss_cons (ps_set (i := 9) sc.nd rfl (by first | exact Or.inl rfl | exact Or.inr rfl) (pe_tup (pa_cons (pv 5) (pa_cons (pv 6) (pa_cons (pv 8) pa_nil)))))
      (pss_cons (ps_set (i := 10) sc.nd rfl (by first | exact Or.inl rfl | exact Or.inr rfl) (pe_callB (id := "repr") (r := rRepr K) (call_repr GD hr.units) (by rfl) m_repr (by decide +kernel) (pa_cons (pe_lst (pa_cons (pv 1) (pa_cons (pv 9) pa_nil))) pa_nil)))
      (pss_cons (ps_if (PW.pt (pw_or (pt_cmpR op_notN (pe_c C_check_table (hr.mono (by decide)) passL (pa_cons (pv 1) (pa_cons (pv 9) pa_nil))) pe_non (nomark _)) (pw_or1 (pt_cmpR op_notN (pe_c C_check_table (hr.mono (by decide)) passL (pa_cons (pv 1) (pa_cons (pe_tup (pa_cons (pe_lc (own := [("w", 13)]) rfl sc.nd (pi_range1 (by rfl) m_range (pa_cons (pv 3) pa_nil)) (blkOk_by (own := [("w", 13)]) (N := ["script", "house", "draws", "count", "size", "rows", "scales", "low", "q", "table", "kept", "wrong", "handed", "w", "k"]) (sc := defScope s_law) (by decide +kernel)) (fun _ _ _ _ _ => (pg_name (i := 13) sc.nd rfl (by first | exact Or.inl rfl | exact Or.inr rfl))) (fun _ _ _ _ _ => pts_nil) (fun _ _ _ _ _ => (pe_lst pa_nil))) (pa_cons (pv 6) (pa_cons (pv 8) pa_nil)))) pa_nil))) pe_non (nomark _))))) (pss_one (ps_ret pe_bl)) pss_nil)
      (pss_cons (ps_for PassesOwn.never rfl (pi_list (pe_c C__law_spoilt (hr.mono (by decide)) pass0 (pa_cons (pv 5) (pa_cons (pv 6) (pa_cons (pv 8) (pa_cons (pe_ix (r := rIxL K) ix_list (pv 2) pe_int (fun _ _ => rfl)) pa_nil)))))) (pg_name (i := 11) sc.nd rfl (by first | exact Or.inl rfl | exact Or.inr rfl)) (pss_cons (ps_set (i := 12) sc.nd rfl (by first | exact Or.inl rfl | exact Or.inr rfl) (pe_callB (id := "repr") (r := rRepr K) (call_repr GD hr.units) (by rfl) m_repr (by decide +kernel) (pa_cons (pv 11) pa_nil)))
      (pss_one (ps_if (PW.pt (pw_or (pt_not (pt_val (pe_c C__law_refused (hr.mono (by decide)) pass0 (pa_cons (pv 1) (pa_cons (pv 11) pa_nil))))) (pw_or1 (pt_cmpR op_ne (pe_callB (id := "repr") (r := rRepr K) (call_repr GD hr.units) (by rfl) m_repr (by decide +kernel) (pa_cons (pv 11) pa_nil)) (pv 12) (nomark _))))) (pss_one (ps_ret pe_bl)) pss_nil))))
      (pss_one (ps_ret (pe_cmpR op_eq (pe_callB (id := "repr") (r := rRepr K) (call_repr GD hr.units) (by rfl) m_repr (by decide +kernel) (pa_cons (pe_lst (pa_cons (pv 1) (pa_cons (pv 9) pa_nil))) pa_nil)) (pv 10) (nomark _))))))))))))))))), fun a ha => ?_⟩
  have hns : a.length ≤ 63 := ha
  have cellK : ∀ (ev : EnvD) (k : Int), 0 ≤ k → ev[0]? = some (.scr a) → EvD K (tCall (sp__law_cell K) [] E0 (tCons (tVar 0) (tCons (tC (.int k)) tNil))) ev (.int (absI (cellF a k))) := fun ev k hk hv => ed_call (x := (a, k)) (ea_cons (ev_scr 0 hv) rfl (ea_d (ed_int k) ea_nil)) rfl hk
  refine run_seq (run_set (ed_call (x := ((absI (cellF a 0), absI (cellF a 1)) : Int × Int)) (ea_d (cellK _ 0 (by decide) rfl) (ea_d (cellK _ 1 (by decide) rfl) ea_nil)) rfl ⟨absI_nn _, absI_nn _⟩)) ?_
  obtain ⟨h, hh, hHs, hn⟩ : ∃ h : Hs, houseG (absI (cellF a 0)) (absI (cellF a 1)) = h ∧ Sb 7 2000 (encH h) ∧ 1 ≤ h.ws.length ∧ h.ws.length ≤ 4 := ⟨_, rfl, sb_HG _ _, by
    show 1 ≤ ((List.range (countG _).toNat).map _).length ∧ ((List.range (countG _).toNat).map _).length ≤ 4
    have := countG_bd (digF (absI (cellF a 0)) 2520 8)
    rw [List.length_map, List.length_range]; omega⟩
  show Run K E _ [.scr a, .dat (encH (houseG (absI (cellF a 0)) (absI (cellF a 1)))), .un, .un, .un, .un, .un, .un, .un, .un, .un, .un, .un, .un, .un] _
  rw [hh]
  refine run_seq (run_setN (en_call (x := ((absI (cellF a 2), 27720, 24) : Int × Int × Nat)) (ea_d (cellK _ 2 (by decide) rfl) (ea_d (ed_int 27720) (ea_d (ed_int 24) ea_nil))) rfl ⟨absI_nn _, ⟨by show (0 : Int) < 27720; decide, by show (27720 : Int) ≤ 1000000; decide⟩, by show 24 ≤ 1000; decide⟩)) (run_pub 2 rfl ?_)
  have hD := dig_of (base := 27720) (by decide) (absI (cellF a 2)) 24
  show Run K E _ [.scr a, .dat (encH h), .dat (.list ((digF (absI (cellF a 2)) 27720 24).map PyData.int)), .un, .un, .un, .un, .un, .un, .un, .un, .un, .un, .un, .un] _
  generalize digF (absI (cellF a 2)) 27720 24 = D at hD ⊢
  obtain ⟨n, hnn⟩ : ∃ n, h.ws.length = n := ⟨_, rfl⟩
  rw [hnn] at hn
  refine run_seq (run_set ((ed_lenl (ed_ixT (ed_var 1 rfl) (ed_int 0) rfl).l).is (d' := .int (n : Int)) (by rw [List.length_map, hnn]))) ?_
  refine run_seq (run_set (d := .int (size0 D)) (ed_I (ed_ixl (ed_var 2 rfl).l (ed_int 0) (hD.ix 0 rfl (by decide))) (ed_int 5) (by decide))) ?_
  refine run_seq (e1 := [.scr a, .dat (encH h), .dat (.list (D.map PyData.int)), .dat (.int (n : Int)), .dat (.int (sizeG D)), .un, .un, .un, .un, .un, .un, .un, .un, .un, .un]) (run_if (b := decide ((D.getD 23 0).fmod 3 = 0)) (et_test (ed_eqI (ed_I (ed_ixl (ed_var 2 rfl).l (ed_int 23) (hD.ix 23 rfl (by decide))) (ed_int 3) (by decide)) (ed_int 0))) (fun hb => ?_) (fun hb => ?_)) ?_
  · rw [show sizeG D = 5 + (D.getD 0 0).fmod 36 by unfold sizeG; rw [if_pos (of_decide_eq_true hb)]]
    exact run_set (ed_I0 (ed_int 5) (ed_I (ed_ixl (ed_var 2 rfl).l (ed_int 0) (hD.ix 0 rfl (by decide))) (ed_int 36) (by decide)))
  · rw [show sizeG D = size0 D by unfold sizeG; rw [if_neg (of_decide_eq_false hb)]]
    exact run_next
  have hsz := sizeG_bd D
  have h41 : ∀ i : Nat, 0 ≤ (D.getD i 0).fmod 41 ∧ (D.getD i 0).fmod 41 < 41 := fun i => fm2 (by decide)
  have h9 : ∀ i : Nat, 0 ≤ (D.getD i 0).fmod 9 ∧ (D.getD i 0).fmod 9 < 9 := fun i => fm2 (by decide)
  have frOk : ∀ i j : Nat, FrOk ((D.getD i 0).fmod 41 - 20, 1 + (D.getD j 0).fmod 9) := fun i j => by
    have := h41 i
    have := h9 j
    exact ⟨by show 0 < 1 + (D.getD j 0).fmod 9; omega, Bt.mono (n := 20) (bt_range (by show _ < 1 + (D.getD j 0).fmod 9; omega) (by show 1 + (D.getD j 0).fmod 9 < _; omega)) (by decide), Bt.mono (n := 20) (bt_range (by show _ < (D.getD i 0).fmod 41 - 20; omega) (by show (D.getD i 0).fmod 41 - 20 < _; omega)) (by decide)⟩
  refine run_seq (run_setN ((en_lc (ei_is (ei_rng1 (ed_var 3 rfl) (by omega)) (by rw [Int.toNat_natCast]; exact rng_map n)) (ts := [13]) (by decide) (lc_map (fun w : Nat => PyData.int (w : Int)) (fun w => encRw (rowG D (sizeG D).toNat w)) fun w hw => ⟨_, eg_name (by decide), et_yes, EvN.d ((en_lc (ei_is (ei_rng1 (ed_var 4 rfl) (by omega)) (rng_map _)) (ts := [14]) (by decide) (lc_map (fun k : Nat => PyData.int (k : Int)) (fun k => encF2 (frF ((D.getD ((1 + 5 * w + k) % 24) 0).fmod 41 - 20) (1 + (D.getD (k % 24) 0).fmod 9))) fun k hk => ⟨_, eg_name (by decide), et_yes, ?_⟩) (by rw [List.length_map, List.length_range]; omega)).is (d' := (rowG D (sizeG D).toNat w).map encF2) (by unfold rowG; rw [List.map_map]; rfl))⟩) (by rw [List.length_map, List.length_range]; omega)).is (d' := (tabG D n).rows.map encRw) (by show _ = ((List.range n).map (rowG D (sizeG D).toNat)).map encRw; rw [List.map_map]; rfl))) (run_pub 5 rfl ?_)
  · have hw := List.mem_range.mp hw
    have hk := List.mem_range.mp hk
    have e1 : (1 + 5 * (w : Int) + (k : Int)).fmod 24 = (((1 + 5 * w + k) % 24 : Nat) : Int) := by rw [← mod24]; congr 1
    have e2 : (k : Int).fmod 24 = ((k % 24 : Nat) : Int) := mod24 k
    exact ed_call (x := (((D.getD ((1 + 5 * w + k) % 24) 0).fmod 41 - 20, 1 + (D.getD (k % 24) 0).fmod 9) : Int × Int)) (ea_d (ed_I0 (ed_I (ed_ixl (ed_var 2 rfl).l (ed_I (ed_I0 (ed_I0 (ed_int 1) (ed_I (ed_int 5) (ed_var 13 rfl) (Bt.mulx (n := 20) (m := 20) (by decide) (bt_range (by omega) (by omega)) (by decide)))) (ed_var 14 rfl)) (ed_int 24) (by decide)) (hD.ix ((1 + 5 * w + k) % 24) e1 (by omega))) (ed_int 41) (by decide)) (ed_int 20)) (ea_d (ed_I0 (ed_int 1) (ed_I (ed_ixl (ed_var 2 rfl).l (ed_I (ed_var 14 rfl) (ed_int 24) (by decide)) (hD.ix (k % 24) e2 (by omega))) (ed_int 9) (by decide))) ea_nil)) rfl (frOk _ _)
  refine run_seq (run_setN ((en_lc (ei_is (ei_rng1 (ed_var 3 rfl) (by omega)) (by rw [Int.toNat_natCast]; exact rng_map n)) (ts := [13]) (by decide) (lc_map (fun w : Nat => PyData.int (w : Int)) (fun w => encF2 (frF ((D.getD (16 + w) 0).fmod 41 - 20) (1 + (D.getD w 0).fmod 9))) fun w hw => ⟨_, eg_name (by decide), et_yes, ?_⟩) (by rw [List.length_map, List.length_range]; omega)).is (d' := (tabG D n).scales.map encF2) (by show _ = (scalesG D n).map encF2; unfold scalesG; rw [List.map_map]; rfl))) (run_pub 6 rfl ?_)
  · have hw := List.mem_range.mp hw
    exact ed_call (x := (((D.getD (16 + w) 0).fmod 41 - 20, 1 + (D.getD w 0).fmod 9) : Int × Int)) (ea_d (ed_I0 (ed_I (ed_ixl (ed_var 2 rfl).l (ed_I0 (ed_int 16) (ed_var 13 rfl)) (hD.ix (16 + w) (by omega) (by omega))) (ed_int 41) (by decide)) (ed_int 20)) (ea_d (ed_I0 (ed_int 1) (ed_I (ed_ixl (ed_var 2 rfl).l (ed_var 13 rfl) (hD.ix w rfl (by omega))) (ed_int 9) (by decide))) ea_nil)) rfl (frOk _ _)
  have hlow := lowG_bd D
  have htop := topG_bd D
  have h20 := hD.ix (i := 20) 20 rfl (by decide)
  refine run_seq (run_set (d := .int (lowG D)) (ed_I0 (ed_int 2) (ed_I (ed_ixl (ed_var 2 rfl).l (ed_int 20) h20) (ed_int 30) (by decide)))) ?_
  refine run_seq (run_set (d := encF2 (tabG D n).q) (ed_call (x := ((topG D, lowG D) : Int × Int)) (ea_d (ed_I0 (ed_int 1) (ed_I (ed_I (ed_ixl (ed_var 2 rfl).l (ed_int 20) h20) (ed_int 30) ⟨by decide, by decide⟩) (ed_I0 (ed_var 7 rfl) (ed_int 1)) (by omega))) (ea_d (ed_var 7 rfl) ea_nil)) rfl ⟨by show 0 < lowG D; omega, Bt.mono (n := 20) (bt_range (by show _ < lowG D; omega) (by show lowG D < _; omega)) (by decide), Bt.mono (n := 20) (bt_range (by show _ < topG D; omega) (by show topG D < _; omega)) (by decide)⟩)) ?_
  have good := tab_good D hn
  have goodE := empt_good D hn
  have gd := gd_G D hn
  have sm := gd.sm
  have bad := spo_bad gd (D.getD 21 0)
  have pre := gd_pre gd (D.getD 21 0)
  show Run K E _ [.scr a, .dat (encH h), .dat (.list (D.map PyData.int)), .dat (.int (n : Int)), .dat (.int (sizeG D)), .dat (.list ((tabG D n).rows.map encRw)), .dat (.list ((tabG D n).scales.map encF2)), .dat (.int (lowG D)), .dat (encF2 (tabG D n).q), .un, .un, .un, .un, .un, .un] _
  generalize tabG D n = t at good goodE gd sm bad pre ⊢
  generalize lowG D = low
  generalize sizeG D = size
  refine run_seq (run_set (d := encTb t) (ed_tup (ds := [.list (t.rows.map encRw), .list (t.scales.map encF2), encF2 t.q]) (ea_d (ed_var 5 rfl) (ea_d (ed_var 6 rfl) (ea_d (ed_var 8 rfl) ea_nil))))) ?_
  have hHP : Shw (.list [encH h, encTb t]) := sb_shw (sb_lst (sbs_cons hHs (sbs_cons ((sb_Tb sm).mono (by decide) (Nat.le_refl _)) sbs_nil))) (by decide) (by decide) (.inl ⟨_, rfl⟩)
  have keep : ∀ ev : EnvD, ev[1]? = some (.dat (encH h)) → ev[9]? = some (.dat (encTb t)) → EvD K (tCB (rRepr K) (tCons (tLst (tCons (tVar 1) (tCons (tVar 9) tNil))) tNil)) ev (.str (PyData.list [encH h, encTb t]).shown) := fun ev h1 h2 => ed_repr (en_lst (ds := [encH h, encTb t]) (ea_d (ed_var 1 h1) (ea_d (ed_var 9 h2) ea_nil))).p hHP
  refine run_seq (run_set (keep _ rfl rfl)) ?_
  have ok1 : tabO (h, t) = some .none := by unfold tabO; rw [if_pos (by show tabB h.ws.length t = true; rw [hnn]; exact good)]
  have ok2 : tabO (h, emptT t) = some .none := by unfold tabO; rw [if_pos (by show tabB h.ws.length (emptT t) = true; rw [hnn]; exact goodE)]
  have hrn : t.rows.length = n := gd.r
  refine run_seq (run_ifF (et_orF (et_test (ed_notN (ed_callX (x := (h, t)) (d := .none) (ea_d (ed_var 1 rfl) (ea_d (ed_var 9 rfl) ea_nil)) rfl sm.pre ok1).p)) (et_test (ed_notN (ed_callX (x := (h, emptT t)) (d := .none) (ea_d (ed_var 1 rfl) (ea_d (ed_tup (ds := [.list ((emptT t).rows.map encRw), .list (t.scales.map encF2), encF2 t.q]) (ea_d (EvN.d ((en_lc (ei_is (ei_rng1 (ed_var 3 rfl) (by omega)) (by rw [Int.toNat_natCast]; exact rng_map n)) (ts := [13]) (by decide) (lc_map (fun w : Nat => PyData.int (w : Int)) (fun w => encRw []) fun w hw => ⟨_, eg_name (by decide), et_yes, EvN.d (en_lst (ds := []) ea_nil)⟩) (by rw [List.length_map, List.length_range]; omega)).is (d' := (emptT t).rows.map encRw) (by show _ = (List.replicate t.rows.length []).map encRw; rw [hrn, List.map_replicate]; exact (List.eq_replicate_iff.mpr ⟨by rw [List.length_map, List.length_range], fun x hx => by obtain ⟨k, _, rfl⟩ := List.mem_map.mp hx; rfl⟩)))) (ea_d (ed_var 6 rfl) (ea_d (ed_var 8 rfl) ea_nil)))) ea_nil)) rfl (empt_sm sm).pre ok2).p))) run_next) ?_
  refine run_seq (run_for (ts := [11]) (ds := (spoF t (D.getD 21 0)).map encTb) (fun _ => [.scr a, .dat (encH h), .un, .un, .un, .un, .un, .un, .un, .dat (encTb t), .dat (.str (PyData.list [encH h, encTb t]).shown), .un, .un, .un, .un]) (ei_list (EvN.d (en_call (x := ((t, D.getD 21 0) : RTb × Int)) (ea_d (ed_var 5 rfl) (ea_d (ed_var 6 rfl) (ea_d (ed_var 8 rfl) (ea_d (ed_ixl (ed_var 2 rfl).l (ed_int 21) (hD.ix 21 rfl (by decide))) ea_nil)))) rfl pre))) (.eq (.eq (.un (.un (.un (.un (.un (.un (.un (.eq (.eq (.un (.un (.un (.un .nil))))))))))))))) (fun i d hi hd => ⟨_, eg_name (by decide), ?_⟩)) ?_
  · rw [List.getElem?_map] at hd
    obtain ⟨b, hb, rfl⟩ := Option.map_eq_some_iff.mp hd
    obtain ⟨hbad, hsm⟩ := bad b (List.mem_of_getElem? hb)
    have hsh : Shw (encTb b) := sb_shw (sb_Tb hsm) (by decide) (by decide) (.inr ⟨_, rfl⟩)
    have hno : tabO (h, b) = none := by unfold tabO; rw [if_neg (by show ¬tabB h.ws.length b = true; rw [hnn, hbad]; decide)]
    exact .n (run_seq (run_set (ed_repr (ed_var 11 rfl).p hsh)) (run_ifF (et_orF (et_notT (et_B (ed_call (x := ((h, b) : Hs × RTb)) (ea_d (ed_var 1 rfl) (ea_d (ed_var 11 rfl) ea_nil)) rfl ⟨hsm.pre, hno⟩))) (et_sameS (ed_repr (ed_var 11 rfl).p hsh) (ed_var 12 rfl))) run_next)) (.eq (.eq (.un (.un (.un (.un (.un (.un (.un (.eq (.eq (.un (.un (.un (.un .nil)))))))))))))))
  exact run_ret ((ed_eqS (keep _ rfl rfl) (ed_var 10 rfl)).is (by rw [decide_eq_true rfl]))

end
end KP

namespace KP
open PySem L2 DL MX
theorem law_start {K : PySem.W.Frag} {H : Hp} {a : Addr} {ns : List Int} (hl : ns.length ≤ 63) (hS : SqL K H a (ns.map V.int)) : sp_law K [.ref a] H (fun v _ => v = .bl true) fun _ _ _ => False :=
  ⟨ns, H, Same.refl _, .cons rfl ⟨a, rfl, hS⟩ .nil, hl, fun _ _ _ _ hv => hv.bl_inv⟩
/-! ### what the top has written -/
theorem all_mk {l : PySem.W.OpenLaw} {w : World} {K : PySem.W.Frag} {h : Heap} {mg : Str → Option Value} {fa : Addr} {od0 an0 : Option Addr} {sl0 : Array (Option Value)} {oc0 kV0 dc0 pm0 cd0 ct0 : Value} {f0 : Addr}
    {od1 an1 : Option Addr} {sl1 : Array (Option Value)} {oc1 kV1 dc1 pm1 cd1 ct1 : Value} {f1 : Addr}
    {od2 an2 : Option Addr} {sl2 : Array (Option Value)} {oc2 kV2 dc2 pm2 cd2 ct2 : Value} {f2 : Addr}
    {od3 an3 : Option Addr} {sl3 : Array (Option Value)} {oc3 kV3 dc3 pm3 cd3 ct3 : Value} {f3 : Addr}
    {od4 an4 : Option Addr} {sl4 : Array (Option Value)} {oc4 kV4 dc4 pm4 cd4 ct4 : Value} {f4 : Addr}
    {od5 an5 : Option Addr} {sl5 : Array (Option Value)} {oc5 kV5 dc5 pm5 cd5 ct5 : Value} {f5 : Addr}
    {od6 an6 : Option Addr} {sl6 : Array (Option Value)} {oc6 kV6 dc6 pm6 cd6 ct6 : Value} {f6 : Addr}
    {od7 an7 : Option Addr} {sl7 : Array (Option Value)} {oc7 kV7 dc7 pm7 cd7 ct7 : Value} {f7 : Addr}
    {od8 an8 : Option Addr} {sl8 : Array (Option Value)} {oc8 kV8 dc8 pm8 cd8 ct8 : Value} {f8 : Addr}
    {od9 an9 : Option Addr} {sl9 : Array (Option Value)} {oc9 kV9 dc9 pm9 cd9 ct9 : Value} {f9 : Addr}
    {od10 an10 : Option Addr} {sl10 : Array (Option Value)} {oc10 kV10 dc10 pm10 cd10 ct10 : Value} {f10 : Addr}
    {od11 an11 : Option Addr} {sl11 : Array (Option Value)} {oc11 kV11 dc11 pm11 cd11 ct11 : Value} {f11 : Addr}
    {od12 an12 : Option Addr} {sl12 : Array (Option Value)} {oc12 kV12 dc12 pm12 cd12 ct12 : Value} {f12 : Addr}
    {aZERO : Addr} {dZERO : Option Addr} {nZERO : Nat} {sZERO : Array (Option Value)} {tZERO0 : _} {tZERO1 : _}
    {aONE : Addr} {dONE : Option Addr} {nONE : Nat} {sONE : Array (Option Value)} {tONE0 : _} {tONE1 : _}
    {C : Addr}
    {C1 : Addr}
    {C2 : Addr} (X : K.In h) (G : h.Ns mainGlobals mg) (hfa : mg "law" = some (.ref fa))
    (a0 : PySem.W.nsIn K mainGlobals "is_fraction" = some (some (.ref f0))) (l0 : K.lookup f0 = some ⟨oc0, od0, .func (PySem.W.fnOf "is_fraction" "is_fraction" (defArgs s_is_fraction) (defBody s_is_fraction) (defScope s_is_fraction) .none kV0 dc0 pm0 an0 cd0 ct0), sl0⟩) (c0 : PySem.W.codeIn K cd0 "is_fraction" = true) (k0 : PySem.W.keepIn K (.ref f0) = true)
    (a1 : PySem.W.nsIn K mainGlobals "is_less" = some (some (.ref f1))) (l1 : K.lookup f1 = some ⟨oc1, od1, .func (PySem.W.fnOf "is_less" "is_less" (defArgs s_is_less) (defBody s_is_less) (defScope s_is_less) .none kV1 dc1 pm1 an1 cd1 ct1), sl1⟩) (c1 : PySem.W.codeIn K cd1 "is_less" = true) (k1 : PySem.W.keepIn K (.ref f1) = true)
    (a2 : PySem.W.nsIn K mainGlobals "is_between" = some (some (.ref f2))) (l2 : K.lookup f2 = some ⟨oc2, od2, .func (PySem.W.fnOf "is_between" "is_between" (defArgs s_is_between) (defBody s_is_between) (defScope s_is_between) .none kV2 dc2 pm2 an2 cd2 ct2), sl2⟩) (c2 : PySem.W.codeIn K cd2 "is_between" = true) (k2 : PySem.W.keepIn K (.ref f2) = true)
    (a3 : PySem.W.nsIn K mainGlobals "worths_in" = some (some (.ref f3))) (l3 : K.lookup f3 = some ⟨oc3, od3, .func (PySem.W.fnOf "worths_in" "worths_in" (defArgs s_worths_in) (defBody s_worths_in) (defScope s_worths_in) .none kV3 dc3 pm3 an3 cd3 ct3), sl3⟩) (c3 : PySem.W.codeIn K cd3 "worths_in" = true) (k3 : PySem.W.keepIn K (.ref f3) = true)
    (a4 : PySem.W.nsIn K mainGlobals "check_table" = some (some (.ref f4))) (l4 : K.lookup f4 = some ⟨oc4, od4, .func (PySem.W.fnOf "check_table" "check_table" (defArgs s_check_table) (defBody s_check_table) (defScope s_check_table) .none kV4 dc4 pm4 an4 cd4 ct4), sl4⟩) (c4 : PySem.W.codeIn K cd4 "check_table" = true) (k4 : PySem.W.keepIn K (.ref f4) = true)
    (a5 : PySem.W.nsIn K mainGlobals "_law_cell" = some (some (.ref f5))) (l5 : K.lookup f5 = some ⟨oc5, od5, .func (PySem.W.fnOf "_law_cell" "_law_cell" (defArgs s__law_cell) (defBody s__law_cell) (defScope s__law_cell) .none kV5 dc5 pm5 an5 cd5 ct5), sl5⟩) (c5 : PySem.W.codeIn K cd5 "_law_cell" = true) (k5 : PySem.W.keepIn K (.ref f5) = true)
    (a6 : PySem.W.nsIn K mainGlobals "_law_digits" = some (some (.ref f6))) (l6 : K.lookup f6 = some ⟨oc6, od6, .func (PySem.W.fnOf "_law_digits" "_law_digits" (defArgs s__law_digits) (defBody s__law_digits) (defScope s__law_digits) .none kV6 dc6 pm6 an6 cd6 ct6), sl6⟩) (c6 : PySem.W.codeIn K cd6 "_law_digits" = true) (k6 : PySem.W.keepIn K (.ref f6) = true)
    (a7 : PySem.W.nsIn K mainGlobals "_law_fraction" = some (some (.ref f7))) (l7 : K.lookup f7 = some ⟨oc7, od7, .func (PySem.W.fnOf "_law_fraction" "_law_fraction" (defArgs s__law_fraction) (defBody s__law_fraction) (defScope s__law_fraction) .none kV7 dc7 pm7 an7 cd7 ct7), sl7⟩) (c7 : PySem.W.codeIn K cd7 "_law_fraction" = true) (k7 : PySem.W.keepIn K (.ref f7) = true)
    (a8 : PySem.W.nsIn K mainGlobals "_law_spread" = some (some (.ref f8))) (l8 : K.lookup f8 = some ⟨oc8, od8, .func (PySem.W.fnOf "_law_spread" "_law_spread" (defArgs s__law_spread) (defBody s__law_spread) (defScope s__law_spread) .none kV8 dc8 pm8 an8 cd8 ct8), sl8⟩) (c8 : PySem.W.codeIn K cd8 "_law_spread" = true) (k8 : PySem.W.keepIn K (.ref f8) = true)
    (a9 : PySem.W.nsIn K mainGlobals "_law_house" = some (some (.ref f9))) (l9 : K.lookup f9 = some ⟨oc9, od9, .func (PySem.W.fnOf "_law_house" "_law_house" (defArgs s__law_house) (defBody s__law_house) (defScope s__law_house) .none kV9 dc9 pm9 an9 cd9 ct9), sl9⟩) (c9 : PySem.W.codeIn K cd9 "_law_house" = true) (k9 : PySem.W.keepIn K (.ref f9) = true)
    (a10 : PySem.W.nsIn K mainGlobals "_law_refused" = some (some (.ref f10))) (l10 : K.lookup f10 = some ⟨oc10, od10, .func (PySem.W.fnOf "_law_refused" "_law_refused" (defArgs s__law_refused) (defBody s__law_refused) (defScope s__law_refused) .none kV10 dc10 pm10 an10 cd10 ct10), sl10⟩) (c10 : PySem.W.codeIn K cd10 "_law_refused" = true) (k10 : PySem.W.keepIn K (.ref f10) = true)
    (a11 : PySem.W.nsIn K mainGlobals "_law_spoilt" = some (some (.ref f11))) (l11 : K.lookup f11 = some ⟨oc11, od11, .func (PySem.W.fnOf "_law_spoilt" "_law_spoilt" (defArgs s__law_spoilt) (defBody s__law_spoilt) (defScope s__law_spoilt) .none kV11 dc11 pm11 an11 cd11 ct11), sl11⟩) (c11 : PySem.W.codeIn K cd11 "_law_spoilt" = true) (k11 : PySem.W.keepIn K (.ref f11) = true)
    (a12 : PySem.W.nsIn K mainGlobals "law" = some (some (.ref f12))) (l12 : K.lookup f12 = some ⟨oc12, od12, .func (PySem.W.fnOf "law" "law" (defArgs s_law) (defBody s_law) (defScope s_law) .none kV12 dc12 pm12 an12 cd12 ct12), sl12⟩) (c12 : PySem.W.codeIn K cd12 "law" = true) (k12 : PySem.W.keepIn K (.ref f12) = true)
    (z_len : PySem.W.nsIn K mainGlobals "len" = some none)
    (z_int : PySem.W.nsIn K mainGlobals "int" = some none)
    (z_abs : PySem.W.nsIn K mainGlobals "abs" = some none)
    (z_range : PySem.W.nsIn K mainGlobals "range" = some none)
    (z_isinstance : PySem.W.nsIn K mainGlobals "isinstance" = some none)
    (z_list : PySem.W.nsIn K mainGlobals "list" = some none)
    (z_repr : PySem.W.nsIn K mainGlobals "repr" = some none)
    (z_sum : PySem.W.nsIn K mainGlobals "sum" = some none)
    (z_ZERO : PySem.W.nsIn K mainGlobals "ZERO" = some (some (.ref aZERO)))
    (y_ZERO : K.lookup aZERO = some ⟨.type "tuple", dZERO, .seq #[.int 0 tZERO0, .int 1 tZERO1] nZERO, sZERO⟩)
    (z_ONE : PySem.W.nsIn K mainGlobals "ONE" = some (some (.ref aONE)))
    (y_ONE : K.lookup aONE = some ⟨.type "tuple", dONE, .seq #[.int 1 tONE0, .int 1 tONE1] nONE, sONE⟩)
    (g_C : PySem.W.nsIn K mainGlobals "OutOfRange" = some (some (.ref C)))
    (ex_C : PySem.W.excIn K C [.type "ValueError", .type "Exception", .type "BaseException", .type "object"] "ValueError.__new__" = true)
    (kp_C : PySem.W.keepIn K (.ref C) = true)
    (sub_C : PySem.W.subIn K (.ref C) (.type "BaseException") = some true)
    (ty_C : PySem.W.typeIn K (.ref C) = some (.type "type"))
    (hg_C : PySem.W.findIn K (.ref C) "__getattribute__" = some (some (.builtin "BaseException.__getattribute__")))
    (hk_C : PySem.W.findIn K (.ref C) "__getattr__" = some none)
    (hd_C : PySem.W.hasDictIn K C = true)
    (ha_C : PySem.W.findIn K (.ref C) "__class__" = some (some (.builtin "object.__class__")))
    (hn_C : PySem.W.specialIn K (.builtin "object.__class__") "__get__" = some (some (.builtin "getset_descriptor.__get__")))
    (ht_C : PySem.W.takesIn K (.builtin "object.__class__") = some true)
    (hm_C : PySem.W.mroIn K C (.type "object") = some true)
    (self_C : PySem.W.subIn K (.ref C) (.ref C) = some true)
    (g_C1 : PySem.W.nsIn K mainGlobals "CofferError" = some (some (.ref C1)))
    (g_C2 : PySem.W.nsIn K mainGlobals "TooLong" = some (some (.ref C2)))
    (q_gcd : PySem.W.nsIn K mainGlobals "gcd" = some (some (.builtin "math.gcd")))
    (kk1 : PySem.W.kitOne K (.ref C) (.ref C1) = some true)
    (kk2 : PySem.W.kitOne K (.ref C) (.ref C2) = some false) :
    ∃ fd : FuncData, (∀ (s : Shared) (v : Value), BindsTo s fd ⟨[v], []⟩ [("script", v)]) ∧ ∀ base : Heap, K.In base → base.Ns mainGlobals mg → FnG l.prog w K mg base 5 fa fd ["script"] (sp_law K) := by
  have e := hfa.symm.trans (PySem.W.mg_of X G a12)
  cases e
  have m_len : mg "len" = none := PySem.W.mg_none_of X G z_len
  have m_int : mg "int" = none := PySem.W.mg_none_of X G z_int
  have m_abs : mg "abs" = none := PySem.W.mg_none_of X G z_abs
  have m_range : mg "range" = none := PySem.W.mg_none_of X G z_range
  have m_isinstance : mg "isinstance" = none := PySem.W.mg_none_of X G z_isinstance
  have m_list : mg "list" = none := PySem.W.mg_none_of X G z_list
  have m_repr : mg "repr" = none := PySem.W.mg_none_of X G z_repr
  have m_sum : mg "sum" = none := PySem.W.mg_none_of X G z_sum
  have m_ZERO := PySem.W.mg_of X G z_ZERO
  have c_ZERO : ∀ G : Hp, Dd K G (.ref aZERO) (encQ 0) := fun G => .tup (xs := [.int 0, .int 1]) (.inr ⟨_, _, _, y_ZERO, rfl, rfl, (by rw [sizeLine_eq]; show 2 ≤ 16777216; omega), (.cons ⟨tZERO0, rfl⟩ (.cons ⟨tZERO1, rfl⟩ .nil))⟩) (.cons (.int 0) (.cons (.int 1) .nil))
  have m_ONE := PySem.W.mg_of X G z_ONE
  have c_ONE : ∀ G : Hp, Dd K G (.ref aONE) (encQ 1) := fun G => .tup (xs := [.int 1, .int 1]) (.inr ⟨_, _, _, y_ONE, rfl, rfl, (by rw [sizeLine_eq]; show 2 ≤ 16777216; omega), (.cons ⟨tONE0, rfl⟩ (.cons ⟨tONE1, rfl⟩ .nil))⟩) (.cons (.int 1) (.cons (.int 1) .nil))
  have M_C := PySem.W.mg_of X G g_C
  have e_C : ErrC K mg "OutOfRange" C := ⟨M_C, ex_C, kp_C, sub_C, ty_C, ⟨hg_C, hk_C, sub_C, hd_C, ha_C, hn_C, ht_C, hm_C⟩, self_C⟩
  have M_C1 := PySem.W.mg_of X G g_C1
  have M_C2 := PySem.W.mg_of X G g_C2
  have m_gcd := PySem.W.mg_of X G q_gcd
  have F_is_fraction := fun_mk (st := s_is_fraction) l0 c0 k0
  have F_is_less := fun_mk (st := s_is_less) l1 c1 k1
  have F_is_between := fun_mk (st := s_is_between) l2 c2 k2
  have F_worths_in := fun_mk (st := s_worths_in) l3 c3 k3
  have F_check_table := fun_mk (st := s_check_table) l4 c4 k4
  have F__law_cell := fun_mk (st := s__law_cell) l5 c5 k5
  have F__law_digits := fun_mk (st := s__law_digits) l6 c6 k6
  have F__law_fraction := fun_mk (st := s__law_fraction) l7 c7 k7
  have F__law_spread := fun_mk (st := s__law_spread) l8 c8 k8
  have F__law_house := fun_mk (st := s__law_house) l9 c9 k9
  have F__law_refused := fun_mk (st := s__law_refused) l10 c10 k10
  have F__law_spoilt := fun_mk (st := s__law_spoilt) l11 c11 k11
  have F_law := fun_mk (st := s_law) l12 c12 k12
  refine ⟨PySem.W.fnOf "law" "law" (defArgs s_law) (defBody s_law) (defScope s_law) .none kV12 dc12 pm12 an12 cd12 ct12, fun s v => .of_eq rfl, fun base _ _ => ?_⟩
  have C_is_fraction : Callee l.prog w K mg base CX0 1 "is_fraction" ["pair"] (sp_is_fraction K) := ⟨f0, _, ok_is_fraction F_is_fraction m_gcd, PySem.W.mg_of X G a0, k0, F_is_fraction.binds (ps := ["pair"]) fun _ _ _ _ _ _ us hl => match us, hl with | [_], _ => rfl⟩
  have C_is_less : Callee l.prog w K mg base CX0 1 "is_less" ["first", "second"] (sp_is_less K) := ⟨f1, _, ok_is_less F_is_less, PySem.W.mg_of X G a1, k1, F_is_less.binds (ps := ["first", "second"]) fun _ _ _ _ _ _ us hl => match us, hl with | [_, _], _ => rfl⟩
  have C_is_between : Callee l.prog w K mg base CX0 2 "is_between" ["item"] (sp_is_between K) := ⟨f2, _, ok_is_between F_is_between m_ZERO c_ZERO m_ONE c_ONE C_is_less, PySem.W.mg_of X G a2, k2, F_is_between.binds (ps := ["item"]) fun _ _ _ _ _ _ us hl => match us, hl with | [_], _ => rfl⟩
  have C_worths_in : Callee l.prog w K mg base CX0 1 "worths_in" ["table"] (sp_worths_in K) := ⟨f3, _, ok_worths_in F_worths_in, PySem.W.mg_of X G a3, k3, F_worths_in.binds (ps := ["table"]) fun _ _ _ _ _ _ us hl => match us, hl with | [_], _ => rfl⟩
  have C_check_table : Callee l.prog w K mg base (L2.CX l.prog w) 3 "check_table" ["house", "table"] (sp_check_table K C) := ⟨f4, _, ok_check_table F_check_table m_len e_C C_is_fraction C_worths_in C_is_between, PySem.W.mg_of X G a4, k4, F_check_table.binds (ps := ["house", "table"]) fun _ _ _ _ _ _ us hl => match us, hl with | [_, _], _ => rfl⟩
  have C__law_cell : Callee l.prog w K mg base CX0 1 "_law_cell" ["script", "k"] (sp__law_cell K) := ⟨f5, _, ok__law_cell F__law_cell m_len m_int m_abs, PySem.W.mg_of X G a5, k5, F__law_cell.binds (ps := ["script", "k"]) fun _ _ _ _ _ _ us hl => match us, hl with | [_, _], _ => rfl⟩
  have C__law_digits : Callee l.prog w K mg base CX0 1 "_law_digits" ["cell", "base", "most"] (sp__law_digits K) := ⟨f6, _, ok__law_digits F__law_digits m_int m_range, PySem.W.mg_of X G a6, k6, F__law_digits.binds (ps := ["cell", "base", "most"]) fun _ _ _ _ _ _ us hl => match us, hl with | [_, _, _], _ => rfl⟩
  have C__law_fraction : Callee l.prog w K mg base CX0 1 "_law_fraction" ["top", "low"] (sp__law_fraction K) := ⟨f7, _, ok__law_fraction F__law_fraction m_abs m_int m_range, PySem.W.mg_of X G a7, k7, F__law_fraction.binds (ps := ["top", "low"]) fun _ _ _ _ _ _ us hl => match us, hl with | [_, _], _ => rfl⟩
  have C__law_spread : Callee l.prog w K mg base CX0 2 "_law_spread" ["draw", "values"] (sp__law_spread K) := ⟨f8, _, ok__law_spread F__law_spread m_len m_range m_sum C__law_fraction, PySem.W.mg_of X G a8, k8, F__law_spread.binds (ps := ["draw", "values"]) fun _ _ _ _ _ _ us hl => match us, hl with | [_, _], _ => rfl⟩
  have C__law_house : Callee l.prog w K mg base CX0 3 "_law_house" ["first", "second"] (sp__law_house K) := ⟨f9, _, ok__law_house F__law_house m_range C__law_digits C__law_fraction C__law_spread, PySem.W.mg_of X G a9, k9, F__law_house.binds (ps := ["first", "second"]) fun _ _ _ _ _ _ us hl => match us, hl with | [_, _], _ => rfl⟩
  have C__law_refused : Callee l.prog w K mg base CX0 4 "_law_refused" ["house", "table"] (sp__law_refused K) := ⟨f10, _, ok__law_refused F__law_refused ⟨e_C, M_C1, M_C2, kk1, kk2⟩ m_isinstance C_check_table, PySem.W.mg_of X G a10, k10, F__law_refused.binds (ps := ["house", "table"]) fun _ _ _ _ _ _ us hl => match us, hl with | [_, _], _ => rfl⟩
  have C__law_spoilt : Callee l.prog w K mg base CX0 1 "_law_spoilt" ["rows", "scales", "q", "draw"] (sp__law_spoilt K) := ⟨f11, _, ok__law_spoilt F__law_spoilt m_len m_list m_range, PySem.W.mg_of X G a11, k11, F__law_spoilt.binds (ps := ["rows", "scales", "q", "draw"]) fun _ _ _ _ _ _ us hl => match us, hl with | [_, _, _, _], _ => rfl⟩
  exact ok_law (C := C) F_law m_len m_range m_repr C_check_table C__law_cell C__law_digits C__law_fraction C__law_house C__law_spoilt C__law_refused
end KP
open PySem PySem.W PyProof.Rows
set_option maxHeartbeats 0 in
theorem PySem.Challenge.cw_lastcoffer_k50_tables_checked_holds : PySem.Challenge.rw_lastcoffer_k50_tables_checked.Holds := by
  w_on; o_law; k_head; (case hw => w_witness2)
  k_fill
  refine DL.law_G (l := PySem.Challenge.rw_lastcoffer_k50_tables_checked) (n := 63) (k := 5) (x := "script") (sp := fun w => KP.sp_law _) rfl (by decide) rfl ⟨rfl, by decide, by decide⟩ (fun w h Y => PySem.W.kIn_of Y) ?F (fun w H a ns hl hS => KP.law_start hl hS)
  case F =>
    intro w mg fa h KX G hmg
    refine' KP.all_mk KX G hmg ?a0 ?l0 ?c0 ?k0 ?a1 ?l1 ?c1 ?k1 ?a2 ?l2 ?c2 ?k2 ?a3 ?l3 ?c3 ?k3 ?a4 ?l4 ?c4 ?k4 ?a5 ?l5 ?c5 ?k5 ?a6 ?l6 ?c6 ?k6 ?a7 ?l7 ?c7 ?k7 ?a8 ?l8 ?c8 ?k8 ?a9 ?l9 ?c9 ?k9 ?a10 ?l10 ?c10 ?k10 ?a11 ?l11 ?c11 ?k11 ?a12 ?l12 ?c12 ?k12 ?z_len ?z_int ?z_abs ?z_range ?z_isinstance ?z_list ?z_repr ?z_sum ?z_ZERO ?y_ZERO ?z_ONE ?y_ONE ?g_C ?ex_C ?kp_C ?sub_C ?ty_C ?hg_C ?hk_C ?hd_C ?ha_C ?hn_C ?ht_C ?hm_C ?self_C ?g_C1 ?g_C2 ?q_gcd ?kk1 ?kk2
    (case a0 => first | k_is | k_exc | rfl)
    (case l0 => first | k_is | k_exc | rfl)
    (case c0 => first | k_is | k_exc | rfl)
    (case k0 => first | k_is | k_exc | rfl)
    (case a1 => first | k_is | k_exc | rfl)
    (case l1 => first | k_is | k_exc | rfl)
    (case c1 => first | k_is | k_exc | rfl)
    (case k1 => first | k_is | k_exc | rfl)
    (case a2 => first | k_is | k_exc | rfl)
    (case l2 => first | k_is | k_exc | rfl)
    (case c2 => first | k_is | k_exc | rfl)
    (case k2 => first | k_is | k_exc | rfl)
    (case a3 => first | k_is | k_exc | rfl)
    (case l3 => first | k_is | k_exc | rfl)
    (case c3 => first | k_is | k_exc | rfl)
    (case k3 => first | k_is | k_exc | rfl)
    (case a4 => first | k_is | k_exc | rfl)
    (case l4 => first | k_is | k_exc | rfl)
    (case c4 => first | k_is | k_exc | rfl)
    (case k4 => first | k_is | k_exc | rfl)
    (case a5 => first | k_is | k_exc | rfl)
    (case l5 => first | k_is | k_exc | rfl)
    (case c5 => first | k_is | k_exc | rfl)
    (case k5 => first | k_is | k_exc | rfl)
    (case a6 => first | k_is | k_exc | rfl)
    (case l6 => first | k_is | k_exc | rfl)
    (case c6 => first | k_is | k_exc | rfl)
    (case k6 => first | k_is | k_exc | rfl)
    (case a7 => first | k_is | k_exc | rfl)
    (case l7 => first | k_is | k_exc | rfl)
    (case c7 => first | k_is | k_exc | rfl)
    (case k7 => first | k_is | k_exc | rfl)
    (case a8 => first | k_is | k_exc | rfl)
    (case l8 => first | k_is | k_exc | rfl)
    (case c8 => first | k_is | k_exc | rfl)
    (case k8 => first | k_is | k_exc | rfl)
    (case a9 => first | k_is | k_exc | rfl)
    (case l9 => first | k_is | k_exc | rfl)
    (case c9 => first | k_is | k_exc | rfl)
    (case k9 => first | k_is | k_exc | rfl)
    (case a10 => first | k_is | k_exc | rfl)
    (case l10 => first | k_is | k_exc | rfl)
    (case c10 => first | k_is | k_exc | rfl)
    (case k10 => first | k_is | k_exc | rfl)
    (case a11 => first | k_is | k_exc | rfl)
    (case l11 => first | k_is | k_exc | rfl)
    (case c11 => first | k_is | k_exc | rfl)
    (case k11 => first | k_is | k_exc | rfl)
    (case a12 => first | k_is | k_exc | rfl)
    (case l12 => first | k_is | k_exc | rfl)
    (case c12 => first | k_is | k_exc | rfl)
    (case k12 => first | k_is | k_exc | rfl)
    (case z_len => first | k_is | k_exc | rfl)
    (case z_int => first | k_is | k_exc | rfl)
    (case z_abs => first | k_is | k_exc | rfl)
    (case z_range => first | k_is | k_exc | rfl)
    (case z_isinstance => first | k_is | k_exc | rfl)
    (case z_list => first | k_is | k_exc | rfl)
    (case z_repr => first | k_is | k_exc | rfl)
    (case z_sum => first | k_is | k_exc | rfl)
    (case z_ZERO => first | k_is | k_exc | rfl)
    (case y_ZERO => first | k_is | k_exc | rfl)
    (case z_ONE => first | k_is | k_exc | rfl)
    (case y_ONE => first | k_is | k_exc | rfl)
    (case g_C => first | k_is | k_exc | rfl)
    (case ex_C => first | k_is | k_exc | rfl)
    (case kp_C => first | k_is | k_exc | rfl)
    (case sub_C => first | k_is | k_exc | rfl)
    (case ty_C => first | k_is | k_exc | rfl)
    (case hg_C => first | k_is | k_exc | rfl)
    (case hk_C => first | k_is | k_exc | rfl)
    (case hd_C => first | k_is | k_exc | rfl)
    (case ha_C => first | k_is | k_exc | rfl)
    (case hn_C => first | k_is | k_exc | rfl)
    (case ht_C => first | k_is | k_exc | rfl)
    (case hm_C => first | k_is | k_exc | rfl)
    (case self_C => first | k_is | k_exc | rfl)
    (case g_C1 => first | k_is | k_exc | rfl)
    (case g_C2 => first | k_is | k_exc | rfl)
    (case q_gcd => first | k_is | k_exc | rfl)
    (case kk1 => first | k_is | k_exc | rfl)
    (case kk2 => first | k_is | k_exc | rfl)

