import PyProof.Rows.All
import Wide.All
import OpenK.AllK
import Wide.FinOn
import HandS.ForMost
import HandS.ForExc
import HandS.Wide
import HandS.WideBits
import HandS.Gcd
import HandS.IsInst
import HandS.ExcIs
import PyProof.ReprRoads
import HandS.More
import PyProof.ReprBulk
import PyProof.FitsInt
import HandS.TryOnly
import HandS.Flt
import HandS.RaiseMore
import HandS.Style
import HandS.SuiteRaise
import HandS.RaiseFrom
import PySem.Challenge.RW_lastcoffer_k08_houses_checked
set_option Elab.async false
set_option linter.all false
set_option maxRecDepth 100000
set_option maxHeartbeats 4000000
/-! Data upon the heap: what a body does, said of plain data. G is the published part (never written again), H all that is tracked. -/
namespace DL
open PySem L2
abbrev D := PyData

/-! ### data at a value -/
mutual
inductive Dd (K : PySem.W.Frag) (G : Hp) : V → D → Prop
  | non : Dd K G .non .none
  | bl (b : Bool) : Dd K G (.bl b) (.bool b)
  | int (i : Int) : Dd K G (.int i) (.int i)
  | str (x : Str) : Dd K G (.str x) (.str x)
  | lst {a : Addr} {xs : List V} {ds : List D} : G a = some (.lst xs) → Dds K G xs ds → Dd K G (.ref a) (.list ds)
  | tup {a : Addr} {xs : List V} {ds : List D} : SqT K G a xs → Dds K G xs ds → Dd K G (.ref a) (.tuple ds)
inductive Dds (K : PySem.W.Frag) (G : Hp) : List V → List D → Prop
  | nil : Dds K G [] []
  | cons {v : V} {vs : List V} {d : D} {ds : List D} : Dd K G v d → Dds K G vs ds → Dds K G (v :: vs) (d :: ds)
end
variable {K : PySem.W.Frag} {G G' G1 G2 H H' H1 H2 : Hp}

theorem sqT_mono {a : Addr} {xs : List V} (e : Same G G') (h : SqT K G a xs) : SqT K G' a xs := by
  rcases h with (h | ⟨o, h⟩) | h
  · exact .inl (.inl (e _ _ h))
  · exact .inl (.inr ⟨o, e _ _ h⟩)
  · exact .inr h
mutual
theorem Dd.mono (e : Same G G') : ∀ {v : V} {d : D}, Dd K G v d → Dd K G' v d
  | _, _, .non => .non
  | _, _, .bl b => .bl b
  | _, _, .int i => .int i
  | _, _, .str x => .str x
  | _, _, .lst h hs => .lst (e _ _ h) (hs.mono e)
  | _, _, .tup h hs => .tup (sqT_mono e h) (hs.mono e)
theorem Dds.mono (e : Same G G') : ∀ {vs : List V} {ds : List D}, Dds K G vs ds → Dds K G' vs ds
  | _, _, .nil => .nil
  | _, _, .cons h hs => .cons (h.mono e) (hs.mono e)
end
mutual
theorem Dd.dp : ∀ {v : V} {d : D}, Dd K G v d → Dp K G v d
  | _, _, .non => .non
  | _, _, .bl b => .bl b
  | _, _, .int i => .int i
  | _, _, .str x => .str x
  | _, _, .lst h hs => .lst (SqL.of h) hs.dp
  | _, _, .tup h hs => .tup h hs.dp
theorem Dds.dp : ∀ {vs : List V} {ds : List D}, Dds K G vs ds → DpAll K G vs ds
  | _, _, .nil => .nil
  | _, _, .cons h hs => .cons h.dp hs.dp
end
theorem Dds.len : ∀ {vs : List V} {ds : List D}, Dds K G vs ds → vs.length = ds.length
  | _, _, .nil => rfl
  | _, _, .cons _ hs => congrArg (· + 1) hs.len
theorem Dds.get : ∀ {vs : List V} {ds : List D} {i : Nat} {d : D}, Dds K G vs ds → ds[i]? = some d → ∃ v, vs[i]? = some v ∧ Dd K G v d
  | _, _, _, _, .nil, e => by simp at e
  | _, _, 0, _, .cons h _, e => ⟨_, rfl, by simp at e; subst e; exact h⟩
  | _, _, i + 1, d, .cons _ hs, e => by
    obtain ⟨v, h1, h2⟩ := hs.get (i := i) (d := d) (by simpa using e)
    exact ⟨v, by simpa using h1, h2⟩
theorem Dds.getV : ∀ {vs : List V} {ds : List D} {i : Nat} {v : V}, Dds K G vs ds → vs[i]? = some v → ∃ d, ds[i]? = some d ∧ Dd K G v d
  | _, _, _, _, .nil, e => by simp at e
  | _, _, 0, _, .cons h _, e => ⟨_, rfl, by simp at e; subst e; exact h⟩
  | _, _, i + 1, d, .cons _ hs, e => by
    obtain ⟨v, h1, h2⟩ := hs.getV (i := i) (v := d) (by simpa using e)
    exact ⟨v, by simpa using h1, h2⟩
theorem Dds.append : ∀ {vs ws : List V} {ds es : List D}, Dds K G vs ds → Dds K G ws es → Dds K G (vs ++ ws) (ds ++ es)
  | _, _, _, _, .nil, h => h
  | _, _, _, _, .cons a b, h => .cons a (b.append h)
theorem Dds.take (n : Nat) : ∀ {vs : List V} {ds : List D}, Dds K G vs ds → Dds K G (vs.take n) (ds.take n) := by
  induction n with
  | zero => intro vs ds _; simp; exact .nil
  | succ n ih =>
    intro vs ds h
    cases h with
    | nil => simp; exact .nil
    | cons a b => simp; exact .cons a (ih b)
theorem Dds.drop (n : Nat) : ∀ {vs : List V} {ds : List D}, Dds K G vs ds → Dds K G (vs.drop n) (ds.drop n) := by
  induction n with
  | zero => intro vs ds h; simpa using h
  | succ n ih =>
    intro vs ds h
    cases h with
    | nil => simp; exact .nil
    | cons a b => simpa using ih b
theorem Dds.set {v : V} {d : D} (hv : Dd K G v d) : ∀ {vs : List V} {ds : List D} (i : Nat), Dds K G vs ds → Dds K G (vs.set i v) (ds.set i d)
  | _, _, _, .nil => .nil
  | _, _, 0, .cons _ b => .cons hv b
  | _, _, i + 1, .cons a b => .cons a (Dds.set hv i b)
theorem Dd.int_inv {v : V} {i : Int} (h : Dd K G v (.int i)) : v = .int i := by cases h; rfl
theorem Dd.bl_inv {v : V} {b : Bool} (h : Dd K G v (.bool b)) : v = .bl b := by cases h; rfl
theorem Dd.str_inv {v : V} {x : Str} (h : Dd K G v (.str x)) : v = .str x := by cases h; rfl
theorem Dd.non_inv {v : V} (h : Dd K G v .none) : v = .non := by cases h; rfl
theorem Dd.tup_inv {v : V} {ds : List D} (h : Dd K G v (.tuple ds)) : ∃ a xs, v = .ref a ∧ SqT K G a xs ∧ Dds K G xs ds := by cases h with | tup a b => exact ⟨_, _, rfl, a, b⟩
theorem Dd.lst_inv {v : V} {ds : List D} (h : Dd K G v (.list ds)) : ∃ a xs, v = .ref a ∧ G a = some (.lst xs) ∧ Dds K G xs ds := by cases h with | lst a b => exact ⟨_, _, rfl, a, b⟩
theorem Dds.ints_inv : ∀ {vs : List V} {ns : List Int}, Dds K G vs (ns.map PyData.int) → vs = ns.map V.int
  | _, [], .nil => rfl
  | _, n :: ns, .cons h hs => by rw [h.int_inv, hs.ints_inv]; rfl
theorem Dds.ints : ∀ (ns : List Int), Dds K G (ns.map V.int) (ns.map PyData.int)
  | [] => .nil
  | n :: ns => .cons (.int n) (Dds.ints ns)
theorem Dds.bls_inv : ∀ {vs : List V} {ns : List Bool}, Dds K G vs (ns.map PyData.bool) → vs = ns.map V.bl
  | _, [], .nil => rfl
  | _, n :: ns, .cons h hs => by rw [h.bl_inv, hs.bls_inv]; rfl

/-! ### going on: G' publishes more, H' keeps all -/
structure Fw (G H G' H' : Hp) : Prop where
  gg : Same G G'
  gh : Same G' H'
  hh : Same H H'
  fr : ∀ l, H l ≠ none → G l = none → G' l = none
theorem Fw.refl (gh : Same G H) : Fw G H G H := ⟨Same.refl _, gh, Same.refl _, fun _ _ h => h⟩
theorem Fw.trans (a : Fw G H G1 H1) (b : Fw G1 H1 G2 H2) : Fw G H G2 H2 :=
  ⟨a.gg.trans b.gg, b.gh, a.hh.trans b.hh, fun l hl gl => b.fr l (fun z => hl (by
    cases q : H l with
    | none => rfl
    | some o => rw [a.hh l o q] at z; cases z)) (a.fr l hl gl)⟩
theorem same_upd {p : Addr} {o : HO} (h : H p = none) : Same H (upd H p o) := fun b x e => by
  rw [upd_ne (ne_of_none e h)]; exact e
theorem same_upd2 {p : Addr} {o : HO} (gh : Same G H) (h : G p = none) : Same G (upd H p o) := fun b x e => by
  rw [upd_ne (ne_of_none e h)]; exact gh _ _ e
/-- a new object, published at once -/
theorem Fw.new {p : Addr} {o : HO} (gh : Same G H) (h : H p = none) : Fw G H (upd G p o) (upd H p o) := by
  have hg : G p = none := gh.free h
  refine ⟨same_upd hg, fun b x e => ?_, same_upd h, fun l hl gl => ?_⟩
  · by_cases hb : b = p
    · subst hb; rw [upd_same] at e ⊢; exact e
    · rw [upd_ne hb] at e ⊢; exact gh _ _ e
  · rw [upd_ne (fun z => hl (by rw [z]; exact h))]; exact gl
/-- a new object, not published -/
theorem Fw.hid {p : Addr} {o : HO} (gh : Same G H) (h : H p = none) : Fw G H G (upd H p o) :=
  ⟨Same.refl _, same_upd2 gh (gh.free h), same_upd h, fun _ _ g => g⟩
/-- what stands hidden is published -/
theorem Fw.pub {p : Addr} {o : HO} (a : Fw G H G' H') (h : H p = none) (h' : H' p = some o) (g' : G' p = none) : Fw G H (upd G' p o) H' := by
  refine ⟨a.gg.trans (same_upd g'), fun b x e => ?_, a.hh, fun l hl gl => ?_⟩
  · by_cases hb : b = p
    · subst hb; rw [upd_same] at e; rw [h', e]
    · rw [upd_ne hb] at e; exact a.gh _ _ e
  · rw [upd_ne (fun z => hl (by rw [z]; exact h))]; exact a.fr l hl gl

/-! ### slots -/
inductive SD
  | un
  | dat (d : D)
  | ml (ds : List D)
  | md (kvs : List (Key × D))
  | raw (v : V)
  | scr (ns : List Int)
def SlOk (K : PySem.W.Frag) (G H : Hp) (o : Option V) : SD → Prop
  | .un => True
  | .dat d => ∃ v, o = some v ∧ Dd K G v d
  | .ml ds => ∃ l xs, o = some (.ref l) ∧ G l = none ∧ H l = some (.lst xs) ∧ Dds K G xs ds
  | .md kvs => ∃ l kv, o = some (.ref l) ∧ G l = none ∧ H l = some (.dK kv) ∧ kv.map (·.1) = kvs.map (·.1) ∧ Dds K G (kv.map (·.2)) (kvs.map (·.2))
  | .raw v => o = some v
  | .scr ns => ∃ a, o = some (.ref a) ∧ SqL K G a (ns.map V.int)
def SD.isMut : SD → Bool
  | .ml _ => true
  | .md _ => true
  | _ => false
abbrev EnvD := List SD
/-- the body's state: entered at G0, H0; now G, H; the slots are as env says -/
structure Ok (K : PySem.W.Frag) (G0 H0 G H : Hp) (σ : St) (env : EnvD) : Prop where
  gh : Same G H
  fw : Fw G0 H0 G H
  len : σ.length = env.length
  sl : ∀ (i : Nat) (s : SD), env[i]? = some s → ∃ o, σ[i]? = some o ∧ SlOk K G H o s
  fresh : ∀ (i : Nat) (s : SD) (l : Addr), env[i]? = some s → s.isMut = true → σ[i]? = some (some (.ref l)) → H0 l = none
  apart : ∀ (i j : Nat) (s t : SD) (l m : Addr), i ≠ j → env[i]? = some s → env[j]? = some t → s.isMut = true → t.isMut = true → σ[i]? = some (some (.ref l)) → σ[j]? = some (some (.ref m)) → l ≠ m
variable {G0 H0 : Hp} {σ σ' : St} {env env' : EnvD}

theorem SlOk.fw {o : Option V} {s : SD} (a : Fw G H G' H') (h : SlOk K G H o s) : SlOk K G' H' o s := by
  cases s with
  | un => trivial
  | dat d => obtain ⟨v, e, hd⟩ := h; exact ⟨v, e, hd.mono a.gg⟩
  | ml ds => obtain ⟨l, xs, e, g, hl, hs⟩ := h; exact ⟨l, xs, e, a.fr l (by rw [hl]; simp) g, a.hh _ _ hl, hs.mono a.gg⟩
  | md kvs => obtain ⟨l, kv, e, g, hl, hk, hs⟩ := h; exact ⟨l, kv, e, a.fr l (by rw [hl]; simp) g, a.hh _ _ hl, hk, hs.mono a.gg⟩
  | raw v => exact h
  | scr ns => obtain ⟨l, e, hl⟩ := h; exact ⟨l, e, a.gg.seq hl⟩
theorem Ok.go (ok : Ok K G0 H0 G H σ env) (a : Fw G H G' H') : Ok K G0 H0 G' H' σ env :=
  ⟨a.gh, ok.fw.trans a, ok.len, fun i s hi => let ⟨o, h1, h2⟩ := ok.sl i s hi; ⟨o, h1, h2.fw a⟩, ok.fresh, ok.apart⟩
theorem get_set {α : Type} {l : List α} {i j : Nat} {x y : α} (h : (l.set i x)[j]? = some y) : (i = j ∧ j < l.length ∧ y = x) ∨ (i ≠ j ∧ l[j]? = some y) := by
  by_cases e : i = j
  · subst e
    rw [List.getElem?_set_self'] at h
    cases q : l[i]? with
    | none => rw [q] at h; simp at h
    | some z =>
      rw [q] at h
      simp at h
      exact .inl ⟨rfl, (List.getElem?_eq_some_iff.mp q).1, h.symm⟩
  · rw [List.getElem?_set_ne e] at h
    exact .inr ⟨e, h⟩
/-- a slot is set; d is no mutable thing -/
theorem Ok.set (ok : Ok K G0 H0 G H σ env) (i : Nat) {v : V} {s : SD} (hm : s.isMut = false) (h : SlOk K G H (some v) s) : Ok K G0 H0 G H (σ.set i (some v)) (env.set i s) := by
  have hl := ok.len
  have key : ∀ (j : Nat) (t : SD) (l : Addr), (env.set i s)[j]? = some t → t.isMut = true → (σ.set i (some v))[j]? = some (some (.ref l)) → env[j]? = some t ∧ σ[j]? = some (some (.ref l)) := fun j t l ht hmt hj => by
    rcases get_set ht with ⟨e, _, e2⟩ | ⟨e, h2⟩
    · rw [e2, hm] at hmt; cases hmt
    · rcases get_set hj with ⟨e', _, _⟩ | ⟨_, h3⟩
      · exact absurd e' e
      · exact ⟨h2, h3⟩
  refine ⟨ok.gh, ok.fw, by rw [List.length_set, List.length_set]; exact hl, fun j t ht => ?_, fun j t l ht hmt hj => ?_, fun j k t u l m hjk ht hu hmt hmu hj hk => ?_⟩
  · rcases get_set ht with ⟨e, hj, e2⟩ | ⟨e, h2⟩
    · subst e2
      subst e
      refine ⟨some v, ?_, h⟩
      rw [List.getElem?_set_self (by omega)]
    · obtain ⟨o, h3, h4⟩ := ok.sl j t h2
      exact ⟨o, by rw [List.getElem?_set_ne e]; exact h3, h4⟩
  · obtain ⟨a, b⟩ := key j t l ht hmt hj
    exact ok.fresh j t l a hmt b
  · obtain ⟨a, b⟩ := key j t l ht hmt hj
    obtain ⟨c, d⟩ := key k u m hu hmu hk
    exact ok.apart j k t u l m hjk a c hmt hmu b d
/-- a slot is set to a new hidden object -/
theorem Ok.setMut (ok : Ok K G0 H0 G H σ env) (i : Nat) {p : Addr} {s : SD} (h : SlOk K G H (some (.ref p)) s) (h0 : H0 p = none)
    (ha : ∀ (j : Nat) (t : SD) (l : Addr), env[j]? = some t → t.isMut = true → σ[j]? = some (some (.ref l)) → l ≠ p) : Ok K G0 H0 G H (σ.set i (some (.ref p))) (env.set i s) := by
  have hl := ok.len
  have key : ∀ (j : Nat) (t : SD) (l : Addr), (env.set i s)[j]? = some t → t.isMut = true → (σ.set i (some (.ref p)))[j]? = some (some (.ref l)) → (i = j ∧ l = p) ∨ (i ≠ j ∧ env[j]? = some t ∧ σ[j]? = some (some (.ref l))) := fun j t l ht hmt hj => by
    rcases get_set ht with ⟨e, _, e2⟩ | ⟨e, h2⟩
    · rcases get_set hj with ⟨_, _, e3⟩ | ⟨e', _⟩
      · injection e3 with e3; injection e3 with e3; exact .inl ⟨e, e3⟩
      · exact absurd e e'
    · rcases get_set hj with ⟨e', _, _⟩ | ⟨_, h3⟩
      · exact absurd e' e
      · exact .inr ⟨e, h2, h3⟩
  refine ⟨ok.gh, ok.fw, by rw [List.length_set, List.length_set]; exact hl, fun j t ht => ?_, fun j t l ht hmt hj => ?_, fun j k t u l m hjk ht hu hmt hmu hj hk => ?_⟩
  · rcases get_set ht with ⟨e, hj, e2⟩ | ⟨e, h2⟩
    · subst e2
      subst e
      refine ⟨some (.ref p), ?_, h⟩
      rw [List.getElem?_set_self (by omega)]
    · obtain ⟨o, h3, h4⟩ := ok.sl j t h2
      exact ⟨o, by rw [List.getElem?_set_ne e]; exact h3, h4⟩
  · rcases key j t l ht hmt hj with ⟨_, e⟩ | ⟨_, a, b⟩
    · rw [e]; exact h0
    · exact ok.fresh j t l a hmt b
  · rcases key j t l ht hmt hj with ⟨e1, e⟩ | ⟨_, a, b⟩
    · rcases key k u m hu hmu hk with ⟨e2, e'⟩ | ⟨_, c, d⟩
      · exact absurd (e1.symm.trans e2) hjk
      · rw [e]; exact (ha k u m c hmu d).symm
    · rcases key k u m hu hmu hk with ⟨e2, e'⟩ | ⟨_, c, d⟩
      · rw [e']; exact ha j t l a hmt b
      · exact ok.apart j k t u l m hjk a c hmt hmu b d
theorem Ok.mutAt (ok : Ok K G0 H0 G H σ env) {j : Nat} {t : SD} {l : Addr} (h : env[j]? = some t) (hm : t.isMut = true) (hj : σ[j]? = some (some (.ref l))) : G l = none ∧ H l ≠ none := by
  obtain ⟨o, h1, h2⟩ := ok.sl j t h
  rw [hj] at h1
  cases h1
  cases t with
  | ml ds => obtain ⟨l', xs, e, g, hl, _⟩ := h2; cases e; exact ⟨g, by rw [hl]; simp⟩
  | md kvs => obtain ⟨l', xs, e, g, hl, _⟩ := h2; cases e; exact ⟨g, by rw [hl]; simp⟩
  | un => cases hm
  | dat _ => cases hm
  | raw _ => cases hm
  | scr _ => cases hm
/-- the hidden object of slot i is written -/
theorem Ok.write (ok : Ok K G0 H0 G H σ env) {i : Nat} {s t : SD} {l : Addr} {o : HO} (hi : env[i]? = some s) (hm : s.isMut = true) (hs : σ[i]? = some (some (.ref l))) (ht : SlOk K G (upd H l o) (some (.ref l)) t) (hmt : t.isMut = true) : Ok K G0 H0 G (upd H l o) σ (env.set i t) := by
  obtain ⟨gl, hl⟩ := ok.mutAt hi hm hs
  have h0 := ok.fresh i s l hi hm hs
  have mutKey : ∀ (j : Nat) (u : SD) (m : Addr), (env.set i t)[j]? = some u → u.isMut = true → ∃ u', env[j]? = some u' ∧ u'.isMut = true := fun j u m hu hmu => by
    rcases get_set hu with ⟨e, _, _⟩ | ⟨_, h2⟩
    · exact ⟨s, by rw [← e]; exact hi, hm⟩
    · exact ⟨u, h2, hmu⟩
  refine ⟨same_upd2 ok.gh gl, ⟨ok.fw.gg, same_upd2 ok.gh gl, fun b x e => ?_, ok.fw.fr⟩, by rw [List.length_set]; exact ok.len, fun j u hu => ?_, fun j u m hu hmu hj => ?_, fun j k u v m n hjk hu hv hmu hmv hj hk => ?_⟩
  · rw [upd_ne (ne_of_none e h0)]; exact ok.fw.hh _ _ e
  · rcases get_set hu with ⟨e, _, e2⟩ | ⟨e, h2⟩
    · subst e2; subst e
      exact ⟨_, hs, ht⟩
    · obtain ⟨ov, h3, h4⟩ := ok.sl j u h2
      refine ⟨ov, h3, ?_⟩
      cases u with
      | un => trivial
      | dat d => exact h4
      | raw v => exact h4
      | scr ns => exact h4
      | ml ds =>
        obtain ⟨m, xs, e1, g, hm', hd⟩ := h4
        subst e1
        have ne : m ≠ l := ok.apart j i _ _ m l (Ne.symm e) h2 hi rfl hm h3 hs
        exact ⟨m, xs, rfl, g, by rw [upd_ne ne]; exact hm', hd⟩
      | md kvs =>
        obtain ⟨m, xs, e1, g, hm', hk, hd⟩ := h4
        subst e1
        have ne : m ≠ l := ok.apart j i _ _ m l (Ne.symm e) h2 hi rfl hm h3 hs
        exact ⟨m, xs, rfl, g, by rw [upd_ne ne]; exact hm', hk, hd⟩
  · obtain ⟨u', h1, h2⟩ := mutKey j u m hu hmu
    exact ok.fresh j u' m h1 h2 hj
  · obtain ⟨u', h1, h2⟩ := mutKey j u m hu hmu
    obtain ⟨v', h3, h4⟩ := mutKey k v n hv hmv
    exact ok.apart j k u' v' m n hjk h1 h3 h2 h4 hj hk
/-- a hidden list of slot i is published -/
theorem Ok.publish (ok : Ok K G0 H0 G H σ env) {i : Nat} {ds : List D} (hi : env[i]? = some (.ml ds)) : ∃ G', Ok K G0 H0 G' H σ (env.set i (.dat (.list ds))) := by
  obtain ⟨o, h1, l, xs, e, gl, hl, hd⟩ := ok.sl i _ hi
  subst e
  have h0 := ok.fresh i _ l hi rfl h1
  have fw2 : Fw G0 H0 (upd G l (.lst xs)) H := Fw.pub ok.fw h0 hl gl
  refine ⟨upd G l (.lst xs), fw2.gh, fw2, by rw [List.length_set]; exact ok.len, fun j u hu => ?_, fun j u m hu hmu hj => ?_, fun j k u v m n hjk hu hv hmu hmv hj hk => ?_⟩
  · rcases get_set hu with ⟨e, _, e2⟩ | ⟨e, h2⟩
    · subst e2; subst e
      exact ⟨_, h1, _, rfl, .lst upd_same (hd.mono (same_upd gl))⟩
    · obtain ⟨ov, h3, h4⟩ := ok.sl j u h2
      refine ⟨ov, h3, ?_⟩
      cases u with
      | un => trivial
      | raw v => exact h4
      | scr ns => obtain ⟨m, e1, hv⟩ := h4; exact ⟨m, e1, (same_upd gl).seq hv⟩
      | dat d => obtain ⟨v, e1, hv⟩ := h4; exact ⟨v, e1, hv.mono (same_upd gl)⟩
      | ml es =>
        obtain ⟨m, ys, e1, g, hm', hd'⟩ := h4
        subst e1
        have ne : m ≠ l := ok.apart j i _ _ m l (Ne.symm e) h2 hi rfl rfl h3 h1
        exact ⟨m, ys, rfl, by rw [upd_ne ne]; exact g, hm', hd'.mono (same_upd gl)⟩
      | md kvs =>
        obtain ⟨m, ys, e1, g, hm', hk, hd'⟩ := h4
        subst e1
        have ne : m ≠ l := ok.apart j i _ _ m l (Ne.symm e) h2 hi rfl rfl h3 h1
        exact ⟨m, ys, rfl, by rw [upd_ne ne]; exact g, hm', hk, hd'.mono (same_upd gl)⟩
  · rcases get_set hu with ⟨_, _, e2⟩ | ⟨e, h2⟩
    · subst e2; cases hmu
    · exact ok.fresh j u m h2 hmu hj
  · rcases get_set hu with ⟨_, _, e2⟩ | ⟨e, h2⟩
    · subst e2; cases hmu
    · rcases get_set hv with ⟨_, _, e3⟩ | ⟨e', h3⟩
      · subst e3; cases hmv
      · exact ok.apart j k u v m n hjk h2 h3 hmu hmv hj hk
end DL

/-! What expressions, targets, iterators and statements do, said of plain data. -/
namespace DL
open PySem L2
variable {K : PySem.W.Frag} {E : XK} {env env' e1 e2 : EnvD}

/-! ### judgements -/
def EvD (K : PySem.W.Frag) (te : TE) (env : EnvD) (d : D) : Prop := ∀ (G0 H0 G H : Hp) (σ : L2.St), Ok K G0 H0 G H σ env → ∀ Q : VK, (∀ v G' H', Fw G H G' H' → Dd K G' v d → Q v H') → te σ H Q
/-- data that need not be published -/
def EvP (K : PySem.W.Frag) (te : TE) (env : EnvD) (d : D) : Prop := ∀ (G0 H0 G H : Hp) (σ : L2.St), Ok K G0 H0 G H σ env → ∀ Q : VK, (∀ v G' H', Fw G H G' H' → Dd K H' v d → Q v H') → te σ H Q
/-- a new list -/
def EvN (K : PySem.W.Frag) (te : TE) (env : EnvD) (ds : List D) : Prop := ∀ (G0 H0 G H : Hp) (σ : L2.St), Ok K G0 H0 G H σ env → ∀ Q : VK,
  (∀ p xs G' H', Fw G H G' H' → H p = none → G' p = none → H' p = some (.lst xs) → Dds K G' xs ds → Q (.ref p) H') → te σ H Q
def EvT (K : PySem.W.Frag) (tt : TT) (env : EnvD) (b : Bool) : Prop := ∀ (G0 H0 G H : Hp) (σ : L2.St), Ok K G0 H0 G H σ env → ∀ Q : Bool → Hp → Prop, (∀ G' H', Fw G H G' H' → Q b H') → tt σ H Q
inductive Args (K : PySem.W.Frag) (G H : Hp) : List V → List SD → Prop
  | nil : Args K G H [] []
  | cons {v : V} {vs : List V} {s : SD} {ss : List SD} : s.isMut = false → SlOk K G H (some v) s → Args K G H vs ss → Args K G H (v :: vs) (s :: ss)
theorem Args.fw {G H G' H' : Hp} (a : Fw G H G' H') : ∀ {vs : List V} {ss : List SD}, Args K G H vs ss → Args K G' H' vs ss
  | _, _, .nil => .nil
  | _, _, .cons m h hs => .cons m (h.fw a) (hs.fw a)
theorem Args.len {G H : Hp} : ∀ {vs : List V} {ss : List SD}, Args K G H vs ss → vs.length = ss.length
  | _, _, .nil => rfl
  | _, _, .cons _ _ hs => congrArg (· + 1) hs.len
def EvA (K : PySem.W.Frag) (ta : TA) (env : EnvD) (ss : List SD) : Prop := ∀ (G0 H0 G H : Hp) (σ : L2.St), Ok K G0 H0 G H σ env → ∀ Q : List V → Hp → Prop, (∀ vs G' H', Fw G H G' H' → Args K G' H' vs ss → Q vs H') → ta σ H Q
/-- the exact value, nothing made -/
def EvV (K : PySem.W.Frag) (te : TE) (env : EnvD) (s : SD) : Prop := ∀ (G0 H0 G H : Hp) (σ : L2.St), Ok K G0 H0 G H σ env → ∀ Q : VK, (∀ v G' H', Fw G H G' H' → SlOk K G' H' (some v) s → Q v H') → te σ H Q

theorem EvN.d {te : TE} {ds : List D} (h : EvN K te env ds) : EvD K te env (.list ds) := fun G0 H0 G H σ ok Q q =>
  h G0 H0 G H σ ok Q fun p xs G' H' a hp g' h' hs => q _ _ _ (Fw.pub a hp h' g') (.lst upd_same (hs.mono (same_upd g')))
theorem EvD.p {te : TE} {d : D} (h : EvD K te env d) : EvP K te env d := fun G0 H0 G H σ ok Q q => h G0 H0 G H σ ok Q fun v G' H' a hd => q v G' H' a (hd.mono a.gh)
theorem EvN.p {te : TE} {ds : List D} (h : EvN K te env ds) : EvP K te env (.list ds) := h.d.p
theorem EvD.v {te : TE} {d : D} (h : EvD K te env d) : EvV K te env (.dat d) := fun G0 H0 G H σ ok Q q => h G0 H0 G H σ ok Q fun v G' H' a hd => q v G' H' a ⟨v, rfl, hd⟩
theorem EvD.is {te : TE} {d d' : D} (h : EvD K te env d) (e : d = d') : EvD K te env d' := e ▸ h
theorem EvN.is {te : TE} {d d' : List D} (h : EvN K te env d) (e : d = d') : EvN K te env d' := e ▸ h
theorem EvT.is {te : TT} {d d' : Bool} (h : EvT K te env d) (e : d = d') : EvT K te env d' := e ▸ h

/-! ### names, constants -/
theorem ed_var {d : D} (i : Nat) (h : env[i]? = some (.dat d) := by rfl) : EvD K (tVar i) env d := fun G0 H0 G H σ ok Q q => by
  obtain ⟨o, h1, v, e, hd⟩ := ok.sl i _ h
  subst e
  exact ⟨v, h1, q v G H (Fw.refl ok.gh) hd⟩
theorem ep_var {ds : List D} (i : Nat) (h : env[i]? = some (.ml ds) := by rfl) : EvP K (tVar i) env (.list ds) := fun G0 H0 G H σ ok Q q => by
  obtain ⟨o, h1, l, xs, e, g, hl, hd⟩ := ok.sl i _ h
  subst e
  exact ⟨_, h1, q _ G H (Fw.refl ok.gh) (.lst hl (hd.mono ok.gh))⟩
theorem ev_raw {v : V} (i : Nat) (h : env[i]? = some (.raw v) := by rfl) : EvV K (tVar i) env (.raw v) := fun G0 H0 G H σ ok Q q => by
  obtain ⟨o, h1, e⟩ := ok.sl i _ h
  exact ⟨v, by rw [h1, show o = some v from e], q v G H (Fw.refl ok.gh) rfl⟩
theorem ed_int (n : Int) : EvD K (tC (.int n)) env (.int n) := fun _ _ G H _ ok _ q => q _ G H (Fw.refl ok.gh) (.int n)
theorem ed_bl (n : Bool) : EvD K (tC (.bl n)) env (.bool n) := fun _ _ G H _ ok _ q => q _ G H (Fw.refl ok.gh) (.bl n)
theorem ed_str (x : Str) : EvD K (tC (.str x)) env (.str x) := fun _ _ G H _ ok _ q => q _ G H (Fw.refl ok.gh) (.str x)
theorem ed_non : EvD K (tC .non) env .none := fun _ _ G H _ ok _ q => q _ G H (Fw.refl ok.gh) .non
/-- a constant of the written part -/
theorem ed_con {v : V} {d : D} (h : ∀ G : Hp, Dd K G v d) : EvD K (tC v) env d := fun _ _ G H _ ok _ q => q _ G H (Fw.refl ok.gh) (h G)

/-! ### operators -/
section
variable {ta tb tc : TE} {i j : Int} {x y : D}
theorem ed_2 {r : R2} {z : D} (ha : EvD K ta env x) (hb : EvD K tb env y) (hr : ∀ (v u : V) (G H : Hp), Same G H → Dd K G v x → Dd K G u y → ∀ Q : VK, (∀ w, Dd K G w z → Q w H) → r v u H Q) : EvD K (tOp r ta tb) env z :=
  fun G0 H0 G H σ ok Q q => ha G0 H0 G H σ ok _ fun v G1 H1 a1 hv => hb G0 H0 G1 H1 σ (ok.go a1) _ fun u G2 H2 a2 hu => hr v u G2 H2 a2.gh (hv.mono a2.gg) hu Q fun w hw => q w G2 H2 (a1.trans a2) hw
theorem ed_I {C : Int → Int → Prop} {g : Int → Int → Int} (ha : EvD K ta env (.int i)) (hb : EvD K tb env (.int j)) (hc : C i j) : EvD K (tOp (rI C fun i j => .int (g i j)) ta tb) env (.int (g i j)) :=
  ed_2 ha hb fun v u G H _ hv hu Q q => ⟨i, j, hv.int_inv, hu.int_inv, hc, q _ (.int _)⟩
theorem ed_I0 {g : Int → Int → Int} (ha : EvD K ta env (.int i)) (hb : EvD K tb env (.int j)) : EvD K (tOp (rI0 fun i j => .int (g i j)) ta tb) env (.int (g i j)) :=
  ed_2 ha hb fun v u G H _ hv hu Q q => ⟨i, j, hv.int_inv, hu.int_inv, q _ (.int _)⟩
theorem ed_B0 {g : Int → Int → Bool} (ha : EvD K ta env (.int i)) (hb : EvD K tb env (.int j)) : EvD K (tOp (rI0 fun i j => .bl (g i j)) ta tb) env (.bool (g i j)) :=
  ed_2 ha hb fun v u G H _ hv hu Q q => ⟨i, j, hv.int_inv, hu.int_inv, q _ (.bl _)⟩
theorem dec_int {i j : Int} : decide ((V.int i) = V.int j) = decide (i = j) := by
  by_cases h : i = j
  · subst h; simp
  · rw [decide_eq_false h, decide_eq_false (fun z => h (V.int.inj z))]
theorem dec_bl {i j : Bool} : decide ((V.bl i) = V.bl j) = decide (i = j) := by
  by_cases h : i = j
  · subst h; simp
  · rw [decide_eq_false h, decide_eq_false (fun z => h (V.bl.inj z))]
theorem dec_str {i j : Str} : decide ((V.str i) = V.str j) = decide (i = j) := by
  by_cases h : i = j
  · subst h; simp
  · rw [decide_eq_false h, decide_eq_false (fun z => h (V.str.inj z))]
theorem ed_eqI (ha : EvD K ta env (.int i)) (hb : EvD K tb env (.int j)) : EvD K (tOp rEq ta tb) env (.bool (decide (i = j))) :=
  ed_2 ha hb fun v u G H _ hv hu Q q => by rw [hv.int_inv, hu.int_inv]; exact ⟨rfl, by rw [dec_int]; exact q _ (.bl _)⟩
theorem ed_neI (ha : EvD K ta env (.int i)) (hb : EvD K tb env (.int j)) : EvD K (tOp rNe ta tb) env (.bool (!decide (i = j))) :=
  ed_2 ha hb fun v u G H _ hv hu Q q => by rw [hv.int_inv, hu.int_inv]; exact ⟨rfl, by rw [dec_int]; exact q _ (.bl _)⟩
theorem ed_eqB {i j : Bool} (ha : EvD K ta env (.bool i)) (hb : EvD K tb env (.bool j)) : EvD K (tOp rEq ta tb) env (.bool (decide (i = j))) :=
  ed_2 ha hb fun v u G H _ hv hu Q q => by rw [hv.bl_inv, hu.bl_inv]; exact ⟨rfl, by rw [dec_bl]; exact q _ (.bl _)⟩
theorem ed_neB {i j : Bool} (ha : EvD K ta env (.bool i)) (hb : EvD K tb env (.bool j)) : EvD K (tOp rNe ta tb) env (.bool (!decide (i = j))) :=
  ed_2 ha hb fun v u G H _ hv hu Q q => by rw [hv.bl_inv, hu.bl_inv]; exact ⟨rfl, by rw [dec_bl]; exact q _ (.bl _)⟩
theorem ed_eqS {i j : Str} (ha : EvD K ta env (.str i)) (hb : EvD K tb env (.str j)) : EvD K (tOp rEq ta tb) env (.bool (decide (i = j))) :=
  ed_2 ha hb fun v u G H _ hv hu Q q => by rw [hv.str_inv, hu.str_inv]; exact ⟨rfl, by rw [dec_str]; exact q _ (.bl _)⟩
theorem ed_neS {i j : Str} (ha : EvD K ta env (.str i)) (hb : EvD K tb env (.str j)) : EvD K (tOp rNe ta tb) env (.bool (!decide (i = j))) :=
  ed_2 ha hb fun v u G H _ hv hu Q q => by rw [hv.str_inv, hu.str_inv]; exact ⟨rfl, by rw [dec_str]; exact q _ (.bl _)⟩
theorem ep_2 {r : R2} {z : D} (ha : EvP K ta env x) (hb : EvP K tb env y) (hr : ∀ (v u : V) (H : Hp), Dd K H v x → Dd K H u y → ∀ Q : VK, (∀ w, (∀ G, Dd K G w z) → Q w H) → r v u H Q) : EvD K (tOp r ta tb) env z :=
  fun G0 H0 G H σ ok Q q => ha G0 H0 G H σ ok _ fun v G1 H1 a1 hv => hb G0 H0 G1 H1 σ (ok.go a1) _ fun u G2 H2 a2 hu => hr v u H2 (hv.mono a2.hh) hu Q fun w hw => q w G2 H2 (a1.trans a2) (hw G2)
/-- data compared -/
theorem ed_eqD (ha : EvP K ta env x) (hb : EvP K tb env y) (hx : SeqAt.shaped x = true) (hy : SeqAt.shaped y = true) : EvD K (tOp (rEqD K) ta tb) env (.bool (PyData.eqv x y)) :=
  ep_2 ha hb fun v u H hv hu Q q => ⟨x, y, hv.dp, hu.dp, hx, hy, q _ fun _ => .bl _⟩
theorem ed_neD (ha : EvP K ta env x) (hb : EvP K tb env y) (hx : SeqAt.shaped x = true) (hy : SeqAt.shaped y = true) : EvD K (tOp (rNeD K) ta tb) env (.bool (!PyData.eqv x y)) :=
  ep_2 ha hb fun v u H hv hu Q q => ⟨x, y, hv.dp, hu.dp, hx, hy, q _ fun _ => .bl _⟩
theorem ed_neg (ha : EvD K ta env (.int i)) : EvD K (tUn (rU fun i => .int (-i)) ta) env (.int (-i)) := fun G0 H0 G H σ ok Q q =>
  ha G0 H0 G H σ ok _ fun v G1 H1 a hv => ⟨i, hv.int_inv, q _ G1 H1 a (.int _)⟩
/-- items -/
theorem ed_ixT {ds : List D} {z : D} (ha : EvD K ta env (.tuple ds)) (hb : EvD K tb env (.int i)) (hz : atI ds i = some z) : EvD K (tOp (rIxT K) ta tb) env z :=
  ed_2 ha hb fun v u G H gh hv hu Q q => by
    obtain ⟨a, xs, e, hs, hd⟩ := hv.tup_inv
    subst e
    unfold atI at hz
    cases hk : ixN ds.length i with
    | none => rw [hk] at hz; cases hz
    | some k =>
      rw [hk] at hz
      obtain ⟨w, h1, h2⟩ := hd.get (i := k) (d := z) hz
      exact ⟨a, xs, i, w, rfl, hu.int_inv, sqT_mono gh hs, by unfold atI; rw [hd.len, hk]; exact h1, q w h2⟩
theorem ed_ixL {ds : List D} {z : D} (ha : EvD K ta env (.list ds)) (hb : EvD K tb env (.int i)) (hz : atI ds i = some z) : EvD K (tOp (rIxL K) ta tb) env z :=
  ed_2 ha hb fun v u G H gh hv hu Q q => by
    obtain ⟨a, xs, e, hs, hd⟩ := hv.lst_inv
    subst e
    unfold atI at hz
    cases hk : ixN ds.length i with
    | none => rw [hk] at hz; cases hz
    | some k =>
      rw [hk] at hz
      obtain ⟨w, h1, h2⟩ := hd.get (i := k) (d := z) hz
      exact ⟨a, xs, i, w, rfl, hu.int_inv, .inl (.inl (gh _ _ hs)), by unfold atI; rw [hd.len, hk]; exact h1, q w h2⟩
end
/-- an item of a hidden list -/
theorem ed_ixM {tb : TE} {m : Nat} {i : Int} {ds : List D} {z : D} (h : env[m]? = some (.ml ds)) (hb : EvD K tb env (.int i)) (hz : atI ds i = some z) : EvD K (tOp (rIxL K) (tVar m) tb) env z :=
  fun G0 H0 G H σ ok Q q => by
    obtain ⟨o, h1, l, xs, e, g, hl, hd⟩ := ok.sl m _ h
    subst e
    refine ⟨_, h1, hb G0 H0 G H σ ok _ fun u G1 H1 a hu => ?_⟩
    unfold atI at hz
    cases hk : ixN ds.length i with
    | none => rw [hk] at hz; cases hz
    | some k =>
      rw [hk] at hz
      obtain ⟨w, h1, h2⟩ := hd.get (i := k) (d := z) hz
      exact ⟨l, xs, i, w, rfl, hu.int_inv, .inl (.inl (a.hh _ _ hl)), by unfold atI; rw [hd.len, hk]; exact h1, q w G1 H1 a (h2.mono a.gg)⟩

/-! ### displays, arguments, calls -/
section
variable {ta tb tc te : TE} {t : TA} {s : SD} {ss : List SD}
theorem ea_nil : EvA K tNil env [] := fun _ _ G H _ ok _ q => q [] G H (Fw.refl ok.gh) .nil
theorem ea_cons (h : EvV K ta env s) (hm : s.isMut = false) (hs : EvA K t env ss) : EvA K (tCons ta t) env (s :: ss) := fun G0 H0 G H σ ok Q q =>
  h G0 H0 G H σ ok _ fun v G1 H1 a1 hv => hs G0 H0 G1 H1 σ (ok.go a1) _ fun vs G2 H2 a2 hvs => q _ G2 H2 (a1.trans a2) (.cons hm (hv.fw a2) hvs)
theorem ea_d {d : D} (h : EvD K ta env d) (hs : EvA K t env ss) : EvA K (tCons ta t) env (.dat d :: ss) := ea_cons h.v rfl hs
theorem Args.dds {G H : Hp} : ∀ {vs : List V} {ds : List D}, Args K G H vs (ds.map SD.dat) → Dds K G vs ds
  | _, [], .nil => .nil
  | _, d :: ds, .cons _ h hs => by
    obtain ⟨v, e, hd⟩ := h
    cases e
    exact .cons hd hs.dds
theorem ed_tup {ds : List D} (h : EvA K t env (ds.map SD.dat)) (hl : Nat.ble ds.length 1000 = true := by rfl) : EvD K (tTup t) env (.tuple ds) := fun G0 H0 G H σ ok Q q =>
  h G0 H0 G H σ ok _ fun vs G1 H1 a hv => ⟨by rw [hv.dds.len]; exact Nat.le_of_lt (small1000 (Nat.le_of_ble_eq_true hl)), fun p hp => q _ _ _ (a.trans (Fw.new a.gh hp)) (.tup (SqT.of upd_same) (hv.dds.mono (same_upd (a.gh.free hp))))⟩
theorem en_lst {ds : List D} (h : EvA K t env (ds.map SD.dat)) (hl : Nat.ble ds.length 1000 = true := by rfl) : EvN K (tLst t) env ds := fun G0 H0 G H σ ok Q q =>
  h G0 H0 G H σ ok _ fun vs G1 H1 a hv => ⟨by rw [hv.dds.len]; exact Nat.le_of_lt (small1000 (Nat.le_of_ble_eq_true hl)), fun p hp => q p vs G1 _ (a.trans (Fw.hid a.gh hp)) (by
    cases z : H p with
    | none => rfl
    | some o => rw [a.hh _ _ z] at hp; cases hp) (a.gh.free hp) upd_same hv.dds⟩
/-- built-in calls by values -/
theorem ed_CB {r : List V → Hp → VK → Prop} {z : D} (h : EvA K t env ss) (hr : ∀ (vs : List V) (G H : Hp), Same G H → Args K G H vs ss → ∀ Q : VK, (∀ w, Dd K G w z → Q w H) → r vs H Q) : EvD K (tCB r t) env z := fun G0 H0 G H σ ok Q q =>
  h G0 H0 G H σ ok _ fun vs G1 H1 a hv => hr vs G1 H1 a.gh hv Q fun w hw => q w G1 H1 a hw
theorem args1 {G H : Hp} {vs : List V} {d : D} (h : Args K G H vs [.dat d]) : ∃ v, vs = [v] ∧ Dd K G v d := by
  cases h with
  | cons _ h hs => cases hs; obtain ⟨v, e, hd⟩ := h; cases e; exact ⟨_, rfl, hd⟩
theorem args2 {G H : Hp} {vs : List V} {d e : D} (h : Args K G H vs [.dat d, .dat e]) : ∃ v u, vs = [v, u] ∧ Dd K G v d ∧ Dd K G u e := by
  cases h with
  | cons _ h hs =>
    obtain ⟨v, e, hd⟩ := h; cases e
    cases hs with
    | cons _ h hs => cases hs; obtain ⟨u, e, he⟩ := h; cases e; exact ⟨_, _, rfl, hd, he⟩
theorem ed_int1 {i : Int} (h : EvD K ta env (.int i)) : EvD K (tCB (fun xs H Q => (∃ i, xs = [.int i] ∧ Q (.int i) H) ∨ ∃ k, xs = [.bl k] ∧ Q (.int (if k then 1 else 0)) H) (tCons ta tNil)) env (.int i) :=
  ed_CB (ea_d h ea_nil) fun vs G H _ hv Q q => by
    obtain ⟨v, rfl, hd⟩ := args1 hv
    rw [hd.int_inv]
    exact .inl ⟨i, rfl, q _ (.int i)⟩
theorem ed_abs {i : Int} (h : EvD K ta env (.int i)) : EvD K (tCB (fun xs H Q => ∃ i, xs = [.int i] ∧ Q (.int (if i < 0 then -i else i)) H) (tCons ta tNil)) env (.int (if i < 0 then -i else i)) :=
  ed_CB (ea_d h ea_nil) fun vs G H _ hv Q q => by
    obtain ⟨v, rfl, hd⟩ := args1 hv
    rw [hd.int_inv]
    exact ⟨i, rfl, q _ (.int _)⟩
theorem ed_min2 {i j : Int} (h : EvD K ta env (.int i)) (h' : EvD K tb env (.int j)) : EvD K (tCB (fun xs H Q => ∃ i j, xs = [.int i, .int j] ∧ Q (.int (if j < i then j else i)) H) (tCons ta (tCons tb tNil))) env (.int (if j < i then j else i)) :=
  ed_CB (ea_d h (ea_d h' ea_nil)) fun vs G H _ hv Q q => by
    obtain ⟨v, u, rfl, hd, he⟩ := args2 hv
    rw [hd.int_inv, he.int_inv]
    exact ⟨i, j, rfl, q _ (.int _)⟩
theorem ed_max2 {i j : Int} (h : EvD K ta env (.int i)) (h' : EvD K tb env (.int j)) : EvD K (tCB (fun xs H Q => ∃ i j, xs = [.int i, .int j] ∧ Q (.int (if j > i then j else i)) H) (tCons ta (tCons tb tNil))) env (.int (if j > i then j else i)) :=
  ed_CB (ea_d h (ea_d h' ea_nil)) fun vs G H _ hv Q q => by
    obtain ⟨v, u, rfl, hd, he⟩ := args2 hv
    rw [hd.int_inv, he.int_inv]
    exact ⟨i, j, rfl, q _ (.int _)⟩
theorem ed_gcd {i j : Int} (h : EvD K ta env (.int i)) (h' : EvD K tb env (.int j)) : EvD K (tCB rGcd (tCons ta (tCons tb tNil))) env (.int ((Nat.gcd i.natAbs j.natAbs : Nat) : Int)) :=
  ed_CB (ea_d h (ea_d h' ea_nil)) fun vs G H _ hv Q q => by
    obtain ⟨v, u, rfl, hd, he⟩ := args2 hv
    rw [hd.int_inv, he.int_inv]
    exact ⟨i, j, rfl, q _ (.int _)⟩
theorem ed_bits {i : Int} (h : EvD K ta env (.int i)) : EvD K (tBits ta) env (.int (Builtin.Int.intBits i : Nat)) := fun G0 H0 G H σ ok Q q =>
  h G0 H0 G H σ ok _ fun v G1 H1 a hv => ⟨i, hv.int_inv, q _ G1 H1 a (.int _)⟩
/-- len of data -/
theorem ed_lenL {ds : List D} (h : EvP K ta env (.list ds)) : EvD K (tCB (fun xs H Q => ∃ p ys, xs = [.ref p] ∧ (SqL K H p ys ∨ SqT K H p ys) ∧ Q (.int ys.length) H) (tCons ta tNil)) env (.int ds.length) := fun G0 H0 G H σ ok Q q =>
  h G0 H0 G H σ ok _ fun v G1 H1 a hv => by
    obtain ⟨p, xs, e, hs, hd⟩ := hv.lst_inv
    subst e
    exact ⟨p, xs, rfl, .inl (SqL.of hs), by rw [hd.len]; exact q _ G1 H1 a (.int _)⟩
theorem ed_lenT {ds : List D} (h : EvP K ta env (.tuple ds)) : EvD K (tCB (fun xs H Q => ∃ p ys, xs = [.ref p] ∧ (SqL K H p ys ∨ SqT K H p ys) ∧ Q (.int ys.length) H) (tCons ta tNil)) env (.int ds.length) := fun G0 H0 G H σ ok Q q =>
  h G0 H0 G H σ ok _ fun v G1 H1 a hv => by
    obtain ⟨p, xs, e, hs, hd⟩ := hv.tup_inv
    subst e
    exact ⟨p, xs, rfl, .inr hs, by rw [hd.len]; exact q _ G1 H1 a (.int _)⟩

/-! ### promises -/
variable {α : Type} {fs : α → List SD} {pre : α → Prop} {f : α → D} {fl : α → List D} {fo : α → Option D} {C : Value} {E' : XK}
/-- hands back data -/
def SpD (K : PySem.W.Frag) (fs : α → List SD) (pre : α → Prop) (f : α → D) : Sp := fun vs H Q _ => ∃ (x : α) (G : Hp), Same G H ∧ Args K G H vs (fs x) ∧ pre x ∧ ∀ v G' H', Fw G H G' H' → Dd K G' v (f x) → Q v H'
/-- hands back a new list -/
def SpN (K : PySem.W.Frag) (fs : α → List SD) (pre : α → Prop) (fl : α → List D) : Sp := fun vs H Q _ => ∃ (x : α) (G : Hp), Same G H ∧ Args K G H vs (fs x) ∧ pre x ∧
  ∀ p xs G' H', Fw G H G' H' → H p = none → G' p = none → H' p = some (.lst xs) → Dds K G' xs (fl x) → Q (.ref p) H'
/-- hands back data, or raises an error of the class C -/
def SpX (K : PySem.W.Frag) (fs : α → List SD) (pre : α → Prop) (C : Value) (fo : α → Option D) : Sp := fun vs H Q E => ∃ (x : α) (G : Hp), Same G H ∧ Args K G H vs (fs x) ∧ pre x ∧
  (∀ d, fo x = some d → ∀ v G' H', Fw G H G' H' → Dd K G' v d → Q v H') ∧ (fo x = none → ∀ G' H', Fw G H G' H' → E C none H')
theorem ed_call {x : α} (h : EvA K t env ss) (e : ss = fs x) (hp : pre x) : EvD K (tCall (SpD K fs pre f) [] E' t) env (f x) := fun G0 H0 G H σ ok Q q =>
  h G0 H0 G H σ ok _ fun vs G1 H1 a hv => ⟨x, G1, a.gh, by rw [List.append_nil, ← e]; exact hv, hp, fun v G2 H2 a2 hd => q v G2 H2 (a.trans a2) hd⟩
theorem en_call {x : α} (h : EvA K t env ss) (e : ss = fs x) (hp : pre x) : EvN K (tCall (SpN K fs pre fl) [] E' t) env (fl x) := fun G0 H0 G H σ ok Q q =>
  h G0 H0 G H σ ok _ fun vs G1 H1 a hv => ⟨x, G1, a.gh, by rw [List.append_nil, ← e]; exact hv, hp, fun p xs G2 H2 a2 hp g2 h2 hd => q p xs G2 H2 (a.trans a2) (by
    cases z : H p with
    | none => rfl
    | some o => rw [a.hh _ _ z] at hp; cases hp) g2 h2 hd⟩
/-- .. where it does not raise -/
theorem ed_callX {x : α} {d : D} (h : EvA K t env ss) (e : ss = fs x) (hp : pre x) (hd : fo x = some d) : EvD K (tCall (SpX K fs pre C fo) [] E' t) env d := fun G0 H0 G H σ ok Q q =>
  h G0 H0 G H σ ok _ fun vs G1 H1 a hv => ⟨x, G1, a.gh, by rw [List.append_nil, ← e]; exact hv, hp, fun d' hd' v G2 H2 a2 hv2 => q v G2 H2 (a.trans a2) (by rw [hd] at hd'; cases hd'; exact hv2), fun z => by rw [hd] at z; cases z⟩

/-! ### tests -/
theorem et_test {b : Bool} (h : EvD K te env (.bool b)) : EvT K (tTest te) env b := fun G0 H0 G H σ ok Q q => h G0 H0 G H σ ok _ fun v G1 H1 a hv => ⟨b, hv.bl_inv, q G1 H1 a⟩
theorem et_B {b : Bool} (h : EvD K te env (.bool b)) : EvT K (tB te) env b := fun G0 H0 G H σ ok Q q => h G0 H0 G H σ ok _ fun v G1 H1 a hv => ⟨b, hv.bl_inv, q G1 H1 a⟩
theorem et_not {t1 : TT} {b : Bool} (h : EvT K t1 env b) : EvT K (tNot t1) env (!b) := fun G0 H0 G H σ ok Q q => h G0 H0 G H σ ok _ fun G1 H1 a => q G1 H1 a
theorem et_and {t1 t2 : TT} {b c : Bool} (h : EvT K t1 env b) (h2 : b = true → EvT K t2 env c) : EvT K (tAnd t1 t2) env (b && c) := fun G0 H0 G H σ ok Q q => h G0 H0 G H σ ok _ fun G1 H1 a => by
  cases b with
  | true => exact iteT (h2 rfl G0 H0 G1 H1 σ (ok.go a) _ fun G2 H2 a2 => q G2 H2 (a.trans a2))
  | false => exact iteF (q G1 H1 a)
theorem et_or {t1 t2 : TT} {b c : Bool} (h : EvT K t1 env b) (h2 : b = false → EvT K t2 env c) : EvT K (tOr t1 t2) env (b || c) := fun G0 H0 G H σ ok Q q => h G0 H0 G H σ ok _ fun G1 H1 a => by
  cases b with
  | true => exact iteT (q G1 H1 a)
  | false => exact iteF (h2 rfl G0 H0 G1 H1 σ (ok.go a) _ fun G2 H2 a2 => q G2 H2 (a.trans a2))
theorem ed_andV {b c : Bool} (h : EvD K ta env (.bool b)) (h2 : b = true → EvD K tb env (.bool c)) : EvD K (tAndV ta tb) env (.bool (b && c)) := fun G0 H0 G H σ ok Q q => h G0 H0 G H σ ok _ fun v G1 H1 a hv => ⟨b, hv.bl_inv, by
  cases b with
  | true => exact iteT (h2 rfl G0 H0 G1 H1 σ (ok.go a) _ fun w G2 H2 a2 hw => q w G2 H2 (a.trans a2) hw)
  | false => exact iteF (q _ G1 H1 a (.bl false))⟩
theorem ed_orV {b c : Bool} (h : EvD K ta env (.bool b)) (h2 : b = false → EvD K tb env (.bool c)) : EvD K (tOrV ta tb) env (.bool (b || c)) := fun G0 H0 G H σ ok Q q => h G0 H0 G H σ ok _ fun v G1 H1 a hv => ⟨b, hv.bl_inv, by
  cases b with
  | true => exact iteT (q _ G1 H1 a (.bl true))
  | false => exact iteF (h2 rfl G0 H0 G1 H1 σ (ok.go a) _ fun w G2 H2 a2 hw => q w G2 H2 (a.trans a2) hw)⟩
theorem ed_notV {b : Bool} (h : EvD K ta env (.bool b)) : EvD K (tNotV ta) env (.bool (!b)) := fun G0 H0 G H σ ok Q q => h G0 H0 G H σ ok _ fun v G1 H1 a hv => ⟨b, hv.bl_inv, q _ G1 H1 a (.bl _)⟩
theorem ed_if {t1 : TT} {b : Bool} {d : D} (h : EvT K t1 env b) (h1 : b = true → EvD K ta env d) (h2 : b = false → EvD K tb env d) : EvD K (tIf t1 ta tb) env d := fun G0 H0 G H σ ok Q q => h G0 H0 G H σ ok _ fun G1 H1 a => by
  cases b with
  | true => exact iteT (h1 rfl G0 H0 G1 H1 σ (ok.go a) _ fun w G2 H2 a2 hw => q w G2 H2 (a.trans a2) hw)
  | false => exact iteF (h2 rfl G0 H0 G1 H1 σ (ok.go a) _ fun w G2 H2 a2 hw => q w G2 H2 (a.trans a2) hw)
end

/-! ### targets -/
def Sets (ts : List Nat) (σ σ' : L2.St) : Prop := σ'.length = σ.length ∧ ∀ i, i ∉ ts → σ'[i]? = σ[i]?
theorem Sets.refl (ts : List Nat) (σ : L2.St) : Sets ts σ σ := ⟨rfl, fun _ _ => rfl⟩
theorem Sets.trans {ts : List Nat} {a b c : L2.St} (h : Sets ts a b) (h' : Sets ts b c) : Sets ts a c := ⟨h'.1.trans h.1, fun i hi => (h'.2 i hi).trans (h.2 i hi)⟩
theorem Sets.set {ts : List Nat} {σ : L2.St} {i : Nat} {v : Option V} (h : i ∈ ts) : Sets ts σ (σ.set i v) := ⟨List.length_set, fun j hj => List.getElem?_set_ne fun e => hj (by rw [← e]; exact h)⟩
/-- the target takes the data d -/
def EvG (K : PySem.W.Frag) (g : TG) (ts : List Nat) (env : EnvD) (d : D) (env' : EnvD) : Prop := ∀ (G0 H0 G H : Hp) (σ : L2.St) (v : V) (Nx : L2.St → Hp → Prop), Ok K G0 H0 G H σ env → Dd K G v d → (∀ σ', Sets ts σ σ' → Ok K G0 H0 G H σ' env' → Nx σ' H) → g v σ H Nx
def EvGs (K : PySem.W.Frag) (g : TGs) (ts : List Nat) (env : EnvD) (ds : List D) (env' : EnvD) : Prop := ∀ (G0 H0 G H : Hp) (σ : L2.St) (vs : List V) (Nx : L2.St → Hp → Prop), Ok K G0 H0 G H σ env → Dds K G vs ds → (∀ σ', Sets ts σ σ' → Ok K G0 H0 G H σ' env' → Nx σ' H) → g vs σ H Nx
theorem eg_name {ts : List Nat} {i : Nat} {d : D} (h : i ∈ ts) : EvG K (gName i) ts env d (env.set i (.dat d)) := fun G0 H0 G H σ v Nx ok hv q => q _ (Sets.set h) (ok.set i rfl ⟨v, rfl, hv⟩)
theorem egs_nil {ts : List Nat} : EvGs K gNil ts env [] env := fun G0 H0 G H σ vs Nx ok hv q => by
  cases hv
  exact ⟨rfl, q σ (Sets.refl _ _) ok⟩
theorem egs_cons {ts : List Nat} {g : TG} {gs : TGs} {d : D} {ds : List D} (h : EvG K g ts env d e1) (hs : EvGs K gs ts e1 ds e2) : EvGs K (gCons g gs) ts env (d :: ds) e2 := fun G0 H0 G H σ vs Nx ok hv q => by
  cases hv with
  | cons a b => exact ⟨_, _, rfl, h G0 H0 G H σ _ _ ok a fun σ1 s1 ok1 => hs G0 H0 G H σ1 _ _ ok1 b fun σ2 s2 ok2 => q σ2 (s1.trans s2) ok2⟩
theorem eg_tup {ts : List Nat} {n : Nat} {gs : TGs} {ds : List D} (h : EvGs K gs ts env ds env') (hn : ds.length = n) : EvG K (gTup K n gs) ts env (.tuple ds) env' := fun G0 H0 G H σ v Nx ok hv q => by
  obtain ⟨a, xs, e, hs, hd⟩ := hv.tup_inv
  subst e
  exact ⟨a, xs, rfl, sqT_mono ok.gh hs, by rw [hd.len]; exact hn, h G0 H0 G H σ xs Nx ok hd q⟩

/-! ### what a for walks -/
/-- it draws the data ds, one after the other -/
structure Walks (K : PySem.W.Frag) (J : It) (G1 : Hp) (ds : List D) : Prop where
  stop : ∀ (G H : Hp), Same G1 G → Same G H → J.stop ds.length H
  go : ∀ (i : Nat) (d : D) (G H : Hp), ds[i]? = some d → Same G1 G → Same G H → J.go i H ∧ ∀ x H', J.yld i H x H' → ∃ G', Fw G H G' H' ∧ Dd K G' x d
def EvI (K : PySem.W.Frag) (wi : TI) (env : EnvD) (ds : List D) : Prop := ∀ (G0 H0 G H : Hp) (σ : L2.St), Ok K G0 H0 G H σ env → ∀ R : It → Hp → Prop, (∀ J G' H', Fw G H G' H' → Walks K J G' ds → R J H') → wi σ H R
theorem SqL.gh {G H : Hp} {a : Addr} {xs : List V} (gh : Same G H) (h : G a = some (.lst xs)) : SqL K H a xs := .inl (.inl (gh _ _ h))
theorem ei_list {tl : TE} {ds : List D} (h : EvD K tl env (.list ds)) : EvI K (iList K tl) env ds := fun G0 H0 G H σ ok R q =>
  h G0 H0 G H σ ok _ fun v G1 H1 a hv => by
    obtain ⟨p, xs, e, hs, hd⟩ := hv.lst_inv
    subst e
    refine ⟨p, rfl, ⟨xs, SqL.gh a.gh hs⟩, q _ G1 H1 a ⟨fun G2 H2 g1 g2 => ⟨xs, SqL.gh g2 (g1 _ _ hs), by rw [hd.len]; exact Nat.le_refl _⟩, fun i d G2 H2 hi g1 g2 => ?_⟩⟩
    obtain ⟨w, h1, h2⟩ := hd.get hi
    refine ⟨⟨xs, w, SqL.gh g2 (g1 _ _ hs), h1⟩, fun x H' hy => ?_⟩
    obtain ⟨e1, e2⟩ := hy
    have e3 := e2 xs (SqL.gh g2 (g1 _ _ hs))
    rw [h1] at e3
    cases e3
    rw [e1]
    exact ⟨G2, Fw.refl g2, h2.mono g1⟩
theorem ei_tup {tl : TE} {ds : List D} (h : EvD K tl env (.tuple ds)) : EvI K (iTup K tl) env ds := fun G0 H0 G H σ ok R q =>
  h G0 H0 G H σ ok _ fun v G1 H1 a hv => by
    obtain ⟨p, xs, e, hs, hd⟩ := hv.tup_inv
    subst e
    refine ⟨p, rfl, ⟨xs, sqT_mono a.gh hs⟩, q _ G1 H1 a ⟨fun G2 H2 g1 g2 => ⟨xs, sqT_mono g2 (sqT_mono g1 hs), by rw [hd.len]; exact Nat.le_refl _⟩, fun i d G2 H2 hi g1 g2 => ?_⟩⟩
    obtain ⟨w, h1, h2⟩ := hd.get hi
    refine ⟨⟨xs, w, sqT_mono g2 (sqT_mono g1 hs), h1⟩, fun x H' hy => ?_⟩
    obtain ⟨e1, e2⟩ := hy
    have e3 := e2 xs (sqT_mono g2 (sqT_mono g1 hs))
    rw [h1] at e3
    cases e3
    rw [e1]
    exact ⟨G2, Fw.refl g2, h2.mono g1⟩
/-- lo, lo + c, .. -/
def rngD (lo c : Int) (n : Nat) : List D := (List.range n).map fun (i : Nat) => .int (lo + (i : Int) * c)
theorem rngD_len (lo c : Int) (n : Nat) : (rngD lo c n).length = n := by unfold rngD; rw [List.length_map, List.length_range]
theorem rngD_get {lo c : Int} {n i : Nat} {d : D} (h : (rngD lo c n)[i]? = some d) : i < n ∧ d = .int (lo + (i : Int) * c) := by
  have hi : i < n := by
    have := (List.getElem?_eq_some_iff.mp h).1
    rwa [rngD_len] at this
  refine ⟨hi, ?_⟩
  unfold rngD at h
  rw [List.getElem?_map, List.getElem?_range hi] at h
  simpa using h.symm
theorem rngD_at {lo c : Int} {n i : Nat} (h : i < n) : (rngD lo c n)[i]? = some (.int (lo + (i : Int) * c)) := by
  unfold rngD
  rw [List.getElem?_map, List.getElem?_range h]
  rfl
theorem walks_r {lo : Int} {n : Nat} {G1 : Hp} : Walks K (Itr lo n) G1 (rngD lo 1 n) := by
  refine ⟨fun G H _ _ => ?_, fun i d G H hi _ gh => ?_⟩
  · rw [rngD_len]; exact Nat.le_refl _
  · obtain ⟨h1, h2⟩ := rngD_get hi
    refine ⟨h1, fun x H' hy => ?_⟩
    obtain ⟨e1, e2⟩ := hy
    rw [e1, e2, h2, Int.mul_one]
    exact ⟨G, Fw.refl gh, .int _⟩
theorem walks_c {lo c : Int} {n : Nat} {G1 : Hp} : Walks K (Itc lo c n) G1 (rngD lo c n) := by
  refine ⟨fun G H _ _ => ?_, fun i d G H hi _ gh => ?_⟩
  · rw [rngD_len]; exact Nat.le_refl _
  · obtain ⟨h1, h2⟩ := rngD_get hi
    refine ⟨h1, fun x H' hy => ?_⟩
    obtain ⟨e1, e2⟩ := hy
    rw [e1, e2, h2]
    exact ⟨G, Fw.refl gh, .int _⟩
theorem ei_rng1 {ta : TE} {j : Int} (h : EvD K ta env (.int j)) (hb : -(2 ^ 62) ≤ j ∧ j < 2 ^ 62) : EvI K (iRng1 (tCons ta tNil)) env (rngD 0 1 j.toNat) := fun G0 H0 G H σ ok R q =>
  h G0 H0 G H σ ok _ fun v G1 H1 a hv => ⟨j, by rw [hv.int_inv], hb.1, hb.2, q _ G1 H1 a walks_r⟩
theorem ei_rng2 {ta tb : TE} {i j : Int} (h : EvD K ta env (.int i)) (h' : EvD K tb env (.int j)) (hb : -(2 ^ 62) ≤ i ∧ i < 2 ^ 62 ∧ -(2 ^ 62) ≤ j ∧ j < 2 ^ 62) : EvI K (iRng2 (tCons ta (tCons tb tNil))) env (rngD i 1 (j - i).toNat) := fun G0 H0 G H σ ok R q =>
  h G0 H0 G H σ ok _ fun v G1 H1 a hv => h' G0 H0 G1 H1 σ (ok.go a) _ fun u G2 H2 a2 hu => ⟨i, j, by rw [hv.int_inv, hu.int_inv], hb, q _ G2 H2 (a.trans a2) walks_r⟩
theorem ei_rng3 {ta tb tc : TE} {i j c : Int} {n : Nat} (h : EvD K ta env (.int i)) (h' : EvD K tb env (.int j)) (h'' : EvD K tc env (.int c)) (hb : RgC i j c n) : EvI K (iRng3 (tCons ta (tCons tb (tCons tc tNil)))) env (rngD i c n) := fun G0 H0 G H σ ok R q =>
  h G0 H0 G H σ ok _ fun v G1 H1 a hv => h' G0 H0 G1 H1 σ (ok.go a) _ fun u G2 H2 a2 hu => h'' G0 H0 G2 H2 σ ((ok.go a).go a2) _ fun w G3 H3 a3 hw => ⟨i, j, c, n, by rw [hv.int_inv, hu.int_inv, hw.int_inv], hb, q _ G3 H3 ((a.trans a2).trans a3) walks_c⟩
end DL

namespace DL
open PySem L2
variable {K : PySem.W.Frag} {E : XK} {env env' e1 e2 : EnvD}

/-! ### statements -/
inductive RD
  | nx (env : EnvD)
  | rt (d : D)
  | rn (ds : List D)
  | ex (cls : Value)
  | bk (env : EnvD)
  | ct (env : EnvD)
def Post (K : PySem.W.Frag) (E : XK) (G0 H0 : Hp) (D : Ends) : RD → Prop
  | .nx e => ∀ G H σ, Ok K G0 H0 G H σ e → D.nx σ H
  | .bk e => ∀ G H σ, Ok K G0 H0 G H σ e → D.bk σ H
  | .ct e => ∀ G H σ, Ok K G0 H0 G H σ e → D.ct σ H
  | .rt d => ∀ v G H, Fw G0 H0 G H → Dd K G v d → D.rt v H
  | .rn ds => ∀ p xs G H, Fw G0 H0 G H → H0 p = none → G p = none → H p = some (.lst xs) → Dds K G xs ds → D.rt (.ref p) H
  | .ex c => ∀ G H, Fw G0 H0 G H → E c none H
def Run (K : PySem.W.Frag) (E : XK) (ts : TS) (env : EnvD) (r : RD) : Prop := ∀ (G0 H0 G H : Hp) (σ : L2.St) (D : Ends), Ok K G0 H0 G H σ env → Post K E G0 H0 D r → ts D σ H
section
variable {t u : TS} {te : TE} {r : RD} {tc : TT}
theorem run_seq (h : Run K E t env (.nx e1)) (h' : Run K E u e1 r) : Run K E (tSeq t u) env r := fun G0 H0 G H σ D ok q => h G0 H0 G H σ _ ok fun G1 H1 σ1 ok1 => h' G0 H0 G1 H1 σ1 D ok1 q
theorem run_seqX (h : Run K E t env r) (hr : ∀ e, r ≠ .nx e) : Run K E (tSeq t u) env r := fun G0 H0 G H σ D ok q => h G0 H0 G H σ _ ok (by
  cases r with
  | nx e => exact absurd rfl (hr e)
  | rt d => exact q
  | rn d => exact q
  | ex d => exact q
  | bk d => exact q
  | ct d => exact q)
theorem run_seqR {d : D} (h : Run K E t env (.rt d)) : Run K E (tSeq t u) env (.rt d) := run_seqX h fun _ z => nomatch z
theorem run_seqN {d : List D} (h : Run K E t env (.rn d)) : Run K E (tSeq t u) env (.rn d) := run_seqX h fun _ z => nomatch z
theorem run_seqE {c : Value} (h : Run K E t env (.ex c)) : Run K E (tSeq t u) env (.ex c) := run_seqX h fun _ z => nomatch z
theorem run_next : Run K E tNext env (.nx env) := fun G0 H0 G H σ D ok q => q G H σ ok
theorem run_break : Run K E tBreak env (.bk env) := fun G0 H0 G H σ D ok q => q G H σ ok
theorem run_cont : Run K E tCont env (.ct env) := fun G0 H0 G H σ D ok q => q G H σ ok
theorem run_set {i : Nat} {d : D} (h : EvD K te env d) : Run K E (tAsg te (gName i)) env (.nx (env.set i (.dat d))) := fun G0 H0 G H σ D ok q =>
  h G0 H0 G H σ ok _ fun v G1 H1 a hv => q G1 H1 _ ((ok.go a).set i rfl ⟨v, rfl, hv⟩)
theorem free0 {G H G' H' : Hp} {p : Addr} (a : Fw G H G' H') (h : H' p = none) : H p = none := a.hh.free h
theorem run_setN {i : Nat} {ds : List D} (h : EvN K te env ds) : Run K E (tAsg te (gName i)) env (.nx (env.set i (.ml ds))) := fun G0 H0 G H σ D ok q =>
  h G0 H0 G H σ ok _ fun p xs G1 H1 a hp g1 h1 hd => q G1 H1 _ ((ok.go a).setMut i ⟨p, xs, rfl, g1, h1, hd⟩ (free0 ok.fw hp) fun j t l hj hm hs e => (ok.mutAt hj hm hs).2 (by rw [e]; exact hp))
theorem run_asg {g : TG} {ts : List Nat} {d : D} (h : EvD K te env d) (hg : EvG K g ts env d e1) : Run K E (tAsg te g) env (.nx e1) := fun G0 H0 G H σ D ok q =>
  h G0 H0 G H σ ok _ fun v G1 H1 a hv => hg G0 H0 G1 H1 σ v _ (ok.go a) hv fun σ' _ ok' => q G1 H1 σ' ok'
theorem run_ret {d : D} (h : EvD K te env d) : Run K E (tRet te) env (.rt d) := fun G0 H0 G H σ D ok q =>
  h G0 H0 G H σ ok _ fun v G1 H1 a hv => q v G1 H1 (ok.fw.trans a) hv
theorem run_retN {ds : List D} (h : EvN K te env ds) : Run K E (tRet te) env (.rn ds) := fun G0 H0 G H σ D ok q =>
  h G0 H0 G H σ ok _ fun p xs G1 H1 a hp g1 h1 hd => q p xs G1 H1 (ok.fw.trans a) (free0 ok.fw hp) g1 h1 hd
/-- a hidden list is handed back -/
theorem run_retM (i : Nat) {ds : List D} (h : env[i]? = some (.ml ds) := by rfl) : Run K E (tRet (tVar i)) env (.rn ds) := fun G0 H0 G H σ D ok q => by
  obtain ⟨o, h1, l, xs, e, g, hl, hd⟩ := ok.sl i _ h
  subst e
  exact ⟨_, h1, q l xs G H ok.fw (ok.fresh i _ l h rfl h1) g hl hd⟩
theorem run_retNone : Run K E tRetN env (.rt .none) := fun G0 H0 G H σ D ok q => q _ G H ok.fw .non
theorem run_if {b : Bool} (h : EvT K tc env b) (h1 : b = true → Run K E t env r) (h2 : b = false → Run K E u env r) : Run K E (tIfS tc t u) env r := fun G0 H0 G H σ D ok q => h G0 H0 G H σ ok _ fun G1 H1 a => by
  cases b with
  | true => exact iteT (h1 rfl G0 H0 G1 H1 σ D (ok.go a) q)
  | false => exact iteF (h2 rfl G0 H0 G1 H1 σ D (ok.go a) q)
theorem run_drop {s : SD} (h : EvV K te env s) : Run K E (tDrop te) env (.nx env) := fun G0 H0 G H σ D ok q => h G0 H0 G H σ ok _ fun v G1 H1 a _ => q G1 H1 σ (ok.go a)
theorem run_is {r' : RD} (h : Run K E t env r) (e : r = r') : Run K E t env r' := e ▸ h
/-- a hidden list is published ahead of a statement -/
theorem run_pub (i : Nat) {ds : List D} (hi : env[i]? = some (.ml ds)) (h : Run K E t (env.set i (.dat (.list ds))) r) : Run K E t env r := fun G0 H0 G H σ D ok q => by
  obtain ⟨G', ok'⟩ := ok.publish hi
  exact h G0 H0 G' H σ D ok' q
/-- xs.append(e) -/
theorem run_append {i : Nat} {ds : List D} {d : D} (hi : env[i]? = some (.ml ds)) (h : EvD K te env d) (hl : ds.length < 10000000) : Run K E (tDrop (tBM K "list" rAppend (tVar i) (tCons te tNil))) env (.nx (env.set i (.ml (ds ++ [d])))) := fun G0 H0 G H σ D ok q => by
  obtain ⟨o, h1, l, xs, e, g, hl0, hd⟩ := ok.sl i _ hi
  subst e
  refine ⟨_, h1, .inl ⟨rfl, xs, SqL.of hl0⟩, h G0 H0 G H σ ok _ fun v G1 H1 a hv => ⟨l, xs, v, rfl, rfl, a.hh _ _ hl0, ?_, ?_⟩⟩
  · rw [hd.len, sizeLine_eq]; omega
  · have g1 : G1 l = none := a.fr l (by rw [hl0]; simp) g
    exact q G1 _ σ ((ok.go a).write hi rfl h1 ⟨l, _, rfl, g1, upd_same, (hd.mono a.gg).append (.cons hv .nil)⟩ rfl)
end

/-! ### less said of the slots -/
inductive Less : EnvD → EnvD → Prop
  | nil : Less [] []
  | un {s : SD} {a b : EnvD} : Less a b → Less (s :: a) (.un :: b)
  | eq {s : SD} {a b : EnvD} : Less a b → Less (s :: a) (s :: b)
theorem Less.refl : ∀ e : EnvD, Less e e
  | [] => .nil
  | _ :: e => .eq (Less.refl e)
theorem Less.get : ∀ {a b : EnvD}, Less a b → ∀ (i : Nat) (s : SD), b[i]? = some s → s = .un ∧ i < a.length ∨ a[i]? = some s
  | _, _, .nil, i, s, h => by simp at h
  | _, _, .un l, 0, s, h => by simp at h; exact .inl ⟨h.symm, by simp⟩
  | _, _, .un l, i + 1, s, h => by
    rcases l.get i s (by simpa using h) with ⟨e, hi⟩ | e
    · exact .inl ⟨e, by simpa using hi⟩
    · exact .inr (by simpa using e)
  | _, _, .eq l, 0, s, h => by simp at h; exact .inr (by simp [h])
  | _, _, .eq l, i + 1, s, h => by
    rcases l.get i s (by simpa using h) with ⟨e, hi⟩ | e
    · exact .inl ⟨e, by simpa using hi⟩
    · exact .inr (by simpa using e)
theorem Less.len : ∀ {a b : EnvD}, Less a b → a.length = b.length
  | _, _, .nil => rfl
  | _, _, .un l => congrArg (· + 1) l.len
  | _, _, .eq l => congrArg (· + 1) l.len
theorem Ok.less {G0 H0 G H : Hp} {σ : L2.St} (ok : Ok K G0 H0 G H σ env) (l : Less env env') : Ok K G0 H0 G H σ env' := by
  have key : ∀ (i : Nat) (s : SD), env'[i]? = some s → s.isMut = true → env[i]? = some s := fun i s hi hm => by
    rcases l.get i s hi with ⟨e, _⟩ | e
    · rw [e] at hm; cases hm
    · exact e
  refine ⟨ok.gh, ok.fw, ok.len.trans l.len, fun i s hi => ?_, fun i s a hi hm hs => ok.fresh i s a (key i s hi hm) hm hs, fun i j s t a b hij hi hj hs ht h1 h2 => ok.apart i j s t a b hij (key i s hi hs) (key j t hj ht) hs ht h1 h2⟩
  rcases l.get i s hi with ⟨e, hl⟩ | e
  · subst e
    have : i < σ.length := by rw [ok.len]; exact hl
    exact ⟨σ[i], List.getElem?_eq_getElem this, trivial⟩
  · exact ok.sl i s e
theorem run_less {t : TS} (h : Run K E t env (.nx e1)) (l : Less e1 e2) : Run K E t env (.nx e2) := fun G0 H0 G H σ D ok q => h G0 H0 G H σ D ok fun G1 H1 σ1 ok1 => q G1 H1 σ1 (ok1.less l)
theorem run_more {t : TS} {r : RD} (l : Less env e1) (h : Run K E t e1 r) : Run K E t env r := fun G0 H0 G H σ D ok q => h G0 H0 G H σ D (ok.less l) q

/-! ### for -/
theorem Fw.base {G0 H0 G1 H1 G H : Hp} (a : Fw G0 H0 G1 H1) (b : Fw G1 H0 G H) : Fw G0 H0 G H := ⟨a.gg.trans b.gg, b.gh, b.hh, fun l hl gl => b.fr l hl (a.fr l hl gl)⟩
theorem Ok.rebase {G0 H0 G H : Hp} {σ : L2.St} (ok : Ok K G0 H0 G H σ env) : Ok K G H0 G H σ env := ⟨ok.gh, ⟨Same.refl _, ok.gh, ok.fw.hh, fun _ _ h => h⟩, ok.len, ok.sl, ok.fresh, ok.apart⟩
theorem Ok.unbase {G0 H0 G1 H1 G H : Hp} {σ : L2.St} (a : Fw G0 H0 G1 H1) (ok : Ok K G1 H0 G H σ env) : Ok K G0 H0 G H σ env := ⟨ok.gh, a.base ok.fw, ok.len, ok.sl, ok.fresh, ok.apart⟩
theorem Post.base {G0 H0 G1 H1 : Hp} {D : Ends} {r : RD} (a : Fw G0 H0 G1 H1) (q : Post K E G0 H0 D r) : Post K E G1 H0 D r := by
  cases r with
  | nx e => exact fun G H σ ok => q G H σ (ok.unbase a)
  | bk e => exact fun G H σ ok => q G H σ (ok.unbase a)
  | ct e => exact fun G H σ ok => q G H σ (ok.unbase a)
  | rt d => exact fun v G H f hv => q v G H (a.base f) hv
  | rn ds => exact fun p xs G H f => q p xs G H (a.base f)
  | ex c => exact fun G H f => q G H (a.base f)
/-- what a turn leaves: the next turn's slots -/
def Turn1 (K : PySem.W.Frag) (E : XK) (tb : TS) (env e' : EnvD) : Prop := Run K E tb env (.nx e') ∨ Run K E tb env (.ct e')
theorem Turn1.n {tb : TS} (h : Run K E tb env (.nx e1)) (l : Less e1 e2) : Turn1 K E tb env e2 := .inl (run_less h l)
/-- n turns go on, then the loop ends (n is all), or the turn n leaves it -/
theorem run_forX {wi : TI} {g : TG} {tb : TS} {ts : List Nat} {ds : List D} {r : RD} (Es : Nat → EnvD) (n : Nat) (hi : EvI K wi env ds) (h0 : Less env (Es 0))
    (ht : ∀ (i : Nat) (d : D), i < n → ds[i]? = some d → ∃ em, EvG K g ts (Es i) d em ∧ Turn1 K E tb em (Es (i + 1)))
    (he : (n = ds.length ∧ r = .nx (Es n)) ∨ (∃ d em, ds[n]? = some d ∧ EvG K g ts (Es n) d em ∧ ((Run K E tb em r ∧ (∀ e, r ≠ .nx e) ∧ (∀ e, r ≠ .ct e) ∧ (∀ e, r ≠ .bk e)) ∨ ∃ e, r = .nx e ∧ Run K E tb em (.bk e)))) :
    Run K E (tFor wi g tb) env r := fun G0 H0 G H σ D ok q =>
  hi G0 H0 G H σ ok _ fun J G1 H1 a wk => by
    have hn : n ≤ ds.length := by
      rcases he with ⟨e, _⟩ | ⟨d, em, h, _⟩
      · omega
      · have := (List.getElem?_eq_some_iff.mp h).1; omega
    refine ⟨fun i m σ2 H2 => i + m = n ∧ ∃ G2, Same G1 G2 ∧ Ok K G0 H0 G2 H2 σ2 (Es i), ⟨n, Nat.zero_add _, G1, Same.refl _, (ok.go a).less h0⟩, ?_⟩
    rintro i m σ2 H2 ⟨him, G2, g2, ok2⟩
    by_cases hlt : i < n
    · have hd := List.getElem?_eq_getElem (show i < ds.length by omega)
      obtain ⟨hgo, hy⟩ := wk.go i _ G2 H2 hd g2 ok2.gh
      refine .inr ⟨hgo, fun σ' H' => ∃ G3, Same G1 G3 ∧ Ok K G0 H0 G3 H' σ' (Es (i + 1)), fun σ' H' hN => ⟨m - 1, by omega, by omega, hN⟩, fun x H3 hx => ?_⟩
      obtain ⟨G3, a3, hx3⟩ := hy x H3 hx
      obtain ⟨em, hg, htb⟩ := ht i _ hlt hd
      refine hg G0 H0 G3 H3 σ2 x _ (ok2.go a3) hx3 fun σ3 _ ok3 => ?_
      have g13 : Same G1 G3 := g2.trans a3.gg
      rcases htb with htb | htb
      · exact htb G3 H0 G3 H3 σ3 _ ok3.rebase fun G4 H4 σ4 ok4 => ⟨G4, g13.trans ok4.fw.gg, ok4.unbase ok3.fw⟩
      · exact htb G3 H0 G3 H3 σ3 _ ok3.rebase fun G4 H4 σ4 ok4 => ⟨G4, g13.trans ok4.fw.gg, ok4.unbase ok3.fw⟩
    · have e : i = n := by omega
      subst e
      rcases he with ⟨e, er⟩ | ⟨d, em, hd, hg, hr⟩
      · subst e
        subst er
        exact .inl ⟨wk.stop G2 H2 g2 ok2.gh, q G2 H2 σ2 ok2⟩
      · obtain ⟨hgo, hy⟩ := wk.go i d G2 H2 hd g2 ok2.gh
        refine .inr ⟨hgo, fun _ _ => False, fun _ _ z => z.elim, fun x H3 hx => ?_⟩
        obtain ⟨G3, a3, hx3⟩ := hy x H3 hx
        refine hg G0 H0 G3 H3 σ2 x _ (ok2.go a3) hx3 fun σ3 _ ok3 => ?_
        rcases hr with ⟨hr, r1, r2, r3⟩ | ⟨e, er, hr⟩
        · refine hr G0 H0 G3 H3 σ3 _ ok3 ?_
          cases r with
          | nx e => exact absurd rfl (r1 e)
          | ct e => exact absurd rfl (r2 e)
          | bk e => exact absurd rfl (r3 e)
          | rt d => exact q
          | rn d => exact q
          | ex d => exact q
        · subst er
          exact hr G0 H0 G3 H3 σ3 _ ok3 q
theorem run_for {wi : TI} {g : TG} {tb : TS} {ts : List Nat} {ds : List D} (Es : Nat → EnvD) (hi : EvI K wi env ds) (h0 : Less env (Es 0))
    (ht : ∀ (i : Nat) (d : D), i < ds.length → ds[i]? = some d → ∃ em, EvG K g ts (Es i) d em ∧ Turn1 K E tb em (Es (i + 1))) : Run K E (tFor wi g tb) env (.nx (Es ds.length)) :=
  run_forX Es ds.length hi h0 ht (.inl ⟨rfl, rfl⟩)
/-- the turn n hands back d -/
theorem run_forR {wi : TI} {g : TG} {tb : TS} {ts : List Nat} {ds : List D} {z : D} (Es : Nat → EnvD) (n : Nat) (hi : EvI K wi env ds) (h0 : Less env (Es 0))
    (ht : ∀ (i : Nat) (d : D), i < n → ds[i]? = some d → ∃ em, EvG K g ts (Es i) d em ∧ Turn1 K E tb em (Es (i + 1)))
    {d : D} {em : EnvD} (hd : ds[n]? = some d) (hg : EvG K g ts (Es n) d em) (hr : Run K E tb em (.rt z)) : Run K E (tFor wi g tb) env (.rt z) :=
  run_forX Es n hi h0 ht (.inr ⟨d, em, hd, hg, .inl ⟨hr, (by intro _ z; cases z), (by intro _ z; cases z), (by intro _ z; cases z)⟩⟩)

/-! ### comprehensions -/
def wipeD (env : EnvD) : List Nat → EnvD
  | [] => env
  | v :: vs => (wipeD env vs).set v .un
theorem Ok.unset {G0 H0 G H : Hp} {σ : L2.St} (ok : Ok K G0 H0 G H σ env) (i : Nat) : Ok K G0 H0 G H (σ.set i none) (env.set i .un) := by
  have key : ∀ (j : Nat) (t : SD) (o : Option V), (env.set i .un)[j]? = some t → t.isMut = true → (σ.set i none)[j]? = some o → env[j]? = some t ∧ σ[j]? = some o := fun j t o ht hm hj => by
    rcases get_set ht with ⟨e, _, e2⟩ | ⟨e, h2⟩
    · rw [e2] at hm; cases hm
    · rw [List.getElem?_set_ne e] at hj
      exact ⟨h2, hj⟩
  refine ⟨ok.gh, ok.fw, by rw [List.length_set, List.length_set]; exact ok.len, fun j t ht => ?_, fun j t l ht hm hj => ?_, fun j k t u l m hjk ht hu hmt hmu hj hk => ?_⟩
  · rcases get_set ht with ⟨e, hj, e2⟩ | ⟨e, h2⟩
    · subst e2
      refine ⟨none, ?_, trivial⟩
      rw [← e, List.getElem?_set_self (by rw [ok.len]; omega)]
    · obtain ⟨o, h3, h4⟩ := ok.sl j t h2
      exact ⟨o, by rw [List.getElem?_set_ne e]; exact h3, h4⟩
  · obtain ⟨a, b⟩ := key j t _ ht hm hj
    exact ok.fresh j t l a hm b
  · obtain ⟨a, b⟩ := key j t _ ht hmt hj
    obtain ⟨c, d⟩ := key k u _ hu hmu hk
    exact ok.apart j k t u l m hjk a c hmt hmu b d
theorem Ok.wipe {G0 H0 G H : Hp} {σ : L2.St} (ok : Ok K G0 H0 G H σ env) : ∀ vs : List Nat, Ok K G0 H0 G H (L2.wipe σ vs) (wipeD env vs)
  | [] => ok
  | v :: vs => (Ok.wipe ok vs).unset v
theorem wipe_get (σ : L2.St) : ∀ (vs : List Nat) (i : Nat), (L2.wipe σ vs)[i]? = if i ∈ vs then (if i < σ.length then some none else none) else σ[i]?
  | [], i => by simp [L2.wipe]
  | v :: vs, i => by
    show ((L2.wipe σ vs).set v none)[i]? = _
    by_cases e : v = i
    · subst e
      rw [if_pos (by simp)]
      by_cases hl : v < σ.length
      · rw [if_pos hl, List.getElem?_set_self (by rw [wipe_length]; exact hl)]
      · rw [if_neg hl, List.getElem?_eq_none (by rw [List.length_set, wipe_length]; omega)]
    · rw [List.getElem?_set_ne e, wipe_get σ vs i]
      have : (i ∈ v :: vs) ↔ (i ∈ vs) := by
        simp only [List.mem_cons]
        exact ⟨fun h => h.resolve_left (fun z => e z.symm), .inr⟩
      by_cases hm : i ∈ vs
      · rw [if_pos hm, if_pos (this.mpr hm)]
      · rw [if_neg hm, if_neg (fun z => hm (this.mp z))]
theorem wipe_sets {σ σ2 : L2.St} {vs ts : List Nat} (h : Sets ts (L2.wipe σ vs) σ2) (hs : ∀ i ∈ ts, i ∈ vs) : L2.wipe σ2 vs = L2.wipe σ vs := by
  have hl : σ2.length = σ.length := by rw [h.1, wipe_length]
  refine List.ext_getElem? fun i => ?_
  rw [wipe_get, wipe_get, hl]
  by_cases hm : i ∈ vs
  · rw [if_pos hm, if_pos hm]
  · rw [if_neg hm, if_neg hm, h.2 i (fun z => hm (hs i z)), wipe_get, if_neg hm]
/-- which items a comprehension keeps -/
inductive Lc (K : PySem.W.Frag) (g : TG) (ts : List Nat) (tt : TT) (te : TE) (env : EnvD) : List D → List D → Prop
  | nil : Lc K g ts tt te env [] []
  | keep {d z : D} {ds zs : List D} {em : EnvD} : EvG K g ts env d em → EvT K tt em true → EvD K te em z → Lc K g ts tt te env ds zs → Lc K g ts tt te env (d :: ds) (z :: zs)
  | skip {d : D} {ds zs : List D} {em : EnvD} : EvG K g ts env d em → EvT K tt em false → Lc K g ts tt te env ds zs → Lc K g ts tt te env (d :: ds) zs
theorem et_yes : EvT K tYes env true := fun _ _ G H σ ok Q q => q G H (Fw.refl ok.gh)
theorem Lc.le {g : TG} {ts : List Nat} {tt : TT} {te : TE} : ∀ {ds zs : List D}, Lc K g ts tt te env ds zs → zs.length ≤ ds.length
  | _, _, .nil => Nat.le_refl _
  | _, _, .keep _ _ _ l => Nat.succ_le_succ l.le
  | _, _, .skip _ _ l => Nat.le_succ_of_le l.le
/-- the turn i: what is left of ds from i on, what is left of zs from j on -/
theorem Lc.at {g : TG} {ts : List Nat} {tt : TT} {te : TE} : ∀ {ds zs : List D}, Lc K g ts tt te env ds zs → ∀ (i : Nat), i ≤ ds.length → ∃ j, j ≤ zs.length ∧ j ≤ i ∧ (i = ds.length → j = zs.length) ∧ Lc K g ts tt te env (ds.drop i) (zs.drop j) ∧ Lc K g ts tt te env (ds.take i) (zs.take j)
  | _, _, .nil, i, hi => ⟨0, Nat.le_refl _, Nat.zero_le _, fun _ => rfl, by simpa using Lc.nil, by simpa using Lc.nil⟩
  | d :: ds, z :: zs, .keep a b c l, 0, hi => ⟨0, Nat.zero_le _, Nat.le_refl _, fun e => by simp at e, .keep a b c l, .nil⟩
  | d :: ds, z :: zs, .keep a b c l, i + 1, hi => by
    obtain ⟨j, h1, h2, h3, h4, h5⟩ := l.at i (by simpa using hi)
    exact ⟨j + 1, by simpa using h1, by omega, fun e => by have := h3 (by simpa using e); simp [this], by simpa using h4, by simpa using Lc.keep a b c h5⟩
  | d :: ds, zs, .skip a b l, 0, hi => ⟨0, Nat.zero_le _, Nat.le_refl _, fun e => by simp at e, .skip a b l, by simpa using Lc.nil⟩
  | d :: ds, zs, .skip a b l, i + 1, hi => by
    obtain ⟨j, h1, h2, h3, h4, h5⟩ := l.at i (by simpa using hi)
    exact ⟨j, h1, by omega, fun e => h3 (by simpa using e), by simpa using h4, by simpa using Lc.skip a b h5⟩
theorem en_lc {wi : TI} {g : TG} {tt : TT} {te : TE} {vs ts : List Nat} {ds zs : List D} (hi : EvI K wi env ds) (hts : ∀ i ∈ ts, i ∈ vs) (hl : Lc K g ts tt te (wipeD env vs) ds zs) (hlen : ds.length ≤ 10000000) : EvN K (tLc wi g tt te vs) env zs := fun G0 H0 G H σ ok Q q =>
  hi G0 H0 G H σ ok _ fun J G1 H1 a wk Dl hD => by
    have hz := hl.le
    have fr1 : Fw G H G1 (upd H1 Dl (.lst [])) := a.trans (Fw.hid a.gh hD)
    have hDH : H Dl = none := a.hh.free hD
    -- turn i: j items so far
    refine ⟨fun i m H2 => i + m = ds.length ∧ ∃ (G2 : Hp) (j : Nat) (acc : List V), Same G1 G2 ∧ Fw G H G2 H2 ∧ G2 Dl = none ∧ H2 Dl = some (.lst acc) ∧ Dds K G2 acc (zs.take j) ∧ j ≤ i ∧ j ≤ zs.length ∧ (i = ds.length → j = zs.length) ∧ Lc K g ts tt te (wipeD env vs) (ds.drop i) (zs.drop j),
      ⟨ds.length, Nat.zero_add _, G1, 0, [], Same.refl _, fr1, a.gh.free hD, upd_same, .nil, Nat.le_refl _, Nat.zero_le _, fun e => by have := hz; omega, hl⟩, ?_⟩
    rintro i m H2 ⟨him, G2, j, acc, g12, f2, gD, hDl, hacc, hji, hjz, hend, hlc⟩
    by_cases hlt : i < ds.length
    · have hd := List.getElem?_eq_getElem hlt
      obtain ⟨hgo, hy⟩ := wk.go i _ G2 H2 hd g12 f2.gh
      refine .inr ⟨hgo, fun H' => ∃ (G3 : Hp) (j' : Nat) (acc' : List V), Same G1 G3 ∧ Fw G H G3 H' ∧ G3 Dl = none ∧ H' Dl = some (.lst acc') ∧ Dds K G3 acc' (zs.take j') ∧ j' ≤ i + 1 ∧ j' ≤ zs.length ∧ (i + 1 = ds.length → j' = zs.length) ∧ Lc K g ts tt te (wipeD env vs) (ds.drop (i + 1)) (zs.drop j'), fun H' hN => ⟨m - 1, by omega, by omega, hN⟩, fun x H3 hx => ?_⟩
      obtain ⟨G3, a3, hx3⟩ := hy x H3 hx
      have ok3 : Ok K G0 H0 G3 H3 (L2.wipe σ vs) (wipeD env vs) := ((ok.go f2).go a3).wipe vs
      have e1 : ds.drop i = ds[i] :: ds.drop (i + 1) := List.drop_eq_getElem_cons hlt
      rw [e1] at hlc
      have hDne : H2 Dl ≠ none := by rw [hDl]; simp
      generalize hr1 : ds.drop (i + 1) = r1 at hlc ⊢
      generalize hr2 : zs.drop j = r2 at hlc
      have endLen : i + 1 = ds.length → r1 = [] := fun e => by rw [← hr1, e]; simp
      cases hlc with
      | keep hg ht he hl' =>
        refine hg G0 H0 G3 H3 _ x _ ok3 hx3 fun σ4 s4 ok4 => ⟨wipe_sets s4 hts, ht G0 H0 G3 H3 σ4 ok4 _ fun G5 H5 a5 => iteT (he G0 H0 G5 H5 σ4 (ok4.go a5) _ fun y G6 H6 a6 hy6 => ?_)⟩
        rename_i z zs'
        have hjz' : j < zs.length := by
          by_cases hh : j < zs.length
          · exact hh
          · rw [List.drop_eq_nil_of_le (by omega)] at hr2; cases hr2
        have ez : zs.drop j = zs[j] :: zs.drop (j + 1) := List.drop_eq_getElem_cons hjz'
        rw [ez] at hr2
        injection hr2 with hr2a hr2b
        have a36 : Fw G2 H2 G6 H6 := (a3.trans a5).trans a6
        have g6 : G6 Dl = none := a36.fr Dl hDne gD
        refine ⟨acc, a36.hh _ _ hDl, ?_, G6, j + 1, acc ++ [y], g12.trans a36.gg, ?_, g6, upd_same, ?_, by omega, by omega, fun e => ?_, ?_⟩
        · rw [hacc.len, List.length_take, sizeLine_eq]; omega
        · exact ⟨(f2.trans a36).gg, same_upd2 a36.gh g6, fun b o e => by rw [upd_ne (ne_of_none e hDH)]; exact (f2.trans a36).hh _ _ e, (f2.trans a36).fr⟩
        · rw [List.take_add_one, List.getElem?_eq_getElem hjz']
          refine (hacc.mono a36.gg).append ?_
          rw [hr2a]
          exact .cons hy6 .nil
        · have hl2 := hl'.le
          rw [endLen e] at hl2
          rw [← hr2b, List.length_drop] at hl2
          simp at hl2
          omega
        · rw [hr2b]; exact hl'
      | skip hg ht hl' =>
        refine hg G0 H0 G3 H3 _ x _ ok3 hx3 fun σ4 s4 ok4 => ⟨wipe_sets s4 hts, ht G0 H0 G3 H3 σ4 ok4 _ fun G5 H5 a5 => iteF ?_⟩
        have a36 : Fw G2 H2 G5 H5 := a3.trans a5
        refine ⟨G5, j, acc, g12.trans a36.gg, f2.trans a36, a36.fr Dl hDne gD, a36.hh _ _ hDl, hacc.mono a36.gg, by omega, hjz, fun e => ?_, ?_⟩
        · have hl2 := hl'.le
          rw [endLen e, ← hr2, List.length_drop] at hl2
          simp at hl2
          omega
        · rw [hr2]; exact hl'
    · have e : i = ds.length := by omega
      subst e
      have ej := hend rfl
      subst ej
      rw [List.take_length] at hacc
      exact .inl ⟨wk.stop G2 H2 g12 f2.gh, q Dl acc G2 H2 f2 hDH gD hDl hacc⟩
end DL

namespace DL
open PySem L2
variable {K : PySem.W.Frag} {E : XK} {env env' e1 e2 : EnvD}

/-! ### defs -/
theorem args_get {G H : Hp} : ∀ {vs : List V} {ss : List SD}, Args K G H vs ss → ∀ (i : Nat) (s : SD), ss[i]? = some s → s.isMut = false ∧ ∃ v, vs[i]? = some v ∧ SlOk K G H (some v) s
  | _, _, .nil, i, s, h => by simp at h
  | _, _, .cons m a r, 0, s, h => by simp at h; subst h; exact ⟨m, _, rfl, a⟩
  | _, _, .cons m a r, i + 1, s, h => by
    obtain ⟨m', v, h1, h2⟩ := args_get r i s (by simpa using h)
    exact ⟨m', v, by simpa using h1, h2⟩
/-- the slots at the entry -/
def envOf (N : List Str) (ss : List SD) : EnvD := ss ++ List.replicate (N.length - ss.length) .un
theorem ok_start {G H : Hp} {N : List Str} {vs : List V} {ss : List SD} (gh : Same G H) (h : Args K G H vs ss) : Ok K G H G H (L2.start N vs) (envOf N ss) := by
  have hl := h.len
  have mutNo : ∀ (i : Nat) (s : SD), (envOf N ss)[i]? = some s → s.isMut = true → False := fun i s hi hm => by
    unfold envOf at hi
    by_cases hlt : i < ss.length
    · rw [List.getElem?_append_left hlt] at hi
      have := (args_get h i s hi).1
      rw [this] at hm; cases hm
    · rw [List.getElem?_append_right (by omega), List.getElem?_replicate] at hi
      split at hi
      · cases hi; cases hm
      · cases hi
  refine ⟨gh, Fw.refl gh, ?_, fun i s hi => ?_, fun i s l hi hm _ => (mutNo i s hi hm).elim, fun i j s t l m _ hi _ hm _ _ _ => (mutNo i s hi hm).elim⟩
  · unfold L2.start envOf
    simp only [List.length_append, List.length_map, List.length_replicate]
    omega
  · unfold envOf at hi
    unfold L2.start
    by_cases hlt : i < ss.length
    · rw [List.getElem?_append_left hlt] at hi
      obtain ⟨_, v, h1, h2⟩ := args_get h i s hi
      refine ⟨some v, ?_, h2⟩
      rw [List.getElem?_append_left (by rw [List.length_map]; omega), List.getElem?_map, h1]
      rfl
    · rw [List.getElem?_append_right (by omega), List.getElem?_replicate] at hi
      split at hi
      · cases hi
        refine ⟨none, ?_, trivial⟩
        rw [List.getElem?_append_right (by rw [List.length_map]; omega), List.getElem?_replicate, List.length_map, if_pos (by omega)]
      · cases hi
section
variable {P : Program} {w : World} {mg : Str → Option Value} {base : Heap} {x qual : Str} {st : Stmt} {f : Addr} {fd : FuncData} {N ps : List Str} {k : Nat} {α : Type} {fs : α → List SD} {pre : α → Prop} {fv : α → D} {fl : α → List D} {fo : α → Option D} {C : Value}
abbrev cx0 (P : Program) (w : World) (K : PySem.W.Frag) (mg : Str → Option Value) (base : Heap) (N : List Str) (qual : Str) (st : Stmt) (f : Addr) (cdv : Value) (A : Around) (outer : List Env) (s : Shared) (H : Hp) (E : XK) : Cx := (cxOf CX0 P w K mg base N qual (defScope st) f cdv A outer s H E).nox
abbrev cxX (P : Program) (w : World) (K : PySem.W.Frag) (mg : Str → Option Value) (base : Heap) (N : List Str) (qual : Str) (st : Stmt) (f : Addr) (cdv : Value) (A : Around) (outer : List Env) (s : Shared) (H : Hp) (E : XK) : Cx := cxOf (L2.CX P w) P w K mg base N qual (defScope st) f cdv A outer s H E
/-- a def that hands back data -/
theorem fn_D (F : Fun K x qual st f fd) (S : FnScope N ps (defScope st)) (hn : ∀ a, (fs a).length = ps.length)
    (body : ∀ (cdv : Value) (A : Around) (outer : List Env) (s : Shared) (H : Hp) (E : XK), Room k (A.deeper (PyProof.Rows.envOfC qual (defScope st) s.heap.objs.size f cdv)) →
      ∃ t, PSs (cx0 P w K mg base N qual st f cdv A outer s H E) (defBody st) t ∧ ∀ a, pre a → Run K E t (envOf N (fs a)) (.rt (fv a))) : FnOk P w K mg base CX0 (k + 1) f fd ps (SpD K fs pre fv) := by
  refine F.ok S (fun vs H Q E h => ?_) (fun cdv A outer s H vs Q E hr h => ?_)
  · obtain ⟨a, G, gh, ha, _⟩ := h
    rw [ha.len, hn a]
  · obtain ⟨a, G, gh, ha, hp, q⟩ := h
    obtain ⟨t, h1, h2⟩ := body cdv A outer s H E hr
    exact ⟨t, h1, h2 a hp G H G H _ _ (ok_start gh ha) fun v G' H' fw hv => q v G' H' fw hv⟩
/-- a def that runs to its end: None -/
theorem fn_0 (F : Fun K x qual st f fd) (S : FnScope N ps (defScope st)) (hn : ∀ a, (fs a).length = ps.length)
    (body : ∀ (cdv : Value) (A : Around) (outer : List Env) (s : Shared) (H : Hp) (E : XK), Room k (A.deeper (PyProof.Rows.envOfC qual (defScope st) s.heap.objs.size f cdv)) →
      ∃ t, PSs (cx0 P w K mg base N qual st f cdv A outer s H E) (defBody st) t ∧ ∀ a, pre a → ∃ e, Run K E t (envOf N (fs a)) (.nx e)) : FnOk P w K mg base CX0 (k + 1) f fd ps (SpD K fs pre fun _ => .none) := by
  refine F.ok S (fun vs H Q E h => ?_) (fun cdv A outer s H vs Q E hr h => ?_)
  · obtain ⟨a, G, gh, ha, _⟩ := h
    rw [ha.len, hn a]
  · obtain ⟨a, G, gh, ha, hp, q⟩ := h
    obtain ⟨t, h1, h2⟩ := body cdv A outer s H E hr
    obtain ⟨e, h3⟩ := h2 a hp
    exact ⟨t, h1, h3 G H G H _ _ (ok_start gh ha) fun G' H' σ' ok' => q _ G' H' ok'.fw .non⟩
/-- a def that hands back a new list -/
theorem fn_N (F : Fun K x qual st f fd) (S : FnScope N ps (defScope st)) (hn : ∀ a, (fs a).length = ps.length)
    (body : ∀ (cdv : Value) (A : Around) (outer : List Env) (s : Shared) (H : Hp) (E : XK), Room k (A.deeper (PyProof.Rows.envOfC qual (defScope st) s.heap.objs.size f cdv)) →
      ∃ t, PSs (cx0 P w K mg base N qual st f cdv A outer s H E) (defBody st) t ∧ ∀ a, pre a → Run K E t (envOf N (fs a)) (.rn (fl a))) : FnOk P w K mg base CX0 (k + 1) f fd ps (SpN K fs pre fl) := by
  refine F.ok S (fun vs H Q E h => ?_) (fun cdv A outer s H vs Q E hr h => ?_)
  · obtain ⟨a, G, gh, ha, _⟩ := h
    rw [ha.len, hn a]
  · obtain ⟨a, G, gh, ha, hp, q⟩ := h
    obtain ⟨t, h1, h2⟩ := body cdv A outer s H E hr
    exact ⟨t, h1, h2 a hp G H G H _ _ (ok_start gh ha) fun p xs G' H' fw h0 g' h' hd => q p xs G' H' fw h0 g' h' hd⟩
/-- a def that hands back data or raises -/
theorem fn_X (F : Fun K x qual st f fd) (S : FnScope N ps (defScope st)) (hn : ∀ a, (fs a).length = ps.length)
    (body : ∀ (cdv : Value) (A : Around) (outer : List Env) (s : Shared) (H : Hp) (E : XK), Room k (A.deeper (PyProof.Rows.envOfC qual (defScope st) s.heap.objs.size f cdv)) →
      ∃ t, PSs (cxX P w K mg base N qual st f cdv A outer s H E) (defBody st) t ∧ ∀ a, pre a → (∀ d, fo a = some d → Run K E t (envOf N (fs a)) (.rt d) ∨ (d = .none ∧ ∃ e, Run K E t (envOf N (fs a)) (.nx e))) ∧ (fo a = none → Run K E t (envOf N (fs a)) (.ex C))) :
    FnOk P w K mg base (L2.CX P w) (k + 1) f fd ps (SpX K fs pre C fo) := by
  refine F.okX S (fun vs H Q E h => ?_) (fun cdv A outer s H vs Q E hr h => ?_)
  · obtain ⟨a, G, gh, ha, _⟩ := h
    rw [ha.len, hn a]
  · obtain ⟨a, G, gh, ha, hp, q1, q2⟩ := h
    obtain ⟨t, h1, h2⟩ := body cdv A outer s H E hr
    refine ⟨t, h1, ?_⟩
    obtain ⟨h3, h4⟩ := h2 a hp
    cases e : fo a with
    | none => exact h4 e G H G H _ _ (ok_start gh ha) fun G' H' fw => q2 e G' H' fw
    | some d =>
      rcases h3 d e with h5 | ⟨ed, en, h5⟩
      · exact h5 G H G H _ _ (ok_start gh ha) fun v G' H' fw hv => q1 d e v G' H' fw hv
      · subst ed
        exact h5 G H G H _ _ (ok_start gh ha) fun G' H' σ' ok' => q1 _ e _ G' H' ok'.fw .non
/-- a def that stands in the module's names -/
def Callee (P : Program) (w : World) (K : PySem.W.Frag) (mg : Str → Option Value) (base : Heap) (CX : CXT) (k : Nat) (x : Str) (ps : List Str) (sp : Sp) : Prop :=
  ∃ f fd, FnOk P w K mg base CX k f fd ps sp ∧ mg x = some (.ref f) ∧ PySem.W.keepIn K (.ref f) = true ∧ Binds K fd ps []
end
section
variable {X : Cx} {CX : CXT} {k : Nat} {ps : List Str} {sp : Sp} {x : Str} {p pos : Pos} {e : Expr} {es : List Expr} {t : TA}
theorem pe_c (C : Callee X.prog X.w X.K X.mg X.base CX k x ps sp) (hr : Room k X.A) (hx : Passes CX X E) (ha : PA X (e :: es) t) (hg : Gl X x := by rfl)
    (hdb : (x == ("__debug__" : Str)) = false := by decide) (he : starEach (e :: es) X.env = (false, eval e X.env) :: starEach es X.env := by rfl) (hpl : (backTo pos (starEach es X.env)).any (·.1) = false := by rfl) :
    PE X (.Call (.Name x p) (e :: es) [] pos) (tCall sp [] E t) := by
  obtain ⟨f, fd, F, m, kp, b⟩ := C
  exact pe_call F hr hg m kp b .nil hx ha hdb he hpl
end
/-- // by any divisor but 0, below 2 ^ 9000 -/
def CDivZ (_ j : Int) : Prop := j ≠ 0 ∧ j.natAbs.log2 < 9000
theorem op_fdivZ {X : Cx} : OpR X (binaryOp .FloorDiv) (rI CDivZ fun i j => .int (i.fdiv j)) := opI fun i j _ _ _ _ _ hc q =>
  PyProof.Rows.floordiv_int hc.1 q (.inl (PyProof.noPylong_of_log2 hc.2))
end DL

namespace DL
open PySem L2
variable {K : PySem.W.Frag} {E : XK} {env env' e1 e2 : EnvD}
/-! ### lists, published or not -/
def EvL (K : PySem.W.Frag) (te : TE) (env : EnvD) (ds : List D) : Prop := ∀ (G0 H0 G H : Hp) (σ : L2.St), Ok K G0 H0 G H σ env → ∀ Q : VK, (∀ p xs G' H', Fw G H G' H' → H' p = some (.lst xs) → Dds K G' xs ds → Q (.ref p) H') → te σ H Q
theorem EvD.l {te : TE} {ds : List D} (h : EvD K te env (.list ds)) : EvL K te env ds := fun G0 H0 G H σ ok Q q => h G0 H0 G H σ ok _ fun v G1 H1 a hv => by
  obtain ⟨p, xs, e, hs, hd⟩ := hv.lst_inv
  subst e
  exact q p xs G1 H1 a (a.gh _ _ hs) hd
theorem EvN.l {te : TE} {ds : List D} (h : EvN K te env ds) : EvL K te env ds := fun G0 H0 G H σ ok Q q => h G0 H0 G H σ ok _ fun p xs G1 H1 a _ _ h1 hd => q p xs G1 H1 a h1 hd
theorem EvL.p {te : TE} {ds : List D} (h : EvL K te env ds) : EvP K te env (.list ds) := fun G0 H0 G H σ ok Q q => h G0 H0 G H σ ok _ fun p xs G1 H1 a h1 hd => q _ G1 H1 a (.lst h1 (hd.mono a.gh))
theorem el_var {ds : List D} (i : Nat) (h : env[i]? = some (.ml ds)) : EvL K (tVar i) env ds := fun G0 H0 G H σ ok Q q => by
  obtain ⟨o, h1, l, xs, e, g, hl, hd⟩ := ok.sl i _ h
  subst e
  exact ⟨_, h1, q _ xs G H (Fw.refl ok.gh) hl hd⟩
section
variable {ta tb tc te : TE} {ds es : List D} {i j : Int} {z : D}
theorem ed_ixl (ha : EvL K ta env ds) (hb : EvD K tb env (.int i)) (hz : atI ds i = some z) : EvD K (tOp (rIxL K) ta tb) env z := fun G0 H0 G H σ ok Q q =>
  ha G0 H0 G H σ ok _ fun p xs G1 H1 a h1 hd => hb G0 H0 G1 H1 σ (ok.go a) _ fun u G2 H2 a2 hu => by
    unfold atI at hz
    cases hk : ixN ds.length i with
    | none => rw [hk] at hz; cases hz
    | some k =>
      rw [hk] at hz
      obtain ⟨w, h3, h4⟩ := hd.get (i := k) (d := z) hz
      exact ⟨p, xs, i, w, rfl, hu.int_inv, .inl (.inl (a2.hh _ _ h1)), by unfold atI; rw [hd.len, hk]; exact h3, q w G2 H2 (a.trans a2) (h4.mono a2.gg)⟩
theorem ed_lenl (ha : EvL K ta env ds) : EvD K (tCB (fun xs H Q => ∃ p ys, xs = [.ref p] ∧ (SqL K H p ys ∨ SqT K H p ys) ∧ Q (.int ys.length) H) (tCons ta tNil)) env (.int ds.length) := ed_lenL ha.p
theorem en_cat (ha : EvL K ta env ds) (hb : EvL K tb env es) (hl : ds.length + es.length ≤ 1000000) : EvN K (tOp rCat ta tb) env (ds ++ es) := fun G0 H0 G H σ ok Q q =>
  ha G0 H0 G H σ ok _ fun p xs G1 H1 a h1 hd => hb G0 H0 G1 H1 σ (ok.go a) _ fun u ys G2 H2 a2 h2 he =>
    ⟨p, u, xs, ys, rfl, rfl, a2.hh _ _ h1, h2, by rw [hd.len, he.len, sizeLine_eq]; omega, fun r hr => q r _ G2 _ ((a.trans a2).trans (Fw.hid a2.gh hr)) ((a.trans a2).hh.free hr) (a2.gh.free hr) upd_same ((hd.mono a2.gg).append he)⟩
theorem Dds.rep {G : Hp} {xs : List V} (h : Dds K G xs ds) : ∀ n : Nat, Dds K G (List.replicate n xs).flatten (List.replicate n ds).flatten
  | 0 => .nil
  | n + 1 => by rw [List.replicate_succ, List.replicate_succ, List.flatten_cons, List.flatten_cons]; exact h.append (Dds.rep h n)
theorem en_rep (ha : EvL K ta env ds) (hb : EvD K tb env (.int i)) (hl : ds.length * i.toNat ≤ 1000000 ∧ -1000000 ≤ i ∧ i ≤ 1000000) : EvN K (tOp rRep ta tb) env (List.replicate i.toNat ds).flatten := fun G0 H0 G H σ ok Q q =>
  ha G0 H0 G H σ ok _ fun p xs G1 H1 a h1 hd => hb G0 H0 G1 H1 σ (ok.go a) _ fun u G2 H2 a2 hu =>
    ⟨p, i, xs, rfl, hu.int_inv, a2.hh _ _ h1, by omega, by omega, by rw [hd.len, sizeLine_eq]; omega, fun r hr => q r _ G2 _ ((a.trans a2).trans (Fw.hid a2.gh hr)) ((a.trans a2).hh.free hr) (a2.gh.free hr) upd_same ((hd.mono a2.gg).rep _)⟩
/-- slices -/
def EvO (K : PySem.W.Frag) (to : TO) (env : EnvD) (o : Option Int) : Prop := ∀ (G0 H0 G H : Hp) (σ : L2.St), Ok K G0 H0 G H σ env → ∀ Q : Option Int → Hp → Prop, (∀ G' H', Fw G H G' H' → Q o H') → to σ H Q
theorem eo_none : EvO K tNoPart env none := fun _ _ G H _ ok _ q => q G H (Fw.refl ok.gh)
theorem eo_some (h : EvD K ta env (.int i)) : EvO K (tPart ta) env (some i) := fun G0 H0 G H σ ok Q q => h G0 H0 G H σ ok _ fun v G1 H1 a hv => ⟨i, hv.int_inv, q G1 H1 a⟩
def cutD (xs : List D) (lo hi : Option Int) : List D := (xs.drop (HT.sIx xs.length 0 lo)).take (HT.sIx xs.length xs.length hi - HT.sIx xs.length 0 lo)
theorem en_slice {tl th : TO} {lo hi : Option Int} (ha : EvL K ta env ds) (hl : EvO K tl env lo) (hh : EvO K th env hi) : EvN K (tSl (rSlL K) ta tl th) env (cutD ds lo hi) := fun G0 H0 G H σ ok Q q =>
  ha G0 H0 G H σ ok _ fun p xs G1 H1 a h1 hd => hl G0 H0 G1 H1 σ (ok.go a) _ fun G2 H2 a2 => hh G0 H0 G2 H2 σ ((ok.go a).go a2) _ fun G3 H3 a3 =>
    ⟨p, xs, rfl, .inl (.inl ((a2.trans a3).hh _ _ h1)), fun r hr => q r _ G3 _ (((a.trans a2).trans a3).trans (Fw.hid a3.gh hr)) (((a.trans a2).trans a3).hh.free hr) (a3.gh.free hr) upd_same (by
      unfold cutV cutD
      rw [hd.len]
      exact ((hd.mono (a2.trans a3).gg).drop _).take _)⟩
theorem ed_sum {ns : List Int} (ha : EvL K ta env (ns.map PyData.int)) : EvD K (tCB (rSum K) (tCons ta tNil)) env (.int ns.sum) := fun G0 H0 G H σ ok Q q =>
  ha G0 H0 G H σ ok _ fun p xs G1 H1 a h1 hd => ⟨p, ns, rfl, by rw [← hd.ints_inv]; exact SqL.of h1, q _ G1 H1 a (.int _)⟩
theorem ed_any {bs : List Bool} (ha : EvL K ta env (bs.map PyData.bool)) : EvD K (tCB (rAny K) (tCons ta tNil)) env (.bool (bs.any id)) := fun G0 H0 G H σ ok Q q =>
  ha G0 H0 G H σ ok _ fun p xs G1 H1 a h1 hd => ⟨p, bs, rfl, by rw [← hd.bls_inv]; exact SqL.of h1, q _ G1 H1 a (.bl _)⟩
/-- the script -/
theorem ev_scr {ns : List Int} (i : Nat) (h : env[i]? = some (.scr ns)) : EvV K (tVar i) env (.scr ns) := fun G0 H0 G H σ ok Q q => by
  obtain ⟨o, h1, a, e, hs⟩ := ok.sl i _ h
  subst e
  exact ⟨_, h1, q _ G H (Fw.refl ok.gh) ⟨a, rfl, hs⟩⟩
theorem ed_lenR {ns : List Int} (i : Nat) (h : env[i]? = some (.scr ns)) : EvD K (tCB (fun xs H Q => ∃ p ys, xs = [.ref p] ∧ (SqL K H p ys ∨ SqT K H p ys) ∧ Q (.int ys.length) H) (tCons (tVar i) tNil)) env (.int ns.length) := fun G0 H0 G H σ ok Q q =>
  ev_scr i h G0 H0 G H σ ok _ fun v G1 H1 a hv => by
    obtain ⟨p, e, hs⟩ := hv
    cases e
    refine ⟨p, _, rfl, .inl (a.gh.seq hs), ?_⟩
    rw [List.length_map]
    exact q _ G1 H1 a (.int _)
theorem ed_ixR {ns : List Int} {n : Int} (m : Nat) (h : env[m]? = some (.scr ns)) (hb : EvD K tb env (.int i)) (hz : atI ns i = some n) : EvD K (tOp (rIxL K) (tVar m) tb) env (.int n) := fun G0 H0 G H σ ok Q q =>
  ev_scr m h G0 H0 G H σ ok _ fun v G1 H1 a hv => by
    obtain ⟨p, e, hs⟩ := hv
    cases e
    refine hb G0 H0 G1 H1 σ (ok.go a) _ fun u G2 H2 a2 hu => ⟨p, _, i, .int n, rfl, hu.int_inv, (a.trans a2).gh.seq (a2.gg.seq hs) |> fun z => a2.gh.seq (a2.gg.seq hs), ?_, q _ G2 H2 (a.trans a2) (.int n)⟩
    unfold atI at hz ⊢
    rw [List.length_map]
    cases hk : ixN ns.length i with
    | none => rw [hk] at hz; cases hz
    | some k =>
      rw [hk] at hz
      show (ns.map V.int)[k]? = _
      rw [List.getElem?_map, show ns[k]? = some n from hz]
      rfl
/-- isinstance -/
def tyName : D → String
  | .none => "NoneType"
  | .bool _ => "bool"
  | .int _ => "int"
  | .str _ => "str"
  | .list _ => "list"
  | .tuple _ => "tuple"
  | .dict _ => "dict"
theorem Dd.tyx {H : Hp} {v : V} {d : D} (h : Dd K H v d) : TyX K H v (.type (tyName d)) := by
  cases h with
  | non => exact .base .non
  | bl b => exact .base (.bl b)
  | int i => exact .base (.int i)
  | str x => exact .base (.str x)
  | lst hs _ => exact .base (.lst hs)
  | tup hs _ =>
    rcases hs with (h | ⟨o, h⟩) | ⟨o, its, n, hk, hc, _⟩
    · exact .base (.tup h)
    · exact .fTuple h
    · exact .kTuple hk hc
theorem ed_isi {d : D} {T : String} {b : Bool} (h : EvP K ta env d) (hb : kitB (tyName d) T = some b) : EvD K (tCB (rIsi K) (tCons ta (tCons (tC (.ty T)) tNil))) env (.bool b) := fun G0 H0 G H σ ok Q q =>
  h G0 H0 G H σ ok _ fun v G1 H1 a hv => ⟨v, .ty T, _, _, b, rfl, .ty T, hv.tyx, kit_ty hb, q _ G1 H1 a (.bl b)⟩
theorem ed_isN {d : D} (h : EvP K ta env d) : EvD K (tOp (fun x y H Q => y = .non ∧ Q (.bl (decide (x = .non))) H) ta (tC .non)) env (.bool (match d with | .none => true | _ => false)) := fun G0 H0 G H σ ok Q q =>
  h G0 H0 G H σ ok _ fun v G1 H1 a hv => ⟨rfl, by
    cases hv with
    | non => exact q _ G1 H1 a (.bl true)
    | bl b => exact q _ G1 H1 a (.bl false)
    | int b => exact q _ G1 H1 a (.bl false)
    | str b => exact q _ G1 H1 a (.bl false)
    | lst _ _ => exact q _ G1 H1 a (.bl false)
    | tup _ _ => exact q _ G1 H1 a (.bl false)⟩
theorem ed_notN {d : D} (h : EvP K ta env d) : EvD K (tOp (fun x y H Q => y = .non ∧ Q (.bl (!decide (x = .non))) H) ta (tC .non)) env (.bool (match d with | .none => false | _ => true)) := fun G0 H0 G H σ ok Q q =>
  h G0 H0 G H σ ok _ fun v G1 H1 a hv => ⟨rfl, by
    cases hv with
    | non => exact q _ G1 H1 a (.bl false)
    | bl b => exact q _ G1 H1 a (.bl true)
    | int b => exact q _ G1 H1 a (.bl true)
    | str b => exact q _ G1 H1 a (.bl true)
    | lst _ _ => exact q _ G1 H1 a (.bl true)
    | tup _ _ => exact q _ G1 H1 a (.bl true)⟩
end
/-! ### an if whose test is known -/
theorem run_ifF {tc : TT} {t u : TS} {r : RD} (h : EvT K tc env false) (h2 : Run K E u env r) : Run K E (tIfS tc t u) env r := run_if h (fun z => nomatch z) fun _ => h2
theorem run_ifT {tc : TT} {t u : TS} {r : RD} (h : EvT K tc env true) (h2 : Run K E t env r) : Run K E (tIfS tc t u) env r := run_if h (fun _ => h2) fun z => nomatch z
theorem et_orF {t1 t2 : TT} (h : EvT K t1 env false) (h2 : EvT K t2 env false) : EvT K (tOr t1 t2) env false := et_or h fun _ => h2
theorem et_andF {t1 t2 : TT} (h : EvT K t1 env false) : EvT K (tAnd t1 t2) env false := fun G0 H0 G H σ ok Q q => h G0 H0 G H σ ok _ fun G1 H1 a => iteF (q G1 H1 a)
theorem et_notT {t1 : TT} (h : EvT K t1 env true) : EvT K (tNot t1) env false := et_not h

/-! ### errors -/
/-- a class of errors of the program's own, as the written part has it -/
structure ErrC (K : PySem.W.Frag) (mg : Str → Option Value) (x : Str) (C : Addr) : Prop where
  g : mg x = some (.ref C)
  ex : PySem.W.excIn K C [.type "ValueError", .type "Exception", .type "BaseException", .type "object"] "ValueError.__new__" = true
  kp : PySem.W.keepIn K (.ref C) = true
  sub : PySem.W.subIn K (.ref C) (.type "BaseException") = some true
  ty : PySem.W.typeIn K (.ref C) = some (.type "type")
  own : ExcC K C
  self : PySem.W.subIn K (.ref C) (.ref C) = some true
theorem ErrC.exm {K : PySem.W.Frag} {mg : Str → Option Value} {x : Str} {C : Addr} (F : ErrC K mg x C) : PySem.W.exmOne K (.ref C) (.ref C) = some true := PySem.W.exm_ref F.sub F.own.hd F.ty F.self
theorem ps_err {X : Cx} {W : WX} {x m : Str} {C : Addr} {j : Nat} {p p2 pos pos2 : Pos} (hc : X.calm = true) (tk : Takes X W) (F : ErrC X.K X.mg x C) (hg : Gl X x) (hdb : (x == ("__debug__" : Str)) = false := by decide) :
    PS X (.Raise (some (.Call (.Name x p) [.Constant (.str m) j p2] [] pos)) none pos2) (fun _ σ H => W (.ref C) none σ H) :=
  ps_raise hc tk (pmk_own PySem.F.excBase_ValueError F.ex F.g F.kp (raises_own F.sub F.ty) hg hdb)
theorem run_err {C : Value} : Run K E (fun _ _ H => E C none H) env (.ex C) := fun G0 H0 G H σ D ok q => q G H ok.fw
/-- isinstance(e, T) of the error that a suite holds, its class cls -/
def rIsF (K : PySem.W.Frag) (C a : Addr) (cls : Value) (d : Option Addr) : List V → Hp → VK → Prop := fun xs H Q => cls = .ref C ∧ d = none ∧ rIsE K C a xs H Q
theorem call_isF {X : Cx} {a C : Addr} {oe : Obj} {cls : Value} {d : Option Addr} {pn : List (Addr × Obj)} (F : ExcC X.K C) (hz : Zc cls d oe) (hf : ∃ vs, oe.data = .fields vs) : CallR (X.suite a ((a, oe) :: pn)) (.builtin "isinstance") (rIsF X.K C a cls d) := by
  intro pins s σ H xs us Q I r h
  obtain ⟨e1, e2, h⟩ := h
  subst e1; subst e2
  exact call_isE F hz hf pins s σ H xs us Q I r h
theorem ed_isF {i : Nat} {a C : Addr} {c : V} {cv : Value} {b : Bool} (h : env[i]? = some (.raw (.ref a))) (hc : ∀ u, RelV c u → u = cv) (hk : PySem.W.kitOne K (.ref C) cv = some b) : EvD K (tCB (rIsF K C a (.ref C) none) (tCons (tVar i) (tCons (tC c) tNil))) env (.bool b) := fun G0 H0 G H σ ok Q q =>
  ev_raw i h G0 H0 G H σ ok _ fun v G1 H1 f hv => ⟨rfl, rfl, c, cv, b, by cases hv; rfl, hc, hk, q _ G1 H1 f (.bl b)⟩
def rIsFT (K : PySem.W.Frag) (C a : Addr) (cls : Value) (d : Option Addr) : List V → Hp → VK → Prop := fun xs H Q => cls = .ref C ∧ d = none ∧ ∃ (tp : Addr) (cs : List V) (us : List Value) (b : Bool), xs = [.ref a, .ref tp] ∧ H tp = some (.tup cs) ∧ Paired ClsV cs us ∧ PySem.W.kitAny K (.ref C) us = some b ∧ Q (.bl b) H
theorem call_isFT {X : Cx} {a C : Addr} {oe : Obj} {cls : Value} {d : Option Addr} {pn : List (Addr × Obj)} (F : ExcC X.K C) (hz : Zc cls d oe) (hf : ∃ vs, oe.data = .fields vs) : CallR (X.suite a ((a, oe) :: pn)) (.builtin "isinstance") (rIsFT X.K C a cls d) := by
  intro pins s σ H xs us Q I r h
  obtain ⟨e1, e2, tp, cs, ws, b, rfl, hT, hp, e, q⟩ := h
  subst e1; subst e2
  match us, r with
  | [u1, u2], .cons r1 (.cons r2 .nil) =>
    obtain rfl : u1 = Value.ref a := r1
    obtain rfl : u2 = Value.ref tp := r2
    have hobj := (I.pin (a, oe) (List.mem_append_left _ (List.mem_cons_self))).1
    obtain ⟨fv, hfv⟩ := hf
    have inst : PySem.W.InstAt s.heap a oe C none := by
      cases oe with
      | mk c d da sl =>
        cases hz.1; cases hz.2; cases hfv
        exact ⟨hobj, rfl, rfl, trivial⟩
    obtain ⟨_, its, rv, ot, ht1, ht2, nt, ht3⟩ : ObjOk X.prog X.w H s.heap tp (.tup cs) := I.hok tp _ hT
    cases ot with
    | mk tc td tda tsl =>
      cases ht2; cases ht3
      cases ClsV.all hp rv
      exact PySem.W.kia_tup (PySem.W.handS_kitx_exc F.hg F.hk F.hs F.hd F.ha F.hn F.ht F.hm) I.kIn inst ht1 e (fun z => Value.noConfusion z) fun tk => ⟨V.bl b, H, I.kept (t' := tk) (fun _ _ w => w), rfl, q⟩
theorem ed_isFT2 {i : Nat} {a C : Addr} {c1 c2 : V} {u1 u2 : Value} {b : Bool} (h : env[i]? = some (.raw (.ref a))) (h1 : ClsV c1 u1) (h2 : ClsV c2 u2) (hk : PySem.W.kitAny K (.ref C) [u1, u2] = some b) :
    EvD K (tCB (rIsFT K C a (.ref C) none) (tCons (tVar i) (tCons (tTup (tCons (tC c1) (tCons (tC c2) tNil))) tNil))) env (.bool b) := fun G0 H0 G H σ ok Q q =>
  ev_raw i h G0 H0 G H σ ok _ fun v G1 H1 f hv => ⟨by show 2 ≤ sizeLine; decide, fun p hp => ⟨rfl, rfl, p, [c1, c2], [u1, u2], b, by cases hv; rfl, upd_same, .cons h1 (.cons h2 .nil), hk, q _ _ _ (f.trans (Fw.new f.gh hp)) (.bl b)⟩⟩
section
variable {X : Cx} {CX : CXT} {k : Nat} {ps : List Str} {sp : Sp} {x : Str} {p pos : Pos} {e : Expr} {es : List Expr} {t : TA} {Es : L2.St → XK}
theorem pe_cS (C : Callee X.prog X.w X.K X.mg X.base CX k x ps sp) (hr : Room k X.A) (hx : ∀ σ, PassesAt CX X σ (Es σ)) (ha : PA X (e :: es) t) (hg : Gl X x := by rfl)
    (hdb : (x == ("__debug__" : Str)) = false := by decide) (he : starEach (e :: es) X.env = (false, eval e X.env) :: starEach es X.env := by rfl) (hpl : (backTo pos (starEach es X.env)).any (·.1) = false := by rfl) :
    PE X (.Call (.Name x p) (e :: es) [] pos) (tCallS sp Es t) := by
  obtain ⟨f, fd, F, m, kp, b⟩ := C
  exact pe_callS F hr hg m kp b hx ha hdb he hpl
end
section
variable {α : Type} {fs : α → List SD} {pre : α → Prop} {fo : α → Option D} {C c : Value} {t : TA} {ss : List SD} {i : Nat} {ts : Addr → Value → Option Addr → TS} {Wout : WX}
/-- try: f(..) .. except c as n: suite, f raises, the suite hands back d -/
theorem run_tryR {x : α} {d : D} (h : EvA K t env ss) (e : ss = fs x) (hp : pre x) (hn : fo x = none) (hm : PySem.W.exmOne K C c = some true) (hs : ∀ a, Run K E (ts a C none) (env.set i (.raw (.ref a))) (.rt d)) :
    Run K E (fun D σ H => tDrop (tCallS (SpX K fs pre C fo) (WE (wAs K c i ts Wout D)) t) D σ H) env (.rt d) := fun G0 H0 G H σ D ok q =>
  h G0 H0 G H σ ok _ fun vs G1 H1 a hv => ⟨x, G1, a.gh, by rw [← e]; exact hv, hp, fun z hz => (by rw [hn] at hz; cases hz), fun _ G2 H2 a2 => ⟨true, hm, fun _ b _ => hs b G0 H0 G2 H2 _ _ (((ok.go a).go a2).set i rfl rfl) q, fun z => nomatch z⟩⟩
/-- .. f does not raise -/
theorem run_tryN {x : α} {d : D} (h : EvA K t env ss) (e : ss = fs x) (hp : pre x) (hn : fo x = some d) :
    Run K E (fun D σ H => tDrop (tCallS (SpX K fs pre C fo) (WE (wAs K c i ts Wout D)) t) D σ H) env (.nx env) := fun G0 H0 G H σ D ok q =>
  h G0 H0 G H σ ok _ fun vs G1 H1 a hv => ⟨x, G1, a.gh, by rw [← e]; exact hv, hp, fun z hz v G2 H2 a2 _ => q G2 H2 σ ((ok.go a).go a2), fun z => by rw [hn] at z; cases z⟩
end
end DL
namespace DL
open PySem L2
variable {K : PySem.W.Frag} {E : XK} {env : EnvD}
section
variable {α : Type} {fs : α → List SD} {pre : α → Prop} {fo : α → Option D} {C : Value} {t : TA} {ss : List SD}
/-- return f(..), f raises -/
theorem run_retX {x : α} (h : EvA K t env ss) (e : ss = fs x) (hp : pre x) (hn : fo x = none) : Run K E (tRet (tCall (SpX K fs pre C fo) [] E t)) env (.ex C) := fun G0 H0 G H σ D ok q =>
  h G0 H0 G H σ ok _ fun vs G1 H1 a hv => ⟨x, G1, a.gh, by rw [List.append_nil, ← e]; exact hv, hp, fun z hz => (by rw [hn] at hz; cases hz), fun _ G2 H2 a2 => q G2 H2 ((ok.fw.trans a).trans a2)⟩
/-- f(..) as a statement, f raises -/
theorem run_dropX {x : α} (h : EvA K t env ss) (e : ss = fs x) (hp : pre x) (hn : fo x = none) : Run K E (tDrop (tCall (SpX K fs pre C fo) [] E t)) env (.ex C) := fun G0 H0 G H σ D ok q =>
  h G0 H0 G H σ ok _ fun vs G1 H1 a hv => ⟨x, G1, a.gh, by rw [List.append_nil, ← e]; exact hv, hp, fun z hz => (by rw [hn] at hz; cases hz), fun _ G2 H2 a2 => q G2 H2 ((ok.fw.trans a).trans a2)⟩
end
/-- an error of a callee leaves the def -/
theorem pass_up {P : Program} {w : World} {mg : Str → Option Value} {base : Heap} {N : List Str} {qual : Str} {st : Stmt} {f : Addr} {cdv : Value} {A : Around} {outer : List Env} {s : Shared} {H : Hp} :
    Passes (L2.CX P w) (cxX P w K mg base N qual st f cdv A outer s H E) E := passes_call (takes_of rfl rfl rfl rfl) (fun _ _ _ _ h => h)
theorem Turn1.seq {t u : TS} {e1 e' : EnvD} (h : Run K E t env (.nx e1)) (h' : Turn1 K E u e1 e') : Turn1 K E (tSeq t u) env e' := by
  rcases h' with h' | h'
  · exact .inl (run_seq h h')
  · exact .inr (run_seq h h')
end DL

/-! Defs that ask repr: the guards around them are known to be empty. -/
namespace DL
open PySem L2
variable {K : PySem.W.Frag} {E : XK} {env env' e1 e2 : EnvD}

/-- a def's promise where nothing is being shown -/
structure FnG (P : Program) (w : World) (K : PySem.W.Frag) (mg : Str → Option Value) (base : Heap) (k : Nat) (f : Addr) (fd : FuncData) (ps : List Str) (sp : Sp) : Prop where
  many : ∀ vs H Q E, sp vs H Q E → vs.length = ps.length
  go : ∀ (A : Around) (out : List Env) (st : Shared) (H : Hp) (as : PySem.Args) (us : List Value) (vs : List V) (Q : VK) (E : XK), A.guards = some [] → Room k A → Env0 P w K mg base A out st H → BindsTo st fd as (ps.zip us) → Vals vs us → sp vs H Q E →
    codeAny (model P w) A (.call (.ref f) as) (CR CX0 out P w H st Q E) st
section
variable {P : Program} {w : World} {mg : Str → Option Value} {base : Heap} {x qual : Str} {st : Stmt} {f : Addr} {fd : FuncData} {N ps : List Str} {k : Nat} {sp : Sp}
theorem fn_G (F : Fun K x qual st f fd) (S : FnScope N ps (defScope st)) (len : ∀ vs H Q E, sp vs H Q E → vs.length = ps.length)
    (body : ∀ (cdv : Value) (A : Around) (outer : List Env) (s : Shared) (H : Hp) (vs : List V) (Q : VK) (E : XK), A.guards = some [] → Room k (A.deeper (PyProof.Rows.envOfC qual (defScope st) s.heap.objs.size f cdv)) → sp vs H Q E →
      ∃ t, PSs (cx0 P w K mg base N qual st f cdv A outer s H E) (defBody st) t ∧ t { nx := fun _ H' => Q .non H', rt := Q } (L2.start N vs) H) : FnG P w K mg base (k + 1) f fd ps sp := by
  obtain ⟨oc, od, kV, doc, pm, an, cdv, ct, osl, efd, hlk, hcode⟩ := F.ex
  subst efd
  refine ⟨len, fun A out s0 H as us vs Q E hG hroom env0 hbind hvals hsp => ?_⟩
  have hlen := len _ _ _ _ hsp
  have kin : K.In s0.heap := env0.mod.kin.keeps fun b ob q => (env0.bs b ob q).1
  have nolim : s0.heap.NoLimit := env0.mod.nolimit.keeps fun b ob q => (env0.bs b ob q).1
  have places : ∀ y ∈ ps.zip us, (defScope st).names.lookup y.1 = some .local ∨ ((defScope st).names.lookup y.1 = some .cell ∧ ((cellsFrom (s0.heap.objs.size + 1) (defScope st).names []).lookup y.1).isSome = true) := by
    rintro ⟨nm, val⟩ hy
    rcases S.par nm (List.of_mem_zip hy).1 with c | c
    · exact .inl c
    · exact .inr ⟨c, PySem.W.cellsFrom_some _ _ _ (.inl c)⟩
  refine codeAny_call_function hroom.depth (kin _ _ hlk) rfl S.co S.gen rfl (PySem.W.codeRec_of kin hcode) (hbind _ _ _ _ ?_)
  refine wpAny_newFunctionEnv_cells S.kind places fun ev hev s1 inC => ?_
  subst hev
  refine ⟨nolim.keeps inC.toInCall.keep, codeAny_func ?_⟩
  obtain ⟨t, hps, hq⟩ := body cdv A out s0 H vs Q E hG (hroom.deeper _) hsp
  have J : Inv (cxOf CX0 P w K mg base N qual (defScope st) f cdv A out s0 H E) [] (L2.start N vs) H s1 := inv_start S hroom.hd env0 hlen hvals inC
  refine wpAny_mono (hps.nox.run [] s1 (L2.start N vs) H _ J hq) (fun fl s' hfl => ?_) fun _ _ hx => hx
  match fl, hfl with
  | .ret u, hfl =>
    obtain ⟨v, σ', H', I', rv, qv⟩ := hfl
    exact ⟨v, H', I'.os, I'.bare, I'.base, I'.hok, rv, qv⟩
  | .next, hfl =>
    obtain ⟨σ', H', I', qv⟩ := hfl
    exact ⟨V.non, H', I'.os, I'.bare, I'.base, I'.hok, rfl, qv⟩
  | .brk, hfl => obtain ⟨_, _, _, z⟩ := hfl; exact z.elim
  | .cont, hfl => obtain ⟨_, _, _, z⟩ := hfl; exact z.elim
variable {α : Type} {fs : α → List SD} {pre : α → Prop} {fv : α → D}
theorem fn_GD (F : Fun K x qual st f fd) (S : FnScope N ps (defScope st)) (hn : ∀ a, (fs a).length = ps.length)
    (body : ∀ (cdv : Value) (A : Around) (outer : List Env) (s : Shared) (H : Hp) (E : XK), A.guards = some [] → Room k (A.deeper (PyProof.Rows.envOfC qual (defScope st) s.heap.objs.size f cdv)) →
      ∃ t, PSs (cx0 P w K mg base N qual st f cdv A outer s H E) (defBody st) t ∧ ∀ a, pre a → Run K E t (envOf N (fs a)) (.rt (fv a))) : FnG P w K mg base (k + 1) f fd ps (SpD K fs pre fv) := by
  refine fn_G F S (fun vs H Q E h => ?_) (fun cdv A outer s H vs Q E hG hr h => ?_)
  · obtain ⟨a, G, gh, ha, _⟩ := h
    rw [ha.len, hn a]
  · obtain ⟨a, G, gh, ha, hp, q⟩ := h
    obtain ⟨t, h1, h2⟩ := body cdv A outer s H E hG hr
    exact ⟨t, h1, h2 a hp G H G H _ _ (ok_start gh ha) fun v G' H' fw hv => q v G' H' fw hv⟩
def CalleeG (P : Program) (w : World) (K : PySem.W.Frag) (mg : Str → Option Value) (base : Heap) (k : Nat) (x : Str) (ps : List Str) (sp : Sp) : Prop :=
  ∃ f fd, FnG P w K mg base k f fd ps sp ∧ mg x = some (.ref f) ∧ PySem.W.keepIn K (.ref f) = true ∧ Binds K fd ps []
end
section
variable {X : Cx} {k : Nat} {ps : List Str} {sp : Sp} {x : Str} {p pos : Pos} {e : Expr} {es : List Expr} {t : TA}
theorem pe_cG (C : CalleeG X.prog X.w X.K X.mg X.base k x ps sp) (hG : X.A.guards = some []) (hr : Room k X.A) (ha : PA X (e :: es) t) (hg : Gl X x := by rfl)
    (hdb : (x == ("__debug__" : Str)) = false := by decide) (he : starEach (e :: es) X.env = (false, eval e X.env) :: starEach es X.env := by rfl) (hpl : (backTo pos (starEach es X.env)).any (·.1) = false := by rfl) :
    PE X (.Call (.Name x p) (e :: es) [] pos) (tCall sp [] E0 t) := by
  obtain ⟨f, fd, F, m, kp, b⟩ := C
  constructor
  intro pins s σ H Q I h
  refine wpAny_Call_Name_kw (ld_glob I hg m ?_ hdb)
  refine PySem.W.callWith_K (h₀ := X.base) I.ok.mod.kin kp (thn (ha.run pos pins s σ H _ I h) fun us s1 hh => ?_) he hpl
  obtain ⟨vs, H1, I1, rv, q⟩ := hh
  rw [List.append_nil] at q
  have nArgs : us.length = ps.length := by rw [← rv.length]; exact F.many _ _ _ _ q
  have bnd := b s1 us I1.kIn (by rw [List.append_nil]; exact nArgs)
  rw [List.append_nil] at bnd
  refine ⟨I1.kIn, wpAny_call (codeAny_mono (F.go X.A X.stack s1 H1 ⟨us, []⟩ us vs Q E0 hG hr I1.env0 bnd rv q) fun r s' hq => ?_)⟩
  match r, hq with
  | .ok (.ret u), hq => exact I1.after hq
  | .ok .next, hq => exact hq.elim
  | .ok .brk, hq => exact hq.elim
  | .ok .cont, hq => exact hq.elim
  | .error _, hq => exact hq.elim
/-- repr of data -/
def rRepr (K : PySem.W.Frag) : List V → Hp → VK → Prop := fun xs H Q => ∃ (a : Addr) (d : D), xs = [.ref a] ∧ Dp K H (.ref a) d ∧ d.showable = true ∧ d.hasDict = false ∧ d.depth ≤ 60 ∧ d.shown.length ≤ sizeLine ∧ Q (.str d.shown) H
theorem call_repr (hG : X.A.guards = some []) (hu : X.A.units + 64 < cLine) : CallR X (.builtin "repr") (rRepr X.K) := by
  intro pins s σ H xs us Q I r h
  obtain ⟨a, d, rfl, hd, h1, h2, h3, h4, q⟩ := h
  match us, r with
  | [u], .cons ru .nil =>
    obtain ⟨as, rd⟩ := Dp.reads I d _ u hd ru
    obtain rfl : u = Value.ref a := ru
    exact repr_of_reads' rd h1 (fun z => by rw [h2] at z; cases z) hG (by omega) (fun _ _ z => z) (fun h' w' tk keep => ⟨.str d.shown, H, I.kept (t' := tk) keep, ⟨_, rfl⟩, q⟩) h4
end
/-- the script on the heap behind the top -/
theorem first_heap {P : Program} {w : World} {s1 : Shared} {a : Addr} {vs : List Value} {ns : List Int} (kin : K.In s1.heap) (hobj : s1.heap.get? a = some { cls := .type "list", data := .seq vs.toArray }) (hv : Vals (ns.map V.int) vs) (hn : ns.length ≤ sizeLine) :
    ∃ H : Hp, SqL K H a (ns.map V.int) ∧ HOk P w H s1.heap ∧ (∀ b, H b ≠ none → b = a ∧ K.lookup a = none ∧ ∃ o xs, H b = some (.frz o (.lst xs))) := by
  have hlen := hv.length
  rw [List.length_map] at hlen
  cases hk : K.lookup a with
  | some ob =>
    have same := kin a ob hk
    rw [hobj] at same
    cases same
    exact ⟨fun _ => none, .inr ⟨_, vs.toArray, _, hk, rfl, rfl, rfl, by rw [List.size_toArray, ← hlen]; exact hn, by simpa using hv⟩, fun b u z => by simp at z, fun b z => (z rfl).elim⟩
  | none =>
    refine ⟨fun b => if b = a then some (.frz { cls := .type "list", data := .seq vs.toArray } (.lst (ns.map V.int))) else none, .inl (.inr ⟨_, if_pos rfl⟩), fun b u z => ?_, fun b z => ?_⟩
    · by_cases e : b = a
      · subst e
        obtain rfl := Option.some.inj ((if_pos rfl).symm.trans z)
        exact ⟨hobj, by rw [List.length_map]; exact hn, vs, _, hv, hobj⟩
      · exact absurd ((if_neg e).symm.trans z) (by simp)
    · by_cases e : b = a
      · exact ⟨e, rfl, _, _, if_pos e⟩
      · exact absurd (if_neg e) z
open PySem.W in
theorem law_G {l : OpenLaw} {n k : Nat} {q : Program} {loose : List Str} {XP : (Str → Option Value) → Heap → Prop} {YP : World → Heap → Prop} {d : DefRec} {KK : Params → Frag} {sp : World → Sp} {x : Str}
    (hn : l.most = some n) (hn2 : n ≤ sizeLine) (hdf : d.params.defaults = []) (hroom : Room k callerA)
    (hY : ∀ (w : World) (h : Heap), YP w h → (KK w.params).In h)
    (F : ∀ (w : World) (mg : Str → Option Value) (fa : Addr) (h : Heap), (KK w.params).In h → h.Ns mainGlobals mg → mg d.name = some (.ref fa) →
      ∃ fd : FuncData, (∀ (s : Shared) (u : Value), BindsTo s fd ⟨[u], []⟩ [(x, u)]) ∧ ∀ base : Heap, (KK w.params).In base → base.Ns mainGlobals mg → FnG l.prog w (KK w.params) mg base k fa fd [x] (sp w))
    (hsp : ∀ (w : World) (H : Hp) (a : Addr) (ns : List Int), ns.length ≤ n → SqL (KK w.params) H a (ns.map V.int) → sp w [.ref a] H (fun v _ => v = .bl true) fun _ _ _ => False) :
    WalkO q loose XP YP l.row.toRowW d [] (fun f vs => PySem.call f vs) := by
  refine Att.attach_call hn hdf fun w s0 s1 mg mb fa ob pm cd doc a vs ns G Y hob hfun hcode hname hobj hints hlen hgens => ?_
  have kin := hY w _ Y
  obtain ⟨fd, hbind, hfn⟩ := F w mg fa _ kin G.T.g hname
  have hv : Vals (ns.map V.int) vs := vals_ints hints
  obtain ⟨H, hS, hok, honly⟩ := first_heap (P := l.prog) (w := w) kin hobj hv (Nat.le_trans hlen hn2)
  have low : ∀ {b : Addr} {u : Obj}, s1.heap.get? b = some u → H b = none → (hidT s1.heap H).get? b = some u := fun hb hnone => hidT_get hb hnone
  have noDict : ∀ {b : Addr} {u : Obj} {es : Array DictEntry} {ep : Nat}, s1.heap.get? b = some u → u.data = .dict es ep → H b = none := by
    intro b u es ep hb hd
    by_cases z : H b = none
    · exact z
    · obtain ⟨e, _⟩ := honly b z
      rw [e, hobj] at hb
      cases hb
      cases (show Data.seq vs.toArray _ = Data.dict es ep from hd)
  have space : ∀ {b : Addr} {m : Str → Option Value}, s1.heap.Ns b m → (hidT s1.heap H).Ns b m := by
    rintro b m ⟨u, es, ep, hb, hd, rest⟩
    exact ⟨u, es, ep, low hb (noDict hb hd), hd, rest⟩
  have kinB : (KK w.params).In (hidT s1.heap H) := fun b u hb => low (kin b u hb) (by
    by_cases z : H b = none
    · exact z
    · obtain ⟨e, hk, _⟩ := honly b z
      rw [e, hk] at hb; cases hb)
  have lim : (hidT s1.heap H).NoLimit := by
    obtain ⟨mc, z1, z2⟩ := G.T.nolimit
    exact ⟨mc, space z1, z2⟩
  have M : Mod (KK w.params) mg (hidT s1.heap H) := ⟨kinB, space G.T.g, ⟨mb, space G.T.b, G.T.builtins⟩, lim⟩
  have env0 : Env0 l.prog w (KK w.params) mg (hidT s1.heap H) callerA [] s1 H :=
    ⟨rfl, M, fun b u hb => of_hidT hb, by rw [hidT_size]; exact Nat.le_refl _, trivial, fun b hb => (by cases hb), hok, .of_eq hgens⟩
  refine codeAny_mono ((hfn _ kinB (space G.T.g)).go callerA [] s1 H ⟨[.ref a], []⟩ [.ref a] [.ref a] _ _ rfl hroom env0 (hbind s1 (.ref a)) (.cons rfl .nil) (hsp w H a ns hlen hS)) fun r s' hr => ?_
  match r, hr with
  | .ok (.ret u), hr =>
    obtain ⟨v, H', hos, hbare, un, hok', rv, hv⟩ := hr
    have hv : v = .bl true := hv
    subst hv
    cases rv
    refine ⟨rfl, OldK.of_keep fun b ob hb => ?_, hos, hbare⟩
    by_cases z : H b = none
    · exact un.keep b ob hb z (fun m => (by cases m)) (fun m => (by cases m))
    · obtain ⟨_, _, o2, xs, hz⟩ := honly b z
      have h1 := (hok b _ hz).1
      have h2 := (hok' b _ (un.frzs b o2 _ hz)).1
      rw [hb] at h1
      cases h1
      exact h2
  | .ok .next, hr => exact hr.elim
  | .ok .brk, hr => exact hr.elim
  | .ok .cont, hr => exact hr.elim
  | .error _, hr => exact hr.elim
end DL

/-! Fractions: the mathematics. -/
namespace MX
open PySem L2 DL
/-- a fraction as data -/
abbrev encQ (r : Rat) : PyData := .tuple [.int r.num, .int (r.den : Int)]
/-- by what fraction() divides -/
def sgcd (t l : Int) : Int := if l < 0 then -((Nat.gcd t.natAbs l.natAbs : Nat) : Int) else ((Nat.gcd t.natAbs l.natAbs : Nat) : Int)
theorem gcd_pos {t l : Int} (h : l ≠ 0) : 0 < Nat.gcd t.natAbs l.natAbs := Nat.gcd_pos_of_pos_right _ (by omega)
theorem sgcd_ne {t l : Int} (h : l ≠ 0) : sgcd t l ≠ 0 := by
  have := gcd_pos (t := t) h
  unfold sgcd
  split <;> omega
theorem gcd_dvd_top (t l : Int) : ((Nat.gcd t.natAbs l.natAbs : Nat) : Int) ∣ t := Int.dvd_natAbs.mp (Int.natCast_dvd_natCast.mpr (Nat.gcd_dvd_left _ _))
theorem gcd_dvd_low (t l : Int) : ((Nat.gcd t.natAbs l.natAbs : Nat) : Int) ∣ l := Int.dvd_natAbs.mp (Int.natCast_dvd_natCast.mpr (Nat.gcd_dvd_right _ _))
theorem sgcd_top (t l : Int) : sgcd t l ∣ t := by
  unfold sgcd
  split
  · exact Int.neg_dvd.mpr (gcd_dvd_top t l)
  · exact gcd_dvd_top t l
theorem sgcd_low (t l : Int) : sgcd t l ∣ l := by
  unfold sgcd
  split
  · exact Int.neg_dvd.mpr (gcd_dvd_low t l)
  · exact gcd_dvd_low t l
theorem divInt_parts {t l : Int} (h : l ≠ 0) : (Rat.divInt t l).num = t.fdiv (sgcd t l) ∧ ((Rat.divInt t l).den : Int) = l.fdiv (sgcd t l) := by
  rw [Int.fdiv_eq_ediv_of_dvd (sgcd_top t l), Int.fdiv_eq_ediv_of_dvd (sgcd_low t l)]
  unfold sgcd
  rcases Int.lt_or_gt_of_ne h with hl | hl
  · obtain ⟨d, hd⟩ : ∃ d : Nat, l = Int.negSucc d := ⟨(-l - 1).toNat, by omega⟩
    subst hd
    rw [if_pos hl]
    have e : Rat.divInt t (Int.negSucc d) = Rat.normalize (-t) (d + 1) (by omega) := rfl
    rw [e, Rat.normalize_eq]
    have hn : (Int.negSucc d).natAbs = d + 1 := rfl
    rw [hn]
    have hng : (-t).natAbs = t.natAbs := Int.natAbs_neg t
    have hg : ((t.natAbs.gcd (d + 1) : Nat) : Int) ∣ t := gcd_dvd_top t (Int.negSucc d)
    refine ⟨?_, ?_⟩
    · show -t / (((-t).natAbs.gcd (d + 1) : Nat) : Int) = _
      rw [hng, Int.ediv_neg, Int.neg_ediv_of_dvd hg]
    · show (((d + 1) / ((-t).natAbs.gcd (d + 1)) : Nat) : Int) = _
      rw [hng]
      have : Int.negSucc d = -((d + 1 : Nat) : Int) := rfl
      rw [this, Int.ediv_neg, Int.neg_ediv_of_dvd (by exact_mod_cast Nat.gcd_dvd_right _ _), Int.neg_neg]
      rfl
  · obtain ⟨d, hd⟩ : ∃ d : Nat, l = (d : Int) := ⟨l.toNat, by omega⟩
    subst hd
    rw [if_neg (by omega)]
    have hd0 : d ≠ 0 := by omega
    have e : Rat.divInt t (d : Int) = mkRat t d := rfl
    rw [e, Rat.mkRat_def, dif_neg hd0, Rat.normalize_eq]
    exact ⟨rfl, rfl⟩
/-! ### sizes -/
/-- at most n bits -/
def Bt (n : Nat) (x : Int) : Prop := x.natAbs < 2 ^ n
instance (n : Nat) (x : Int) : Decidable (Bt n x) := by unfold Bt; infer_instance
theorem Bt.zero (n : Nat) : Bt n 0 := Nat.two_pow_pos n
theorem Bt.one {n : Nat} (h : 0 < n) : Bt n 1 := Nat.one_lt_two_pow (by omega)
theorem Bt.mono {n m : Nat} {x : Int} (h : Bt n x) (hm : n ≤ m) : Bt m x := Nat.lt_of_lt_of_le h (Nat.pow_le_pow_right (by decide) hm)
theorem Bt.mul {n m : Nat} {x y : Int} (h : Bt n x) (h' : Bt m y) : Bt (n + m) (x * y) := wide_lt h h'
theorem Bt.add {n : Nat} {x y : Int} (h : Bt n x) (h' : Bt n y) : Bt (n + 1) (x + y) := by
  unfold Bt at *
  have : (x + y).natAbs ≤ x.natAbs + y.natAbs := Int.natAbs_add_le x y
  rw [Nat.pow_succ]
  omega
theorem Bt.neg {n : Nat} {x : Int} (h : Bt n x) : Bt n (-x) := by
  unfold Bt at *
  rw [Int.natAbs_neg]; exact h
theorem Bt.mulx {n m : Nat} {x y : Int} (h : Bt n x) (h' : Bt m y) (hnm : n + m ≤ 134217728) : CMulX x y := mulx_ok h h' hnm
theorem sgcd_abs (t l : Int) : (sgcd t l).natAbs = Nat.gcd t.natAbs l.natAbs := by
  unfold sgcd
  split
  · rw [Int.natAbs_neg, Int.natAbs_natCast]
  · rw [Int.natAbs_natCast]
theorem sgcd_div {t l x : Int} (h : l ≠ 0) (hb : Bt 9000 l) : CDivZ x (sgcd t l) := by
  refine ⟨sgcd_ne h, ?_⟩
  rw [sgcd_abs]
  have h1 : Nat.gcd t.natAbs l.natAbs ≤ l.natAbs := Nat.gcd_le_right _ (by omega)
  have h2 : Nat.gcd t.natAbs l.natAbs < 2 ^ 9000 := Nat.lt_of_le_of_lt h1 hb
  exact PySem.Flt.log2_lt_of (by decide) h2
theorem divInt_num_le (t : Int) {l : Int} (h : l ≠ 0) : (Rat.divInt t l).num.natAbs ≤ t.natAbs := by
  rw [(divInt_parts h).1, Int.fdiv_eq_ediv_of_dvd (sgcd_top t l)]
  have h1 := Int.ediv_mul_cancel (sgcd_top t l)
  have h2 : (t / sgcd t l).natAbs * (sgcd t l).natAbs = t.natAbs := by rw [← Int.natAbs_mul, h1]
  have h3 : 1 ≤ (sgcd t l).natAbs := by have := sgcd_ne (t := t) h; omega
  calc (t / sgcd t l).natAbs = (t / sgcd t l).natAbs * 1 := (Nat.mul_one _).symm
    _ ≤ (t / sgcd t l).natAbs * (sgcd t l).natAbs := Nat.mul_le_mul_left _ h3
    _ = t.natAbs := h2
theorem divInt_den_le (t : Int) {l : Int} (h : l ≠ 0) : (Rat.divInt t l).den ≤ l.natAbs := by
  have e := (divInt_parts (t := t) h).2
  rw [Int.fdiv_eq_ediv_of_dvd (sgcd_low t l)] at e
  have h1 := Int.ediv_mul_cancel (sgcd_low t l)
  have h2 : (l / sgcd t l).natAbs * (sgcd t l).natAbs = l.natAbs := by rw [← Int.natAbs_mul, h1]
  have h3 : 1 ≤ (sgcd t l).natAbs := by have := sgcd_ne (t := t) h; omega
  have h4 : (Rat.divInt t l).den = (l / sgcd t l).natAbs := by rw [← e, Int.natAbs_natCast]
  rw [h4]
  calc (l / sgcd t l).natAbs = (l / sgcd t l).natAbs * 1 := (Nat.mul_one _).symm
    _ ≤ (l / sgcd t l).natAbs * (sgcd t l).natAbs := Nat.mul_le_mul_left _ h3
    _ = l.natAbs := h2
/-- both parts of at most n bits -/
structure Qb (n : Nat) (r : Rat) : Prop where
  num : Bt n r.num
  den : Bt n (r.den : Int)
theorem Qb.mono {n m : Nat} {r : Rat} (h : Qb n r) (hm : n ≤ m) : Qb m r := ⟨h.num.mono hm, h.den.mono hm⟩
theorem qb_divInt {n : Nat} {t l : Int} (h : l ≠ 0) (ht : Bt n t) (hl : Bt n l) : Qb n (Rat.divInt t l) :=
  ⟨Nat.lt_of_le_of_lt (divInt_num_le t h) ht, by show ((_ : Nat) : Int).natAbs < _; rw [Int.natAbs_natCast]; exact Nat.lt_of_le_of_lt (divInt_den_le t h) hl⟩
theorem den_ne (r : Rat) : (r.den : Int) ≠ 0 := by have := r.den_nz; omega
/-- what plus, times, over, is_less reckon -/
theorem add_is (p q : Rat) : Rat.divInt (p.num * q.den + q.num * p.den) (p.den * q.den) = p + q := by
  have h := Rat.divInt_add_divInt p.num q.num (den_ne p) (den_ne q)
  rw [Rat.num_divInt_den, Rat.num_divInt_den] at h
  exact h.symm
theorem mul_is (p q : Rat) : Rat.divInt (p.num * q.num) (p.den * q.den) = p * q := by
  have h := Rat.divInt_mul_divInt p.num q.num (d₁ := p.den) (d₂ := q.den)
  rw [Rat.num_divInt_den, Rat.num_divInt_den] at h
  exact h.symm
theorem lt_is (p q : Rat) : decide (p.num * q.den < q.num * p.den) = decide (p < q) := by
  by_cases h : p < q
  · rw [decide_eq_true h, decide_eq_true ((Rat.lt_iff p q).mp h)]
  · rw [decide_eq_false h, decide_eq_false (fun z => h ((Rat.lt_iff p q).mpr z))]
theorem num_is (p : Rat) : p = (p.num : Rat) / ((p.den : Int) : Rat) := by
  have h := Rat.num_divInt_den p
  rw [Rat.divInt_eq_div] at h
  exact h.symm
theorem div_is (p q : Rat) (hq : q ≠ 0) : Rat.divInt (p.num * q.den) (p.den * q.num) = p / q := by
  rw [Rat.divInt_eq_div]
  have h1 := num_is p
  have h2 := num_is q
  have hp : ((p.den : Int) : Rat) ≠ 0 := fun z => den_ne p (Rat.intCast_inj.mp z)
  have hd : ((q.den : Int) : Rat) ≠ 0 := fun z => den_ne q (Rat.intCast_inj.mp z)
  have hn : (q.num : Rat) ≠ 0 := by
    intro z
    rw [z] at h2
    exact hq (h2.trans (by grind))
  rw [Rat.intCast_mul, Rat.intCast_mul]
  generalize hA : (p.num : Rat) = A at *
  generalize hB : ((p.den : Int) : Rat) = B at *
  generalize hC : (q.num : Rat) = C at *
  generalize hD : ((q.den : Int) : Rat) = F at *
  rw [h1, h2]
  grind
theorem qb_add {n : Nat} {p q : Rat} (hp : Qb n p) (hq : Qb n q) : Qb (2 * n + 1) (p + q) := by
  rw [← add_is]
  refine qb_divInt ?_ ?_ ?_
  · exact Int.mul_ne_zero (den_ne p) (den_ne q)
  · exact ((hp.num.mul hq.den).add (hq.num.mul hp.den)).mono (by omega)
  · exact (hp.den.mul hq.den).mono (by omega)
theorem qb_mul {n : Nat} {p q : Rat} (hp : Qb n p) (hq : Qb n q) : Qb (2 * n) (p * q) := by
  rw [← mul_is]
  exact qb_divInt (Int.mul_ne_zero (den_ne p) (den_ne q)) ((hp.num.mul hq.num).mono (by omega)) ((hp.den.mul hq.den).mono (by omega))
end MX

namespace MX
open PySem L2 DL
/-! ### the law's own gcd -/
def eu (a b : Nat) : Nat → Nat × Nat
  | 0 => (a, b)
  | i + 1 => ((eu a b i).2, (eu a b i).1 % (eu a b i).2)
theorem eu_gcd (a b : Nat) : ∀ i, Nat.gcd (eu a b i).1 (eu a b i).2 = Nat.gcd a b
  | 0 => rfl
  | i + 1 => by
    show Nat.gcd (eu a b i).2 ((eu a b i).1 % (eu a b i).2) = _
    rw [Nat.gcd_comm, ← Nat.gcd_rec, Nat.gcd_comm]
    exact eu_gcd a b i
theorem eu_shift (a b : Nat) : ∀ i, eu a b (i + 1) = eu b (a % b) i
  | 0 => rfl
  | i + 1 => by
    show ((eu a b (i + 1)).2, (eu a b (i + 1)).1 % (eu a b (i + 1)).2) = ((eu b (a % b) i).2, _)
    rw [eu_shift a b i]
def sz (n : Nat) : Nat := if n = 0 then 0 else n.log2 + 1
theorem sz_double {r a : Nat} (h : 2 * r ≤ a) (ha : 0 < a) : sz r + 1 ≤ sz a := by
  have e1 : sz a = a.log2 + 1 := by unfold sz; rw [if_neg (by omega)]
  rw [e1]
  by_cases hr : r = 0
  · subst hr; unfold sz; rw [if_pos rfl]; omega
  · have e2 : sz r = r.log2 + 1 := by unfold sz; rw [if_neg hr]
    rw [e2]
    have : (2 * r).log2 = r.log2 + 1 := Nat.log2_two_mul hr
    have h2 : (2 * r).log2 ≤ a.log2 := by
      have h3 : 2 ^ (2 * r).log2 ≤ 2 * r := Nat.log2_self_le (by omega)
      have h4 : a < 2 ^ (a.log2 + 1) := Nat.lt_log2_self
      have h5 : (2 * r).log2 < a.log2 + 1 := (Nat.pow_lt_pow_iff_right (by decide)).mp (Nat.lt_of_le_of_lt (Nat.le_trans h3 h) h4)
      omega
    omega
theorem eu_end : ∀ (n a b : Nat), b ≤ a → sz a + sz b ≤ n → ∃ k, k ≤ n ∧ (eu a b k).2 = 0
  | n, a, 0, _, _ => ⟨0, Nat.zero_le _, rfl⟩
  | 0, a, b + 1, h, hn => by
    have : 0 < sz (b + 1) := by unfold sz; rw [if_neg (by omega)]; omega
    omega
  | n + 1, a, b + 1, h, hn => by
    have hr : a % (b + 1) < b + 1 := Nat.mod_lt _ (by omega)
    have h2 : 2 * (a % (b + 1)) ≤ a := by
      have e := Nat.div_add_mod a (b + 1)
      have q : 1 ≤ a / (b + 1) := (Nat.le_div_iff_mul_le (by omega)).mpr (by omega)
      have : (b + 1) * 1 ≤ (b + 1) * (a / (b + 1)) := Nat.mul_le_mul_left _ q
      omega
    have h3 := sz_double h2 (by omega)
    obtain ⟨k, hk, e⟩ := eu_end n (b + 1) (a % (b + 1)) (by omega) (by omega)
    exact ⟨k + 1, by omega, by rw [eu_shift]; exact e⟩
theorem eu_stop (a b : Nat) : ∃ k, k ≤ sz a + sz b + 1 ∧ (eu a b k).2 = 0 := by
  by_cases h : b ≤ a
  · obtain ⟨k, h1, h2⟩ := eu_end _ a b h (Nat.le_refl _)
    exact ⟨k, by omega, h2⟩
  · have e : a % b = a := Nat.mod_eq_of_lt (by omega)
    obtain ⟨k, h1, h2⟩ := eu_end (sz b + sz a) b a (by omega) (by omega)
    exact ⟨k + 1, by omega, by rw [eu_shift, e]; exact h2⟩
/-- the first turn at which b is 0 -/
theorem eu_first (a b : Nat) : ∃ k, k ≤ sz a + sz b + 1 ∧ (eu a b k).2 = 0 ∧ (∀ i, i < k → (eu a b i).2 ≠ 0) ∧ (eu a b k).1 = Nat.gcd a b := by
  obtain ⟨m, hm, hz⟩ := eu_stop a b
  have key : ∀ n, (∃ k, k ≤ n ∧ (eu a b k).2 = 0) → ∃ k, k ≤ n ∧ (eu a b k).2 = 0 ∧ ∀ i, i < k → (eu a b i).2 ≠ 0 := by
    intro n
    induction n with
    | zero => rintro ⟨k, h1, h2⟩; exact ⟨k, h1, h2, fun i hi => by omega⟩
    | succ n ih =>
      rintro ⟨k, h1, h2⟩
      by_cases h : ∃ k, k ≤ n ∧ (eu a b k).2 = 0
      · obtain ⟨j, a1, a2, a3⟩ := ih h
        exact ⟨j, by omega, a2, a3⟩
      · exact ⟨k, h1, h2, fun i hi z => h ⟨i, by omega, z⟩⟩
  obtain ⟨k, h1, h2, h3⟩ := key m ⟨m, Nat.le_refl _, hz⟩
  refine ⟨k, by omega, h2, h3, ?_⟩
  have := eu_gcd a b k
  rw [h2, Nat.gcd_zero_right] at this
  exact this
theorem bits_sz (x : Int) : Builtin.Int.intBits x = sz x.natAbs := by
  unfold Builtin.Int.intBits sz
  by_cases h : x = 0
  · subst h; rfl
  · rw [if_neg (by simpa using h), if_neg (by omega)]
/-! ### the law's draws -/
def dstep (free : Bool) (s : Int × Int) (lim : Int) : (Int × Int) × Int :=
  if (free && decide (1 < s.1)) = true then ((s.1.fdiv lim, s.2), s.1.fmod lim)
  else ((s.1, (((s.2 * 48271 + 11).fmod 2147483647) * 69621 + 7).fmod 2147483647), (((((s.2 * 48271 + 11).fmod 2147483647) * 69621 + 7).fmod 2147483647).fdiv 13).fmod lim)
def dst (free : Bool) : Int × Int → List Int → Int × Int
  | s, [] => s
  | s, l :: ls => dst free (dstep free s l).1 ls
def drun (free : Bool) : Int × Int → List Int → List Int
  | _, [] => []
  | s, l :: ls => (dstep free s l).2 :: drun free (dstep free s l).1 ls
theorem dst_snoc (free : Bool) : ∀ (ls : List Int) (s : Int × Int) (l : Int), dst free s (ls ++ [l]) = (dstep free (dst free s ls) l).1
  | [], _, _ => rfl
  | _ :: ls, s, l => dst_snoc free ls _ l
theorem drun_snoc (free : Bool) : ∀ (ls : List Int) (s : Int × Int) (l : Int), drun free s (ls ++ [l]) = drun free s ls ++ [(dstep free (dst free s ls) l).2]
  | [], _, _ => rfl
  | a :: ls, s, l => congrArg (_ :: ·) (drun_snoc free ls _ l)
theorem drun_len (free : Bool) : ∀ (ls : List Int) (s : Int × Int), (drun free s ls).length = ls.length
  | [], _ => rfl
  | _ :: ls, _ => congrArg (· + 1) (drun_len free ls _)
theorem fmod_bd {x y : Int} (h : 0 < y) : 0 ≤ x.fmod y ∧ x.fmod y < y := ⟨Int.fmod_nonneg_of_pos x h, Int.fmod_lt_of_pos x h⟩
theorem dstep_bd (free : Bool) (s : Int × Int) {l : Int} (h : 0 < l) : 0 ≤ (dstep free s l).2 ∧ (dstep free s l).2 < l := by
  unfold dstep
  split
  · exact fmod_bd h
  · exact fmod_bd h
theorem drun_bd (free : Bool) : ∀ (ls : List Int) (s : Int × Int) (i : Nat) (x l : Int), (∀ l ∈ ls, 0 < l) → (drun free s ls)[i]? = some x → ls[i]? = some l → 0 ≤ x ∧ x < l
  | [], _, _, _, _, _, _, h => by simp at h
  | a :: ls, s, 0, x, l, hp, hx, hl => by
    have e1 : (dstep free s a).2 = x := by simpa [drun] using hx
    have e2 : a = l := by simpa using hl
    subst e1; subst e2
    exact dstep_bd free s (hp _ (List.mem_cons_self))
  | a :: ls, s, i + 1, x, l, hp, hx, hl => drun_bd free ls _ i x l (fun z hz => hp z (List.mem_cons_of_mem _ hz)) (by simpa [drun] using hx) (by simpa using hl)
theorem dst_bd (free : Bool) : ∀ (ls : List Int) (s : Int × Int), 0 ≤ s.2 → s.2 < 2147483647 → 0 ≤ (dst free s ls).2 ∧ (dst free s ls).2 < 2147483647
  | [], _, h1, h2 => ⟨h1, h2⟩
  | l :: ls, s, h1, h2 => by
    refine dst_bd free ls _ ?_ ?_
    · unfold dstep
      split
      · exact h1
      · exact (fmod_bd (by decide)).1
    · unfold dstep
      split
      · exact h2
      · exact (fmod_bd (by decide)).2
def absI (x : Int) : Int := if x < 0 then -x else x
def freeF (cell : Int) : Bool := decide (cell < 0) || decide (10 ^ 18 ≤ cell)
def drawsF (cell : Int) (ls : List Int) : List Int := drun (freeF cell) (absI cell, (absI cell).fmod 2147483647) ls
theorem drawsF_len (cell : Int) (ls : List Int) : (drawsF cell ls).length = ls.length := drun_len _ _ _
/-- the i-th draw -/
theorem drawsF_at (cell : Int) {ls : List Int} {i : Nat} {l : Int} (hp : ∀ l ∈ ls, 0 < l) (h : ls[i]? = some l) : ∃ x, (drawsF cell ls)[i]? = some x ∧ 0 ≤ x ∧ x < l := by
  have hi : i < (drawsF cell ls).length := by rw [drawsF_len]; exact (List.getElem?_eq_some_iff.mp h).1
  exact ⟨_, List.getElem?_eq_getElem hi, drun_bd _ _ _ _ _ _ hp (List.getElem?_eq_getElem hi) h⟩
def cellF (ns : List Int) (k : Int) : Int := if k < (ns.length : Int) then ns.getD k.toNat 0 else 0
theorem atI_int {α : Type} {xs : List α} {k : Int} {x : α} (h0 : 0 ≤ k) (h : xs[k.toNat]? = some x) : atI xs k = some x := by
  have hk := (List.getElem?_eq_some_iff.mp h).1
  unfold atI ixN
  rw [if_pos h0, if_pos (by omega)]
  exact h
theorem cell_at {ns : List Int} {k : Int} (h0 : 0 ≤ k) (h : k < (ns.length : Int)) : atI ns k = some (cellF ns k) := by
  refine atI_int h0 ?_
  unfold cellF
  rw [if_pos h, List.getD_eq_getElem?_getD, List.getElem?_eq_getElem (by omega)]
  rfl
theorem rgc_up {j c : Int} (h0 : 0 ≤ j) (h1 : j ≤ 1000000) (h2 : 0 < c) (h3 : c ≤ 1000000) : RgC 0 j c (Builtin.Range.rangeSize 0 j c).toNat := by
  have e : Builtin.Range.rangeSize 0 j c = if 0 < j then (j - 1) / c + 1 else 0 := by
    unfold Builtin.Range.rangeSize
    rw [if_pos h2]
    by_cases h : 0 < j
    · rw [if_pos h, if_pos h, Int.sub_zero]
    · rw [if_neg h, if_neg h]
  have hd : 0 ≤ (j - 1) / c ∨ j ≤ 0 := by
    by_cases h : 0 < j
    · exact .inl (Int.ediv_nonneg (by omega) (by omega))
    · exact .inr (by omega)
  have hd2 : 0 < j → (j - 1) / c ≤ j - 1 := fun h => Int.ediv_le_self _ (by omega)
  have hs : 0 ≤ Builtin.Range.rangeSize 0 j c ∧ Builtin.Range.rangeSize 0 j c ≤ 1000001 := by
    rw [e]; split <;> omega
  refine ⟨by omega, by omega, ?_, (Int.toNat_of_nonneg hs.1).symm⟩
  unfold Builtin.Range.small Builtin.Range.rangeFitsLong
  generalize Builtin.Range.rangeSize 0 j c = z at hs ⊢
  rw [if_pos h2]
  simp only [Bool.and_eq_true, Bool.or_eq_true, decide_eq_true_eq]
  exact ⟨⟨⟨⟨by omega, by omega⟩, by omega⟩, by omega⟩, .inr (by omega)⟩
theorem kit_tt : kitB "tuple" "tuple" = some true := by decide +kernel
theorem kit_ib : kitB "int" "bool" = some false := by decide +kernel
theorem kit_bb : kitB "bool" "bool" = some true := by decide +kernel
theorem kit_ll : kitB "list" "list" = some true := by decide +kernel
theorem bit1 (x : Int) : Builtin.bitAnd x 1 = x % 2 := PySem.W.kbt_mask x 1
/-- the sign that a law draws -/
def sgnF (x : Int) : Int := if x % 2 = 0 then 1 else -1
theorem sgn_at (x : Int) : atI [PyData.int 1, PyData.int (-1)] (Builtin.bitAnd x 1) = some (.int (sgnF x)) := by
  rw [bit1]
  unfold sgnF
  have h1 : x % 2 = 0 ∨ x % 2 = 1 := by omega
  rcases h1 with h | h
  · rw [h]; rfl
  · rw [h]; rfl
theorem atI_map {ns : List Int} {i : Nat} {x : Int} (h : ns[i]? = some x) : atI (ns.map PyData.int) (i : Int) = some (.int x) := by
  refine atI_int (by omega) ?_
  rw [Int.toNat_natCast, List.getElem?_map, h]
  rfl
theorem bt_range {n : Nat} {x : Int} (h0 : -(2 ^ n) < x) (h1 : x < 2 ^ n) : Bt n x := by
  have e : ((2 ^ n : Nat) : Int) = 2 ^ n := by norm_cast
  show x.natAbs < 2 ^ n
  omega
end MX

/-! Dicts that a body makes. -/
namespace DL
open PySem L2
variable {K : PySem.W.Frag} {E : XK} {env env' e1 e2 : EnvD}
def lkD (kvs : List (Key × D)) (k : Key) : Option D := (kvs.find? fun p => decide (p.1 = k)).map (·.2)
def putD (kvs : List (Key × D)) (k : Key) (d : D) : List (Key × D) := if (kvs.any fun p => decide (p.1 = k)) = true then kvs.map (fun p => if p.1 = k then (p.1, d) else p) else kvs ++ [(k, d)]
/-- values at the keys -/
inductive Kds (K : PySem.W.Frag) (G : Hp) : List (Key × V) → List (Key × D) → Prop
  | nil : Kds K G [] []
  | cons {k : Key} {v : V} {d : D} {a : List (Key × V)} {b : List (Key × D)} : Dd K G v d → Kds K G a b → Kds K G ((k, v) :: a) ((k, d) :: b)
theorem Kds.of {G : Hp} : ∀ {a : List (Key × V)} {b : List (Key × D)}, a.map (·.1) = b.map (·.1) → Dds K G (a.map (·.2)) (b.map (·.2)) → Kds K G a b
  | [], [], _, _ => .nil
  | (k, v) :: a, (k', d) :: b, hk, hd => by
    have e : k = k' := (List.cons.inj hk).1
    subst e
    cases hd with
    | cons h hs => exact .cons h (Kds.of (List.cons.inj hk).2 hs)
  | [], _ :: _, hk, _ => by cases hk
  | _ :: _, [], hk, _ => by cases hk
theorem Kds.keys {G : Hp} : ∀ {a : List (Key × V)} {b : List (Key × D)}, Kds K G a b → a.map (·.1) = b.map (·.1)
  | _, _, .nil => rfl
  | _, _, .cons _ h => by rw [List.map_cons, List.map_cons, h.keys]
theorem Kds.vals {G : Hp} : ∀ {a : List (Key × V)} {b : List (Key × D)}, Kds K G a b → Dds K G (a.map (·.2)) (b.map (·.2))
  | _, _, .nil => .nil
  | _, _, .cons h hs => .cons h hs.vals
theorem Kds.mono {G G' : Hp} (e : Same G G') : ∀ {a : List (Key × V)} {b : List (Key × D)}, Kds K G a b → Kds K G' a b
  | _, _, .nil => .nil
  | _, _, .cons h hs => .cons (h.mono e) (hs.mono e)
theorem Kds.lk {G : Hp} {k : Key} : ∀ {a : List (Key × V)} {b : List (Key × D)}, Kds K G a b → (valV a k = none ∧ lkD b k = none) ∨ ∃ v d, valV a k = some v ∧ lkD b k = some d ∧ Dd K G v d
  | _, _, .nil => .inl ⟨rfl, rfl⟩
  | _, _, .cons (k := j) (v := v) (d := d) h hs => by
    by_cases e : j = k
    · exact .inr ⟨v, d, by simp [valV, List.find?_cons, e], by simp [lkD, List.find?_cons, e], h⟩
    · rcases hs.lk (k := k) with ⟨a1, a2⟩ | ⟨v', d', a1, a2, a3⟩
      · exact .inl ⟨by unfold valV at *; rw [List.find?_cons_of_neg (by simpa using e)]; exact a1, by unfold lkD at *; rw [List.find?_cons_of_neg (by simpa using e)]; exact a2⟩
      · exact .inr ⟨v', d', by unfold valV at *; rw [List.find?_cons_of_neg (by simpa using e)]; exact a1, by unfold lkD at *; rw [List.find?_cons_of_neg (by simpa using e)]; exact a2, a3⟩
theorem Kds.any {G : Hp} {k : Key} : ∀ {a : List (Key × V)} {b : List (Key × D)}, Kds K G a b → (a.any fun p => decide (p.1 = k)) = (b.any fun p => decide (p.1 = k))
  | _, _, .nil => rfl
  | _, _, .cons _ hs => by rw [List.any_cons, List.any_cons, hs.any]
theorem Kds.upd {G : Hp} {k : Key} {v : V} {d : D} (hv : Dd K G v d) : ∀ {a : List (Key × V)} {b : List (Key × D)}, Kds K G a b → Kds K G (a.map fun p => if p.1 = k then (p.1, v) else p) (b.map fun p => if p.1 = k then (p.1, d) else p)
  | _, _, .nil => .nil
  | _, _, .cons (k := j) h hs => by
    rw [List.map_cons, List.map_cons]
    by_cases e : j = k
    · rw [if_pos e, if_pos e]; exact .cons hv (Kds.upd hv hs)
    · rw [if_neg e, if_neg e]; exact .cons h (Kds.upd hv hs)
theorem Kds.app {G : Hp} : ∀ {a a' : List (Key × V)} {b b' : List (Key × D)}, Kds K G a b → Kds K G a' b' → Kds K G (a ++ a') (b ++ b')
  | _, _, _, _, .nil, h => h
  | _, _, _, _, .cons h hs, h' => .cons h (hs.app h')
theorem Kds.put {G : Hp} {k : Key} {v : V} {d : D} {a : List (Key × V)} {b : List (Key × D)} (h : Kds K G a b) (hv : Dd K G v d) : Kds K G (putK a k v) (putD b k d) := by
  unfold putK putD
  rw [h.any]
  split
  · exact h.upd hv
  · exact h.app (.cons hv .nil)
theorem Kds.len {G : Hp} {a : List (Key × V)} {b : List (Key × D)} (h : Kds K G a b) : a.length = b.length := by
  have := congrArg List.length h.keys
  simpa using this
theorem Ok.dict {G0 H0 G H : Hp} {σ : L2.St} {i : Nat} {kvs : List (Key × D)} (ok : Ok K G0 H0 G H σ env) (h : env[i]? = some (.md kvs)) : ∃ l kv, σ[i]? = some (some (.ref l)) ∧ G l = none ∧ H l = some (.dK kv) ∧ Kds K G kv kvs := by
  obtain ⟨o, h1, l, kv, e, g, hl, hk, hd⟩ := ok.sl i _ h
  subst e
  exact ⟨l, kv, h1, g, hl, Kds.of hk hd⟩
theorem run_setD {i : Nat} : Run K E (tAsg tDNewK (gName i)) env (.nx (env.set i (.md []))) := fun G0 H0 G H σ D ok q p hp =>
  q G _ _ ((ok.go (Fw.hid ok.gh hp)).setMut i ⟨p, [], rfl, ok.gh.free hp, upd_same, rfl, .nil⟩ (ok.fw.hh.free hp) fun j t l hj hm hs e => (ok.mutAt hj hm hs).2 (by rw [e]; exact hp))
section
variable {ty tx tv : TE} {n : Int} {z d : D} {i : Nat} {kvs : List (Key × D)}
theorem ed_dget2 (h : env[i]? = some (.md kvs)) (hy : EvD K ty env (.int n)) (hx : EvD K tx env z) : EvD K (tDGet2 (tVar i) ty tx) env ((lkD kvs (.inl n)).getD z) := fun G0 H0 G H σ ok Q q => by
  obtain ⟨l, kv, h1, g, hl, hk⟩ := ok.dict h
  refine ⟨_, h1, l, rfl, .inl ⟨kv, .inl hl⟩, hy G0 H0 G H σ ok _ fun v G1 H1 a hv => hx G0 H0 G1 H1 σ (ok.go a) _ fun u G2 H2 a2 hu => ?_⟩
  refine ⟨valV kv (.inl n), by rw [hv.int_inv]; exact DGet.k (k := .inl n) ((a.trans a2).hh _ _ hl), ?_⟩
  rcases (hk.mono (a.trans a2).gg).lk (k := .inl n) with ⟨e1, e2⟩ | ⟨v', d', e1, e2, e3⟩
  · rw [e1]
    exact q u G2 H2 (a.trans a2) (by rw [e2]; exact hu)
  · rw [e1]
    exact q v' G2 H2 (a.trans a2) (by rw [e2]; exact e3)
theorem ed_dget (h : env[i]? = some (.md kvs)) (hy : EvD K ty env (.int n)) (hz : lkD kvs (.inl n) = some d) : EvD K (tDGet (tVar i) ty) env d := fun G0 H0 G H σ ok Q q => by
  obtain ⟨l, kv, h1, g, hl, hk⟩ := ok.dict h
  refine ⟨_, h1, hy G0 H0 G H σ ok _ fun v G1 H1 a hv => ?_⟩
  rcases (hk.mono a.gg).lk (k := .inl n) with ⟨e1, e2⟩ | ⟨v', d', e1, e2, e3⟩
  · rw [hz] at e2; cases e2
  · rw [hz] at e2; cases e2
    exact ⟨l, v', rfl, by rw [hv.int_inv, ← e1]; exact DGet.k (k := .inl n) (a.hh _ _ hl), q v' G1 H1 a e3⟩
theorem run_dput (h : env[i]? = some (.md kvs)) (hv : EvD K tv env d) (hy : EvD K ty env (.int n)) (hlen : kvs.length < 1000000) : Run K E (sDPut (tVar i) ty tv) env (.nx (env.set i (.md (putD kvs (.inl n) d)))) := fun G0 H0 G H σ D ok q => by
  obtain ⟨l, kv, h1, g, hl, hk⟩ := ok.dict h
  refine hv G0 H0 G H σ ok _ fun v G1 H1 a hv1 => ⟨_, h1, hy G0 H0 G1 H1 σ (ok.go a) _ fun u G2 H2 a2 hu => ⟨l, upd H2 l (.dK (putK kv (.inl n) v)), rfl, by rw [hu.int_inv]; exact DPut.k (k := .inl n) ((a.trans a2).hh _ _ hl) (by rw [hk.len, sizeLine_eq]; omega), ?_⟩⟩
  have ok2 := (ok.go a).go a2
  have g2 : G2 l = none := (a.trans a2).fr l (by rw [hl]; simp) g
  have hp := (hk.mono (a.trans a2).gg).put (k := .inl n) (hv1.mono a2.gg)
  exact q G2 _ σ (ok2.write h rfl h1 ⟨l, _, rfl, g2, upd_same, hp.keys, hp.vals⟩ rfl)
theorem en_sortedD {ks zs : List Int} (h : env[i]? = some (.md kvs)) (hk : kvs.map (·.1) = ks.map Sum.inl) (hl : ks.length < 64) (hz : ∀ ys : List Int, ys.Perm ks → ys.Pairwise (· ≤ ·) → ys = zs) :
    EvN K (tCB (fun xs H Q => ∃ (a : Addr) (kvs : List (Key × V)) (ks : List Int), xs = [.ref a] ∧ Rd H a (.dK kvs) ∧ kvs.map (·.1) = ks.map Sum.inl ∧ ks.length < 64 ∧ ∀ (ys : List Int) (p : Addr), ys.Perm ks → ys.Pairwise (· ≤ ·) → H p = none → Q (.ref p) (upd H p (.lst (ys.map V.int)))) (tCons (tVar i) tNil)) env (zs.map PyData.int) := fun G0 H0 G H σ ok Q q => by
  obtain ⟨l, kv, h1, g, hl0, hkd⟩ := ok.dict h
  refine ⟨_, h1, l, kv, ks, rfl, .inl hl0, hkd.keys.trans hk, hl, fun ys p hp hs hn => ?_⟩
  have e := hz ys hp hs
  subst e
  exact q p _ G _ (Fw.hid ok.gh hn) hn (ok.gh.free hn) upd_same (Dds.ints _)
end
end DL
namespace DL
open PySem L2
variable {K : PySem.W.Frag} {E : XK} {env : EnvD}
theorem lc_map {α : Type} {g : TG} {ts : List Nat} {tt : TT} {te : TE} (enc res : α → D) : ∀ {xs : List α}, (∀ x ∈ xs, ∃ em, EvG K g ts env (enc x) em ∧ EvT K tt em true ∧ EvD K te em (res x)) → Lc K g ts tt te env (xs.map enc) (xs.map res)
  | [], _ => .nil
  | x :: xs, h => by
    obtain ⟨em, h1, h2, h3⟩ := h x (List.mem_cons_self)
    exact .keep h1 h2 h3 (lc_map enc res fun y hy => h y (List.mem_cons_of_mem _ hy))
theorem lc_filter {α : Type} {g : TG} {ts : List Nat} {tt : TT} {te : TE} (enc : α → D) (res : α → Option D) : ∀ {xs : List α}, (∀ x ∈ xs, ∃ em, EvG K g ts env (enc x) em ∧ ((∃ z, res x = some z ∧ EvT K tt em true ∧ EvD K te em z) ∨ (res x = none ∧ EvT K tt em false))) → Lc K g ts tt te env (xs.map enc) (xs.filterMap res)
  | [], _ => .nil
  | x :: xs, h => by
    have ih := lc_filter (g := g) (ts := ts) (tt := tt) (te := te) enc res (xs := xs) fun y hy => h y (List.mem_cons_of_mem _ hy)
    obtain ⟨em, h1, h2⟩ := h x (List.mem_cons_self)
    rcases h2 with ⟨z, e, h3, h4⟩ | ⟨e, h3⟩
    · rw [List.map_cons, List.filterMap_cons_some e]; exact .keep h1 h3 h4 ih
    · rw [List.map_cons, List.filterMap_cons_none e]; exact .skip h1 h3 ih
theorem cutD_nat {xs : List D} {a b : Nat} (hb : b ≤ xs.length) (hab : a ≤ b) : cutD xs (some (a : Int)) (some (b : Int)) = (xs.drop a).take (b - a) := by
  unfold cutD
  rw [HT.sIx_nat, HT.sIx_nat, Nat.min_eq_left hb, Nat.min_eq_left (Nat.le_trans hab hb)]
end DL

/-! Spreads: the mathematics. -/
namespace MX
open PySem L2 DL
abbrev Spr := List (Int × Rat)
/-- the mean of f -/
def Ex (s : Spr) (f : Int → Rat) : Rat := (s.map fun p => p.2 * f p.1).sum
theorem ex_nil (f : Int → Rat) : Ex [] f = 0 := rfl
theorem ex_cons (p : Int × Rat) (s : Spr) (f : Int → Rat) : Ex (p :: s) f = p.2 * f p.1 + Ex s f := by unfold Ex; rw [List.map_cons, List.sum_cons]
theorem ex_app : ∀ (s t : Spr) (f : Int → Rat), Ex (s ++ t) f = Ex s f + Ex t f
  | [], t, f => by rw [List.nil_append, ex_nil]; grind
  | p :: s, t, f => by rw [List.cons_append, ex_cons, ex_cons, ex_app s t f]; grind
theorem ex_add : ∀ (s : Spr) (f g : Int → Rat), Ex s (fun x => f x + g x) = Ex s f + Ex s g
  | [], f, g => by rw [ex_nil, ex_nil, ex_nil]; grind
  | p :: s, f, g => by rw [ex_cons, ex_cons, ex_cons, ex_add s f g]; grind
theorem ex_mul : ∀ (s : Spr) (c : Rat) (f : Int → Rat), Ex s (fun x => c * f x) = c * Ex s f
  | [], c, f => by rw [ex_nil, ex_nil]; grind
  | p :: s, c, f => by rw [ex_cons, ex_cons, ex_mul s c f]; grind
theorem ex_zero : ∀ (s : Spr), Ex s (fun _ => 0) = 0
  | [] => rfl
  | p :: s => by rw [ex_cons, ex_zero s]; grind
theorem ex_congr {s : Spr} {f g : Int → Rat} (h : ∀ p ∈ s, f p.1 = g p.1) : Ex s f = Ex s g := by
  induction s with
  | nil => rfl
  | cons p s ih => rw [ex_cons, ex_cons, h p (List.mem_cons_self), ih fun q hq => h q (List.mem_cons_of_mem _ hq)]
theorem ex_perm {s t : Spr} (h : s.Perm t) (f : Int → Rat) : Ex s f = Ex t f := by
  induction h with
  | nil => rfl
  | cons x _ ih => rw [ex_cons, ex_cons, ih]
  | swap x y l => rw [ex_cons, ex_cons, ex_cons, ex_cons]; grind
  | trans _ _ h1 h2 => exact h1.trans h2
theorem ex_swap : ∀ (s t : Spr) (f : Int → Int → Rat), Ex s (fun x => Ex t (fun y => f x y)) = Ex t (fun y => Ex s (fun x => f x y))
  | [], t, f => by
    show (0 : Rat) = Ex t (fun y => 0)
    rw [ex_zero]
  | p :: s, t, f => by
    rw [ex_cons, ex_swap s t f]
    have e : (fun y => Ex (p :: s) (fun x => f x y)) = fun y => p.2 * f p.1 y + Ex s (fun x => f x y) := by funext y; rw [ex_cons]
    rw [e, ex_add, ex_mul]
/-- the weight of a value -/
def wt (s : Spr) (v : Int) : Rat := Ex s fun x => if x = v then 1 else 0
theorem wt_cons (p : Int × Rat) (s : Spr) (v : Int) : wt (p :: s) v = (if p.1 = v then p.2 else 0) + wt s v := by
  unfold wt
  rw [ex_cons]
  split <;> grind
theorem wt_app (s t : Spr) (v : Int) : wt (s ++ t) v = wt s v + wt t v := ex_app _ _ _
theorem wt_none {s : Spr} {v : Int} (h : v ∉ s.map (·.1)) : wt s v = 0 := by
  unfold wt
  rw [ex_congr (g := fun _ => 0) (fun p hp => if_neg fun z => h (List.mem_map.mpr ⟨p, hp, z⟩)), ex_zero]
/-! ### the dict of a gathering -/
def lkA (kvs : Spr) (k : Int) : Option Rat := (kvs.find? fun p => decide (p.1 = k)).map (·.2)
def putA (kvs : Spr) (k : Int) (v : Rat) : Spr := if (kvs.any fun p => decide (p.1 = k)) = true then kvs.map (fun p => if p.1 = k then (p.1, v) else p) else kvs ++ [(k, v)]
def stepA (kvs : Spr) (p : Int × Rat) : Spr := putA kvs p.1 ((lkA kvs p.1).getD 0 + p.2)
def acc (items : Spr) : Spr := items.foldl stepA []
theorem acc_snoc (items : Spr) (p : Int × Rat) : acc (items ++ [p]) = stepA (acc items) p := by unfold acc; rw [List.foldl_append]; rfl
theorem any_mem (kvs : Spr) (k : Int) : (kvs.any fun p => decide (p.1 = k)) = true ↔ k ∈ kvs.map (·.1) := by
  rw [List.any_eq_true]
  constructor
  · rintro ⟨p, hp, e⟩; exact List.mem_map.mpr ⟨p, hp, of_decide_eq_true e⟩
  · intro h; obtain ⟨p, hp, e⟩ := List.mem_map.mp h; exact ⟨p, hp, decide_eq_true e⟩
theorem upd_keys (kvs : Spr) (k : Int) (v : Rat) : (kvs.map fun p => if p.1 = k then (p.1, v) else p).map (·.1) = kvs.map (·.1) := by
  rw [List.map_map]
  refine List.map_congr_left fun p _ => ?_
  show (if p.1 = k then (p.1, v) else p).1 = p.1
  split <;> rfl
theorem put_keys (kvs : Spr) (k : Int) (v : Rat) : (putA kvs k v).map (·.1) = if k ∈ kvs.map (·.1) then kvs.map (·.1) else kvs.map (·.1) ++ [k] := by
  unfold putA
  by_cases h : (kvs.any fun p => decide (p.1 = k)) = true
  · rw [if_pos h, if_pos ((any_mem kvs k).mp h), upd_keys]
  · rw [if_neg h, if_neg (fun z => h ((any_mem kvs k).mpr z)), List.map_append]; rfl
theorem lk_mem {kvs : Spr} {k : Int} {v : Rat} (h : lkA kvs k = some v) : (k, v) ∈ kvs := by
  unfold lkA at h
  obtain ⟨p, hp, e⟩ := Option.map_eq_some_iff.mp h
  have h1 := List.find?_some hp
  have h2 := List.mem_of_find?_eq_some hp
  have : p.1 = k := of_decide_eq_true h1
  rw [← this, ← e]; exact h2
theorem lk_none {kvs : Spr} {k : Int} : lkA kvs k = none ↔ k ∉ kvs.map (·.1) := by
  unfold lkA
  rw [Option.map_eq_none_iff, List.find?_eq_none]
  constructor
  · intro h z; obtain ⟨p, hp, e⟩ := List.mem_map.mp z; exact h p hp (decide_eq_true e)
  · intro h p hp z; exact h (List.mem_map.mpr ⟨p, hp, of_decide_eq_true z⟩)
theorem lk_of {kvs : Spr} (hn : (kvs.map (·.1)).Nodup) {k : Int} {v : Rat} (h : (k, v) ∈ kvs) : lkA kvs k = some v := by
  induction kvs with
  | nil => cases h
  | cons p r ih =>
    rw [List.map_cons, List.nodup_cons] at hn
    unfold lkA
    by_cases e : p.1 = k
    · rw [List.find?_cons_of_pos (by simpa using e)]
      rcases List.mem_cons.mp h with z | z
      · rw [← z]; rfl
      · exact absurd (List.mem_map.mpr ⟨_, z, rfl⟩) (by rw [← e]; exact hn.1)
    · rw [List.find?_cons_of_neg (by simpa using e)]
      rcases List.mem_cons.mp h with z | z
      · exact absurd (by rw [← z]) e
      · exact ih hn.2 z
theorem put_nodup {kvs : Spr} (h : (kvs.map (·.1)).Nodup) (k : Int) (v : Rat) : ((putA kvs k v).map (·.1)).Nodup := by
  rw [put_keys]
  split
  · exact h
  · rename_i z
    rw [List.nodup_append]
    exact ⟨h, by simp, fun a ha b hb e => z (by rw [List.mem_singleton] at hb; rw [← hb, ← e]; exact ha)⟩
theorem put_ex {kvs : Spr} (h : (kvs.map (·.1)).Nodup) (k : Int) (c : Rat) (f : Int → Rat) : Ex (putA kvs k ((lkA kvs k).getD 0 + c)) f = Ex kvs f + c * f k := by
  unfold putA
  by_cases hk : (kvs.any fun p => decide (p.1 = k)) = true
  · rw [if_pos hk]
    obtain ⟨⟨k', v⟩, hp, e⟩ := List.mem_map.mp ((any_mem kvs k).mp hk)
    have e : k' = k := e
    subst e
    rw [lk_of h hp, Option.getD_some]
    clear hk
    induction kvs with
    | nil => cases hp
    | cons q r ih =>
      rw [List.map_cons, List.nodup_cons] at h
      rw [List.map_cons, ex_cons, ex_cons]
      rcases List.mem_cons.mp hp with z | z
      · subst z
        have er : r.map (fun p => if p.1 = k' then (p.1, v + c) else p) = r := by
          conv => rhs; rw [← List.map_id r]
          refine List.map_congr_left fun p hpr => ?_
          rw [if_neg fun z => h.1 (List.mem_map.mpr ⟨p, hpr, z⟩)]
          rfl
        rw [er, if_pos rfl]
        show (v + c) * f k' + Ex r f = v * f k' + Ex r f + c * f k'
        grind
      · have ne : ¬ q.1 = k' := fun e => h.1 (List.mem_map.mpr ⟨_, z, e.symm⟩)
        rw [if_neg ne, ih h.2 z]
        grind
  · rw [if_neg hk, ex_app, ex_cons, ex_nil]
    have : lkA kvs k = none := lk_none.mpr fun z => hk ((any_mem kvs k).mpr z)
    rw [this, Option.getD_none]
    show Ex kvs f + ((0 + c) * f k + 0) = Ex kvs f + c * f k
    grind
theorem foldA_nodup : ∀ (items kvs : Spr), (kvs.map (·.1)).Nodup → ((items.foldl stepA kvs).map (·.1)).Nodup
  | [], _, h => h
  | p :: items, kvs, h => foldA_nodup items _ (put_nodup h _ _)
theorem foldA_ex : ∀ (items kvs : Spr) (f : Int → Rat), (kvs.map (·.1)).Nodup → Ex (items.foldl stepA kvs) f = Ex kvs f + Ex items f
  | [], kvs, f, h => by rw [ex_nil]; show Ex kvs f = _; grind
  | p :: items, kvs, f, h => by
    show Ex (items.foldl stepA (stepA kvs p)) f = _
    rw [foldA_ex items (stepA kvs p) f (put_nodup h _ _)]
    unfold stepA
    rw [put_ex h, ex_cons]
    grind
theorem foldA_mem : ∀ (items kvs : Spr) (v : Int), v ∈ (items.foldl stepA kvs).map (·.1) ↔ v ∈ kvs.map (·.1) ∨ v ∈ items.map (·.1)
  | [], kvs, v => by simp
  | p :: items, kvs, v => by
    show v ∈ (items.foldl stepA (stepA kvs p)).map (·.1) ↔ _
    rw [foldA_mem items _ v]
    unfold stepA
    rw [put_keys, List.map_cons, List.mem_cons]
    split
    · rename_i h
      constructor
      · rintro (z | z)
        · exact .inl z
        · exact .inr (.inr z)
      · rintro (z | z | z)
        · exact .inl z
        · exact .inl (by rw [z]; exact h)
        · exact .inr z
    · rw [List.mem_append, List.mem_singleton]
      constructor
      · rintro ((z | z) | z)
        · exact .inl z
        · exact .inr (.inl z)
        · exact .inr (.inr z)
      · rintro (z | z | z)
        · exact .inl (.inl z)
        · exact .inl (.inr z)
        · exact .inr z
theorem acc_nodup (items : Spr) : ((acc items).map (·.1)).Nodup := foldA_nodup items [] (by simp)
theorem acc_ex (items : Spr) (f : Int → Rat) : Ex (acc items) f = Ex items f := by
  have h := foldA_ex items [] f (by simp)
  rw [ex_nil] at h
  show Ex (items.foldl stepA []) f = _
  grind
theorem acc_mem (items : Spr) (v : Int) : v ∈ (acc items).map (·.1) ↔ v ∈ items.map (·.1) := by
  have h := foldA_mem items [] v
  unfold acc
  simpa using h
theorem wt_nodup {kvs : Spr} (h : (kvs.map (·.1)).Nodup) {k : Int} {v : Rat} (hp : (k, v) ∈ kvs) : wt kvs k = v := by
  induction kvs with
  | nil => cases hp
  | cons q r ih =>
    rw [List.map_cons, List.nodup_cons] at h
    rw [wt_cons]
    rcases List.mem_cons.mp hp with z | z
    · subst z
      rw [if_pos rfl, wt_none h.1]; grind
    · rw [if_neg (fun e => h.1 (List.mem_map.mpr ⟨_, z, e.symm⟩)), ih h.2 z]; grind
theorem acc_lk {items : Spr} {v : Int} (h : v ∈ items.map (·.1)) : lkA (acc items) v = some (wt items v) := by
  obtain ⟨⟨k, c⟩, hp, e⟩ := List.mem_map.mp ((acc_mem items v).mpr h)
  have e : k = v := e
  subst e
  rw [lk_of (acc_nodup items) hp]
  have h1 := wt_nodup (acc_nodup items) hp
  unfold wt at h1
  rw [acc_ex] at h1
  exact congrArg some h1.symm
/-! ### sorted keys -/
theorem sorted_eq : ∀ {a b : List Int}, a.Pairwise (· < ·) → b.Pairwise (· < ·) → (∀ v, v ∈ a ↔ v ∈ b) → a = b
  | [], [], _, _, _ => rfl
  | [], y :: b, _, _, h => absurd ((h y).mpr (List.mem_cons_self)) (by simp)
  | x :: a, [], _, _, h => absurd ((h x).mp (List.mem_cons_self)) (by simp)
  | x :: a, y :: b, ha, hb, h => by
    rw [List.pairwise_cons] at ha hb
    have e : x = y := by
      rcases List.mem_cons.mp ((h x).mp List.mem_cons_self) with z | z
      · exact z
      · rcases List.mem_cons.mp ((h y).mpr List.mem_cons_self) with z2 | z2
        · exact z2.symm
        · have := ha.1 y z2; have := hb.1 x z; omega
    subst e
    rw [sorted_eq ha.2 hb.2 fun v => ?_]
    constructor
    · intro hv
      rcases List.mem_cons.mp ((h v).mp (List.mem_cons_of_mem _ hv)) with z | z
      · have := ha.1 v hv; omega
      · exact z
    · intro hv
      rcases List.mem_cons.mp ((h v).mpr (List.mem_cons_of_mem _ hv)) with z | z
      · have := hb.1 v hv; omega
      · exact z
def srt (l : List Int) : List Int := l.mergeSort (fun a b => decide (a ≤ b))
theorem srt_perm (l : List Int) : (srt l).Perm l := List.mergeSort_perm _ _
theorem srt_le (l : List Int) : (srt l).Pairwise (· ≤ ·) := by
  have h := List.pairwise_mergeSort (le := fun a b : Int => decide (a ≤ b)) (fun a b c h1 h2 => by simp at *; omega) (fun a b => by simp; omega) l
  exact h.imp fun h => of_decide_eq_true h
theorem lt_of_nodup {l : List Int} (h : l.Pairwise (· ≤ ·)) (hn : l.Nodup) : l.Pairwise (· < ·) := by
  have := h.and hn
  exact this.imp fun ⟨a, b⟩ => by omega
theorem srt_only {l ys : List Int} (hn : l.Nodup) (hp : ys.Perm l) (hs : ys.Pairwise (· ≤ ·)) : ys = srt l :=
  sorted_eq (lt_of_nodup hs (hp.nodup_iff.mpr hn)) (lt_of_nodup (srt_le l) ((srt_perm l).nodup_iff.mpr hn)) fun v => by rw [hp.mem_iff, (srt_perm l).mem_iff]
/-- what gathering gives -/
def gatF (items : Spr) : Spr := (srt ((acc items).map (·.1))).filterMap fun v => if wt items v = 0 then none else some (v, wt items v)
/-- in ascending order, nothing 0 -/
structure Can (s : Spr) : Prop where
  asc : (s.map (·.1)).Pairwise (· < ·)
  nz : ∀ p ∈ s, p.2 ≠ 0
theorem can_mem {s : Spr} (h : Can s) (v : Int) (c : Rat) : (v, c) ∈ s ↔ wt s v = c ∧ c ≠ 0 := by
  have hn : (s.map (·.1)).Nodup := h.asc.imp fun h => by omega
  constructor
  · intro hp; exact ⟨wt_nodup hn hp, h.nz _ hp⟩
  · rintro ⟨e, hc⟩
    by_cases hv : v ∈ s.map (·.1)
    · obtain ⟨⟨k, d⟩, hp, ek⟩ := List.mem_map.mp hv
      have ek : k = v := ek
      subst ek
      have := wt_nodup hn hp
      rw [← e, this]; exact hp
    · rw [wt_none hv] at e; exact absurd e.symm hc
theorem can_ext : ∀ {a b : Spr}, Can a → Can b → (∀ v, wt a v = wt b v) → a = b := by
  intro a b ha hb h
  have hm : ∀ v c, (v, c) ∈ a ↔ (v, c) ∈ b := fun v c => by rw [can_mem ha, can_mem hb, h]
  have hk : a.map (·.1) = b.map (·.1) := sorted_eq ha.asc hb.asc fun v => by
    constructor
    · intro z; obtain ⟨⟨k, c⟩, hp, e⟩ := List.mem_map.mp z; exact List.mem_map.mpr ⟨(k, c), (hm k c).mp hp, e⟩
    · intro z; obtain ⟨⟨k, c⟩, hp, e⟩ := List.mem_map.mp z; exact List.mem_map.mpr ⟨(k, c), (hm k c).mpr hp, e⟩
  have e : ∀ {s : Spr}, Can s → s = (s.map (·.1)).map fun v => (v, wt s v) := by
    intro s hs
    rw [List.map_map]
    conv => lhs; rw [← List.map_id s]
    refine List.map_congr_left fun p hp => ?_
    show p = (p.1, wt s p.1)
    have := ((can_mem hs p.1 p.2).mp hp).1
    rw [this]
  rw [e ha, e hb, hk]
  exact List.map_congr_left fun v _ => by rw [h v]
theorem gat_keys_lt (items : Spr) : (srt ((acc items).map (·.1))).Pairwise (· < ·) := lt_of_nodup (srt_le _) ((srt_perm _).nodup_iff.mpr (acc_nodup items))
theorem gat_can (items : Spr) : Can (gatF items) := by
  constructor
  · unfold gatF
    have h := gat_keys_lt items
    generalize srt ((acc items).map (·.1)) = l at h
    induction l with
    | nil => simp
    | cons v l ih =>
      rw [List.pairwise_cons] at h
      rw [List.filterMap_cons]
      by_cases e : wt items v = 0
      · rw [if_pos e]; exact ih h.2
      · rw [if_neg e, List.map_cons, List.pairwise_cons]
        refine ⟨fun u hu => ?_, ih h.2⟩
        obtain ⟨p, hp, rfl⟩ := List.mem_map.mp hu
        obtain ⟨x, hx, e2⟩ := List.mem_filterMap.mp hp
        split at e2
        · cases e2
        · cases e2; exact h.1 x hx
  · intro p hp
    obtain ⟨x, hx, e2⟩ := List.mem_filterMap.mp hp
    split at e2
    · cases e2
    · cases e2; assumption
theorem gat_wt (items : Spr) (v : Int) : wt (gatF items) v = wt items v := by
  by_cases e : wt items v = 0
  · have hn : v ∉ (gatF items).map (·.1) := fun z => by
      obtain ⟨p, hp, rfl⟩ := List.mem_map.mp z
      obtain ⟨x, hx, e2⟩ := List.mem_filterMap.mp hp
      split at e2
      · cases e2
      · cases e2; contradiction
    rw [wt_none hn, e]
  · have hv : v ∈ items.map (·.1) := by
      by_cases z : v ∈ items.map (·.1)
      · exact z
      · exact absurd (wt_none z) e
    have hs : v ∈ srt ((acc items).map (·.1)) := (srt_perm _).mem_iff.mpr ((acc_mem items v).mpr hv)
    have hp : (v, wt items v) ∈ gatF items := List.mem_filterMap.mpr ⟨v, hs, if_neg e⟩
    exact ((can_mem (gat_can items) _ _).mp hp).1
theorem gat_ext {a b : Spr} (h : ∀ v, wt a v = wt b v) : gatF a = gatF b := can_ext (gat_can a) (gat_can b) fun v => by rw [gat_wt, gat_wt, h]
theorem can_gat {s : Spr} (h : Can s) : gatF s = s := can_ext (gat_can s) h fun v => gat_wt s v
theorem ex_wt {a b : Spr} (h : ∀ f, Ex a f = Ex b f) : gatF a = gatF b := gat_ext fun v => h _
/-- the mean of f by the weights -/
theorem ex_keys {l : List Int} (hn : l.Nodup) (s : Spr) (hs : ∀ p ∈ s, p.1 ∈ l) (f : Int → Rat) : Ex s f = (l.map fun v => wt s v * f v).sum := by
  induction s with
  | nil =>
    rw [ex_nil]
    have : ∀ l : List Int, (l.map fun v => wt [] v * f v).sum = 0 := fun l => by
      induction l with
      | nil => rfl
      | cons v l ih => rw [List.map_cons, List.sum_cons, ih]; show (0 : Rat) * f v + 0 = 0; grind
    exact (this l).symm
  | cons p s ih =>
    rw [ex_cons, ih fun q hq => hs q (List.mem_cons_of_mem _ hq)]
    have key : ∀ (l : List Int), l.Nodup → (l.map fun v => wt (p :: s) v * f v).sum = (if p.1 ∈ l then p.2 * f p.1 else 0) + (l.map fun v => wt s v * f v).sum := by
      intro l hl
      induction l with
      | nil => rw [if_neg (by simp)]; show (0 : Rat) = 0 + 0; grind
      | cons v l ih2 =>
        rw [List.nodup_cons] at hl
        rw [List.map_cons, List.sum_cons, List.map_cons, List.sum_cons, ih2 hl.2, wt_cons]
        by_cases e : p.1 = v
        · subst e
          rw [if_pos rfl, if_pos (List.mem_cons_self), if_neg hl.1]; grind
        · rw [if_neg e]
          by_cases m : p.1 ∈ l
          · rw [if_pos m, if_pos (List.mem_cons_of_mem _ m)]; grind
          · rw [if_neg m, if_neg (by simp [e, m])]; grind
    rw [key l hn, if_pos (hs p (List.mem_cons_self))]
theorem ex_of_wt {a b : Spr} (h : ∀ v, wt a v = wt b v) (f : Int → Rat) : Ex a f = Ex b f := by
  have hn := acc_nodup (a ++ b)
  have hm : ∀ p, p ∈ a ∨ p ∈ b → p.1 ∈ (acc (a ++ b)).map (·.1) := fun p hp => (acc_mem _ _).mpr (by
    rw [List.map_append, List.mem_append]
    rcases hp with hp | hp
    · exact .inl (List.mem_map.mpr ⟨p, hp, rfl⟩)
    · exact .inr (List.mem_map.mpr ⟨p, hp, rfl⟩))
  rw [ex_keys hn a (fun p hp => hm p (.inl hp)), ex_keys hn b (fun p hp => hm p (.inr hp))]
  exact congrArg List.sum (List.map_congr_left fun v _ => by rw [h v])
theorem ex_gat (items : Spr) (f : Int → Rat) : Ex (gatF items) f = Ex items f := ex_of_wt (gat_wt items) f
end MX

/-! Spreads as data; sizes. -/
namespace MX
open PySem L2 DL
abbrev encI (p : Int × Rat) : PyData := .tuple [.int p.1, encQ p.2]
abbrev encS (s : Spr) : PyData := .list (s.map encI)
def encA (kvs : Spr) : List (Key × PyData) := kvs.map fun p => (Sum.inl p.1, encQ p.2)
theorem encA_keys (kvs : Spr) : (encA kvs).map (·.1) = (kvs.map (·.1)).map Sum.inl := by unfold encA; rw [List.map_map, List.map_map]; rfl
theorem encA_len (kvs : Spr) : (encA kvs).length = kvs.length := by unfold encA; rw [List.length_map]
theorem inl_dec (a b : Int) : decide ((Sum.inl a : Key) = Sum.inl b) = decide (a = b) := by
  by_cases h : a = b
  · subst h; simp
  · rw [decide_eq_false h, decide_eq_false (fun z => h (Sum.inl.inj z))]
theorem encA_lk (k : Int) : ∀ kvs : Spr, lkD (encA kvs) (.inl k) = (lkA kvs k).map encQ
  | [] => rfl
  | p :: r => by
    show lkD ((Sum.inl p.1, encQ p.2) :: encA r) (.inl k) = _
    have ih := encA_lk k r
    unfold lkD lkA at *
    by_cases e : p.1 = k
    · rw [List.find?_cons_of_pos (by simp [e]), List.find?_cons_of_pos (by simpa using e)]; rfl
    · rw [List.find?_cons_of_neg (by simpa using e), List.find?_cons_of_neg (by simpa using e)]; exact ih
theorem encA_any (k : Int) : ∀ kvs : Spr, ((encA kvs).any fun p => decide (p.1 = Sum.inl k)) = kvs.any fun p => decide (p.1 = k)
  | [] => rfl
  | p :: r => by
    show (((Sum.inl p.1, encQ p.2) :: encA r : List (Key × PyData)).any fun p => decide (p.1 = Sum.inl k)) = _
    rw [List.any_cons, List.any_cons, encA_any k r, inl_dec]
theorem encA_put (kvs : Spr) (k : Int) (r : Rat) : putD (encA kvs) (.inl k) (encQ r) = encA (putA kvs k r) := by
  unfold putD putA
  rw [encA_any]
  split
  · unfold encA
    rw [List.map_map, List.map_map]
    refine List.map_congr_left fun p _ => ?_
    show (if (Sum.inl p.1 : Key) = Sum.inl k then (Sum.inl p.1, encQ r) else (Sum.inl p.1, encQ p.2)) = (fun p : Int × Rat => ((Sum.inl p.1 : Key), encQ p.2)) (if p.1 = k then (p.1, r) else p)
    by_cases e : p.1 = k
    · rw [if_pos e, if_pos (by rw [e])]
    · rw [if_neg e, if_neg (fun z => e (Sum.inl.inj z))]
  · unfold encA; rw [List.map_append]; rfl
theorem acc_getD (items : Spr) (v : Int) : (lkA (acc items) v).getD 0 = wt items v := by
  by_cases h : v ∈ items.map (·.1)
  · rw [acc_lk h]; rfl
  · rw [lk_none.mpr (fun z => h ((acc_mem items v).mp z)), wt_none h]; rfl
theorem acc_len (items : Spr) : (acc items).length ≤ items.length := by
  have : ∀ (items kvs : Spr), (items.foldl stepA kvs).length ≤ kvs.length + items.length := by
    intro items
    induction items with
    | nil => intro kvs; simp
    | cons p r ih =>
      intro kvs
      have h := ih (stepA kvs p)
      have h2 : (stepA kvs p).length ≤ kvs.length + 1 := by
        unfold stepA putA
        split
        · rw [List.length_map]; omega
        · rw [List.length_append]; simp
      show (r.foldl stepA (stepA kvs p)).length ≤ _
      rw [List.length_cons]; omega
  have h := this items []
  unfold acc
  simpa using h
/-! ### comparing -/
theorem eqvQ (a b : Rat) : PyData.eqv (encQ a) (encQ b) = decide (a = b) := by
  have h1 : PyData.eqv (encQ a) (encQ b) = ((a.num == b.num) && ((a.den : Int) == b.den)) := by
    simp [PyData.eqv, PyData.eqvAll]
  rw [h1]
  by_cases h : a = b
  · subst h; simp
  · rw [decide_eq_false h]
    rw [Bool.and_eq_false_iff]
    by_cases hn : a.num = b.num
    · right
      simp only [beq_eq_false_iff_ne]
      intro z
      exact h (Rat.ext hn (by omega))
    · left
      simpa using hn
theorem shaped_Q (a : Rat) : SeqAt.shaped (encQ a) = true := rfl
theorem can_all {α : Type} (f : α → PyData) (h : ∀ x, (f x).canLay0 = true) : ∀ l : List α, PyData.canLayAll0 (l.map f) = true
  | [] => by simp [PyData.canLayAll0]
  | x :: l => by simp [PyData.canLayAll0, h x, can_all f h l]
theorem depth_all {α : Type} (f : α → PyData) (n : Nat) (h : ∀ x, (f x).depth ≤ n) : ∀ l : List α, PyData.depthAll (l.map f) ≤ n
  | [] => by simp [PyData.depthAll]
  | x :: l => by have := h x; have := depth_all f n h l; simp [PyData.depthAll]; omega
theorem shaped_S (s : Spr) : SeqAt.shaped (encS s) = true := by
  have h1 : PyData.canLayAll0 (s.map encI) = true := can_all encI (fun _ => rfl) s
  have h2 : PyData.depthAll (s.map encI) ≤ 2 := depth_all encI 2 (fun x => by simp [PyData.depth, PyData.depthAll]) s
  unfold SeqAt.shaped
  simp only [PyData.canLay0, PyData.depth, h1, Bool.true_and, decide_eq_true_eq]
  exact decide_eq_true (by omega)
/-! ### sizes of sums -/
/-- a numerator of at most b over N -/
def Sq (N b : Nat) (r : Rat) : Prop := ∃ k : Int, r = Rat.divInt k N ∧ k.natAbs ≤ b
theorem sq_zero {N : Nat} (b : Nat) : Sq N b 0 := ⟨0, by rw [Rat.zero_divInt], Nat.zero_le _⟩
theorem sq_mono {N b c : Nat} {r : Rat} (h : Sq N b r) (hb : b ≤ c) : Sq N c r := let ⟨k, h1, h2⟩ := h; ⟨k, h1, by omega⟩
theorem divInt_add {N : Int} (hN : N ≠ 0) (a b : Int) : Rat.divInt a N + Rat.divInt b N = Rat.divInt (a + b) N := by
  rw [Rat.divInt_eq_div, Rat.divInt_eq_div, Rat.divInt_eq_div, Rat.intCast_add]
  have : (N : Rat) ≠ 0 := fun z => hN (Rat.intCast_inj.mp z)
  grind
theorem sq_add {N b c : Nat} (hN : 0 < N) {r q : Rat} (h : Sq N b r) (h' : Sq N c q) : Sq N (b + c) (r + q) := by
  obtain ⟨k, e1, h1⟩ := h
  obtain ⟨j, e2, h2⟩ := h'
  exact ⟨k + j, by rw [e1, e2, divInt_add (by omega)], by have := Int.natAbs_add_le k j; omega⟩
theorem sq_neg {N b : Nat} {r : Rat} (h : Sq N b r) : Sq N b (-r) := by
  obtain ⟨k, e1, h1⟩ := h
  refine ⟨-k, ?_, by rw [Int.natAbs_neg]; exact h1⟩
  rw [e1, Rat.divInt_eq_div, Rat.divInt_eq_div, Rat.intCast_neg]
  grind
theorem sq_mul {N M b c : Nat} {r q : Rat} (h : Sq N b r) (h' : Sq M c q) : Sq (N * M) (b * c) (r * q) := by
  obtain ⟨k, e1, h1⟩ := h
  obtain ⟨j, e2, h2⟩ := h'
  refine ⟨k * j, ?_, by rw [Int.natAbs_mul]; exact Nat.mul_le_mul h1 h2⟩
  rw [e1, e2, Rat.divInt_mul_divInt]
  congr 1
theorem sq_lift {N b : Nat} (M : Nat) (hM : 0 < M) {r : Rat} (h : Sq N b r) : Sq (N * M) (b * M) r := by
  obtain ⟨k, e1, h1⟩ := h
  refine ⟨k * M, ?_, by rw [Int.natAbs_mul, Int.natAbs_natCast]; exact Nat.mul_le_mul_right _ h1⟩
  rw [e1, Rat.divInt_eq_div, Rat.divInt_eq_div, Rat.intCast_mul]
  show (k : Rat) / ((N : Int) : Rat) = (k : Rat) * ((M : Int) : Rat) / (((N * M : Nat) : Int) : Rat)
  rw [Int.natCast_mul, Rat.intCast_mul]
  have : ((M : Int) : Rat) ≠ 0 := fun z => (by have h0 : (M : Int) = 0 := Rat.intCast_inj.mp z; omega)
  by_cases hz : ((N : Int) : Rat) = 0
  · rw [hz]; grind
  · grind
theorem sq_qb {n N b : Nat} {r : Rat} (hN : 0 < N) (hn : N < 2 ^ n) (hb : b < 2 ^ n) (h : Sq N b r) : Qb n r := by
  obtain ⟨k, e, hk⟩ := h
  rw [e]
  exact qb_divInt (by omega) (Nat.lt_of_le_of_lt hk hb) (by show ((N : Int)).natAbs < 2 ^ n; rw [Int.natAbs_natCast]; exact hn)
/-- fractions whose sums stay small -/
structure Fin (N b n : Nat) : Prop where
  pos : 0 < N
  low : N < 2 ^ 3900
  top : (n + 1) * (b + 1) < 2 ^ 3900
def Fine (l : List Rat) : Prop := ∃ N b : Nat, Fin N b l.length ∧ ∀ r ∈ l, Sq N b r
theorem fin_qb {N b n m : Nat} {r : Rat} (f : Fin N b n) (hm : m ≤ n + 1) (h : Sq N (m * b) r) : Qb 4000 r := by
  have h1 : m * b < 2 ^ 3900 := Nat.lt_of_le_of_lt (Nat.mul_le_mul hm (Nat.le_succ b)) f.top
  exact (sq_qb (n := 3900) f.pos f.low h1 h).mono (by decide)
theorem sum_sq {N b : Nat} (hN : 0 < N) : ∀ {l : List Rat}, (∀ r ∈ l, Sq N b r) → Sq N (l.length * b) l.sum
  | [], _ => by rw [List.length_nil, Nat.zero_mul]; exact sq_zero 0
  | r :: l, h => by
    rw [List.sum_cons, List.length_cons, Nat.succ_mul, Nat.add_comm]
    exact sq_add hN (h r (List.mem_cons_self)) (sum_sq hN fun q hq => h q (List.mem_cons_of_mem _ hq))
theorem wt_sq {N b : Nat} (hN : 0 < N) : ∀ {s : Spr}, (∀ r ∈ s.map (·.2), Sq N b r) → ∀ v, Sq N (s.length * b) (wt s v)
  | [], _, v => by rw [List.length_nil, Nat.zero_mul]; exact sq_zero 0
  | p :: s, h, v => by
    rw [wt_cons, List.length_cons, Nat.succ_mul, Nat.add_comm]
    refine sq_add hN ?_ (wt_sq hN (fun q hq => h q (List.mem_cons_of_mem _ hq)) v)
    split
    · exact h _ (List.mem_cons_self)
    · exact sq_zero _
theorem fine_sum {l : List Rat} (h : Fine l) (i : Nat) : Qb 4000 (l.take i).sum := by
  obtain ⟨N, b, f, hs⟩ := h
  refine fin_qb f (m := (l.take i).length) ?_ (sum_sq f.pos fun r hr => hs r (List.mem_of_mem_take hr))
  rw [List.length_take]; omega
theorem fine_mem {l : List Rat} (h : Fine l) {r : Rat} (hr : r ∈ l) : Qb 4000 r := by
  obtain ⟨N, b, f, hs⟩ := h
  refine fin_qb f (m := 1) (by omega) (by rw [Nat.one_mul]; exact hs r hr)
theorem fine_wt {s : Spr} (h : Fine (s.map (·.2))) (i : Nat) (v : Int) : Qb 4000 (wt (s.take i) v) := by
  obtain ⟨N, b, f, hs⟩ := h
  refine fin_qb f (m := (s.take i).length) ?_ (wt_sq f.pos (fun r hr => hs r ?_) v)
  · rw [List.length_take, List.length_map]; omega
  · rw [List.map_take] at hr; exact List.mem_of_mem_take hr
end MX
namespace MX
open PySem L2 DL
theorem lk_split : ∀ {s : Spr} {v : Int} {c : Rat}, lkA s v = some c → ∃ i : Nat, s[i]? = some (v, c) ∧ ∀ (j : Nat) (p : Int × Rat), j < i → s[j]? = some p → p.1 ≠ v
  | [], _, _, h => by cases h
  | p :: s, v, c, h => by
    by_cases e : p.1 = v
    · have h2 : lkA (p :: s) v = some p.2 := by unfold lkA; rw [List.find?_cons_of_pos (by simpa using e)]; rfl
      rw [h2] at h
      refine ⟨0, ?_, fun j q hj => (by omega)⟩
      have hc : p.2 = c := Option.some.inj h
      rw [← e, ← hc]; rfl
    · have h2 : lkA (p :: s) v = lkA s v := by unfold lkA; rw [List.find?_cons_of_neg (by simpa using e)]
      rw [h2] at h
      obtain ⟨i, h3, h4⟩ := lk_split h
      refine ⟨i + 1, by simpa using h3, fun j q hj hq => ?_⟩
      cases j with
      | zero => simp at hq; rw [← hq]; exact e
      | succ j => exact h4 j q (by omega) (by simpa using hq)
/-- what is gathered is fine -/
structure Gd (s : Spr) : Prop where
  fine : Fine (s.map (·.2))
  len : s.length ≤ 10000
  few : (acc s).length < 64
theorem sum_ex (s : Spr) : (s.map fun p => (p.1 : Rat) * p.2).sum = Ex s fun x => (x : Rat) := by
  unfold Ex
  exact congrArg List.sum (List.map_congr_left fun p _ => by grind)
structure Mn (s : Spr) : Prop where
  fine : Fine (s.map fun p => (p.1 : Rat) * p.2)
  val : ∀ p ∈ s, Bt 4000 p.1 ∧ Qb 4000 p.2
  len : s.length ≤ 10000
theorem qb_int {n : Nat} {x : Int} (h : Bt n x) (hn : 0 < n) : Qb n (x : Rat) := ⟨h, Bt.one hn⟩
def shF (s : Spr) (k : Int) : Spr := s.map fun p => (p.1 + k, p.2)
/-- weights over their sum -/
def wtd (vs ws : List Int) : Spr := (List.range vs.length).map fun k => (vs.getD k 0, Rat.divInt (ws.getD k 0) ws.sum)
theorem wtd_len (vs ws : List Int) : (wtd vs ws).length = vs.length := by unfold wtd; rw [List.length_map, List.length_range]
structure Wd (vs ws : List Int) : Prop where
  len : vs.length = ws.length
  few : vs.length < 64
  ne : vs ≠ []
  pos : ∀ x ∈ ws, 1 ≤ x ∧ x ≤ 1000000000
theorem sum_bd : ∀ {ws : List Int}, (∀ x ∈ ws, 1 ≤ x ∧ x ≤ 1000000000) → (ws.length : Int) ≤ ws.sum ∧ ws.sum ≤ 1000000000 * (ws.length : Int)
  | [], _ => by simp
  | x :: ws, h => by
    have h1 := h x (List.mem_cons_self)
    have h2 := sum_bd (ws := ws) fun y hy => h y (List.mem_cons_of_mem _ hy)
    rw [List.sum_cons, List.length_cons]
    omega
theorem Wd.sum {vs ws : List Int} (h : Wd vs ws) : 1 ≤ ws.sum ∧ ws.sum < 2 ^ 40 := by
  have h1 := sum_bd h.pos
  have h2 := h.few
  have h3 : 0 < vs.length := List.length_pos_iff.mpr h.ne
  have h4 := h.len
  have : (2 : Int) ^ 40 = 1099511627776 := by decide
  omega
theorem sq_div {n W b : Nat} {k : Int} (h : k.natAbs ≤ b) : Sq W b (Rat.divInt k W) := ⟨k, rfl, h⟩
theorem wtd_fine {vs ws : List Int} (h : Wd vs ws) : Fine ((wtd vs ws).map (·.2)) := by
  obtain ⟨h1, h2⟩ := h.sum
  have e : ((ws.sum.toNat : Nat) : Int) = ws.sum := by omega
  refine ⟨ws.sum.toNat, 1000000000, ⟨by omega, ?_, ?_⟩, fun r hr => ?_⟩
  · have : (2 : Int) ^ 40 = 1099511627776 := by decide
    exact Nat.lt_of_lt_of_le (show ws.sum.toNat < 2 ^ 40 by omega) (Nat.pow_le_pow_right (by decide) (by decide))
  · rw [List.length_map, wtd_len]
    have := h.few
    have h3 : (vs.length + 1) * (1000000000 + 1) ≤ 64 * 1000000001 := Nat.mul_le_mul_right _ (by omega)
    exact Nat.lt_of_le_of_lt h3 (Nat.lt_of_lt_of_le (show 64 * 1000000001 < 2 ^ 40 by decide) (Nat.pow_le_pow_right (by decide) (by decide)))
  · obtain ⟨p, hp, rfl⟩ := List.mem_map.mp hr
    unfold wtd at hp
    obtain ⟨k, hk, rfl⟩ := List.mem_map.mp hp
    rw [List.mem_range, h.len] at hk
    refine ⟨ws.getD k 0, by rw [e], ?_⟩
    rw [List.getD_eq_getElem?_getD, List.getElem?_eq_getElem hk, Option.getD_some]
    have := h.pos _ (List.getElem_mem hk)
    omega
theorem wtd_gd {vs ws : List Int} (h : Wd vs ws) : Gd (wtd vs ws) := ⟨wtd_fine h, by rw [wtd_len]; have := h.few; omega, Nat.lt_of_le_of_lt (acc_len _) (by rw [wtd_len]; exact h.few)⟩
/-! ### the law's spreads -/
def sprLims (n : Nat) (width : Int) : List Int := (n : Int) :: (List.replicate n width ++ List.replicate n 9)
def sprSize (cell : Int) (n : Nat) (width : Int) : Nat := (1 + (drawsF cell (sprLims n width)).getD 0 0).toNat
def sprV (cell : Int) (n : Nat) (low width : Int) : List Int := (((drawsF cell (sprLims n width)).drop 1).take (sprSize cell n width)).map fun v => low + v
def sprW (cell : Int) (n : Nat) (width : Int) : List Int := (((drawsF cell (sprLims n width)).drop (1 + n)).take (sprSize cell n width)).map fun v => 1 + v
def sprF (cell : Int) (n : Nat) (low width : Int) : Spr := gatF (wtd (sprV cell n low width) (sprW cell n width))
structure SprOk (n : Nat) (width : Int) : Prop where
  n1 : 1 ≤ n
  n2 : n < 64
  w1 : 1 ≤ width
  w2 : width ≤ 1000000
theorem sprLims_ok {n : Nat} {width : Int} (h : SprOk n width) : (∀ l ∈ sprLims n width, 0 < l) ∧ (∀ l ∈ sprLims n width, Bt 30 l) ∧ (sprLims n width).length = 1 + 2 * n := by
  have key : ∀ l ∈ sprLims n width, 0 < l ∧ l ≤ 1000000 := by
    intro l hl
    have h1 := h.n1; have h2 := h.n2; have h3 := h.w1; have h4 := h.w2
    rcases List.mem_cons.mp hl with z | z
    · omega
    · rcases List.mem_append.mp z with z | z
      · rw [(List.mem_replicate.mp z).2]; omega
      · rw [(List.mem_replicate.mp z).2]; omega
  refine ⟨fun l hl => (key l hl).1, fun l hl => bt_range (by have := key l hl; omega) (by have := key l hl; omega), ?_⟩
  unfold sprLims
  rw [List.length_cons, List.length_append, List.length_replicate, List.length_replicate]
  omega
theorem spr_size {n : Nat} {width : Int} (h : SprOk n width) (cell : Int) : ∃ x : Int, (drawsF cell (sprLims n width))[0]? = some x ∧ 0 ≤ x ∧ x < n ∧ sprSize cell n width = (1 + x).toNat ∧ 1 ≤ sprSize cell n width ∧ sprSize cell n width ≤ n := by
  obtain ⟨x, h1, h2, h3⟩ := drawsF_at cell (ls := sprLims n width) (i := 0) (sprLims_ok h).1 rfl
  have e : sprSize cell n width = (1 + x).toNat := by unfold sprSize; rw [List.getD_eq_getElem?_getD, h1]; rfl
  refine ⟨x, h1, h2, h3, e, ?_, ?_⟩
  · rw [e]; omega
  · rw [e]; omega
theorem spr_len {n : Nat} {low width : Int} (h : SprOk n width) (cell : Int) : (sprV cell n low width).length = sprSize cell n width ∧ (sprW cell n width).length = sprSize cell n width := by
  obtain ⟨x, _, _, _, _, h1, h2⟩ := spr_size h cell
  have hl := (sprLims_ok h).2.2
  unfold sprV sprW
  rw [List.length_map, List.length_take, List.length_drop, drawsF_len, List.length_map, List.length_take, List.length_drop, drawsF_len, hl]
  omega
theorem spr_draw {n : Nat} {width : Int} (h : SprOk n width) (cell : Int) {i : Nat} {x : Int} (hx : (drawsF cell (sprLims n width))[i + 1]? = some x) : 0 ≤ x ∧ (i < n → x < width) ∧ (n ≤ i → x < 9) := by
  have hi := (List.getElem?_eq_some_iff.mp hx).1
  rw [drawsF_len] at hi
  have hl := (sprLims_ok h).2.2
  have hi2 := hi
  rw [hl] at hi2
  obtain ⟨l, hl2⟩ : ∃ l, (sprLims n width)[i + 1]? = some l := ⟨_, List.getElem?_eq_getElem hi⟩
  obtain ⟨y, h1, h2, h3⟩ := drawsF_at cell (ls := sprLims n width) (i := i + 1) (sprLims_ok h).1 hl2
  rw [hx] at h1
  cases h1
  have e : (List.replicate n width ++ List.replicate n 9)[i]? = some l := hl2
  refine ⟨h2, fun z => ?_, fun z => ?_⟩
  · rw [List.getElem?_append_left (by rw [List.length_replicate]; exact z), List.getElem?_replicate, if_pos z] at e
    cases e; exact h3
  · rw [List.getElem?_append_right (by rw [List.length_replicate]; exact z), List.getElem?_replicate, List.length_replicate, if_pos (by omega)] at e
    cases e; exact h3
theorem sprV_mem {n : Nat} {low width : Int} (h : SprOk n width) (cell : Int) {v : Int} (hv : v ∈ sprV cell n low width) : low ≤ v ∧ v < low + width := by
  unfold sprV at hv
  obtain ⟨x, hx, rfl⟩ := List.mem_map.mp hv
  obtain ⟨i, hi, e⟩ := List.mem_iff_getElem.mp hx
  have e2 := List.getElem?_eq_some_iff.mpr ⟨hi, e⟩
  obtain ⟨_, _, _, _, _, _, h2⟩ := spr_size h cell
  rw [List.length_take] at hi
  rw [List.getElem?_take_of_lt (by omega), List.getElem?_drop] at e2
  have := spr_draw h cell (i := i) (x := x) (by rw [Nat.add_comm]; exact e2)
  have h3 := this.2.1 (by omega)
  omega
theorem sprW_mem {n : Nat} {width : Int} (h : SprOk n width) (cell : Int) {v : Int} (hv : v ∈ sprW cell n width) : 1 ≤ v ∧ v ≤ 9 := by
  unfold sprW at hv
  obtain ⟨x, hx, rfl⟩ := List.mem_map.mp hv
  obtain ⟨i, hi, e⟩ := List.mem_iff_getElem.mp hx
  have e2 := List.getElem?_eq_some_iff.mpr ⟨hi, e⟩
  rw [List.length_take] at hi
  rw [List.getElem?_take_of_lt (by omega), List.getElem?_drop] at e2
  have := spr_draw h cell (i := n + i) (x := x) (by rw [show n + i + 1 = 1 + n + i by omega]; exact e2)
  have h3 := this.2.2 (by omega)
  omega
theorem spr_wd {n : Nat} {low width : Int} (h : SprOk n width) (cell : Int) : Wd (sprV cell n low width) (sprW cell n width) := by
  obtain ⟨h1, h2⟩ := spr_len (low := low) h cell
  obtain ⟨_, _, _, _, _, h3, h4⟩ := spr_size h cell
  refine ⟨by rw [h1, h2], by rw [h1]; have := h.n2; omega, fun z => by rw [z] at h1; simp at h1; omega, fun x hx => ?_⟩
  have := sprW_mem h cell hx
  omega
end MX

namespace DL
open PySem L2
abbrev rLenS (K : PySem.W.Frag) : List V → Hp → VK → Prop := fun xs H Q => ∃ p ys, xs = [.ref p] ∧ (SqL K H p ys ∨ SqT K H p ys) ∧ Q (.int ys.length) H
variable {K : PySem.W.Frag} {E : XK} {env : EnvD}
/-- f(..).append(x): the new list is dropped -/
theorem run_appendN {ta te : TE} {ds : List D} {d : D} (ha : EvN K ta env ds) (h : EvD K te env d) (hl : ds.length < 10000000) : Run K E (tDrop (tBM K "list" rAppend ta (tCons te tNil))) env (.nx env) := fun G0 H0 G H σ D ok q => by
  refine ha G0 H0 G H σ ok _ fun p xs G1 H1 a hp g1 h1 hd => ?_
  refine ⟨.inl ⟨rfl, xs, SqL.of h1⟩, h G0 H0 G1 H1 σ (ok.go a) _ fun v G2 H2 a2 hv => ⟨p, xs, v, rfl, rfl, a2.hh _ _ h1, ?_, ?_⟩⟩
  · rw [hd.len, sizeLine_eq]; omega
  · have g2 : G2 p = none := a2.fr p (by rw [h1]; simp) g1
    have aa := a.trans a2
    exact q G2 _ σ (ok.go ⟨aa.gg, same_upd2 aa.gh g2, fun b o e => by rw [upd_ne (ne_of_none e hp)]; exact aa.hh _ _ e, aa.fr⟩)
/-- what repr may be asked of -/
structure Shw (d : D) : Prop where
  can : d.showable = true
  nod : d.hasDict = false
  dep : d.depth ≤ 60
  len : d.shown.length ≤ sizeLine
  seq : (∃ ds, d = .list ds) ∨ ∃ ds, d = .tuple ds
theorem ed_repr {ta : TE} {d : D} (h : EvP K ta env d) (hs : Shw d) : EvD K (tCB (rRepr K) (tCons ta tNil)) env (.str d.shown) := fun G0 H0 G H σ ok Q q =>
  h G0 H0 G H σ ok _ fun v G1 H1 a hv => by
    have key : ∃ p, v = .ref p := by
      rcases hs.seq with ⟨ds, e⟩ | ⟨ds, e⟩
      · subst e; obtain ⟨p, xs, e, _⟩ := hv.lst_inv; exact ⟨p, e⟩
      · subst e; obtain ⟨p, xs, e, _⟩ := hv.tup_inv; exact ⟨p, e⟩
    obtain ⟨p, rfl⟩ := key
    exact ⟨p, d, rfl, hv.dp, hs.can, hs.nod, hs.dep, hs.len, q _ G1 H1 a (.str _)⟩
end DL
namespace MX
open PySem L2 DL
/-! ### spreads of small numbers -/
structure Ty (n : Nat) (s : Spr) : Prop where
  q : ∃ N b : Nat, 0 < N ∧ N < 2 ^ n ∧ b < 2 ^ n ∧ ∀ p ∈ s, Sq N b p.2
  v : ∀ p ∈ s, Bt n p.1
  len : s.length < 64
theorem pow_lt {n m : Nat} (h : n ≤ m) : 2 ^ n ≤ 2 ^ m := Nat.pow_le_pow_right (by decide) h
theorem few_lt {k b n m : Nat} (hk : k ≤ 64) (hb : b ≤ 2 ^ n) (h : n + 6 ≤ m) : k * b ≤ 2 ^ m := by
  have h1 : k * b ≤ 64 * 2 ^ n := Nat.mul_le_mul hk hb
  have h2 : 64 * 2 ^ n = 2 ^ (n + 6) := by rw [Nat.pow_add]; omega
  exact Nat.le_trans (by omega) (pow_lt h)
theorem Ty.mono {n m : Nat} {s : Spr} (h : Ty n s) (hm : n ≤ m) : Ty m s := by
  obtain ⟨⟨N, b, h1, h2, h3, h4⟩, h5, h6⟩ := h
  exact ⟨⟨N, b, h1, Nat.lt_of_lt_of_le h2 (pow_lt hm), Nat.lt_of_lt_of_le h3 (pow_lt hm), h4⟩, fun p hp => (h5 p hp).mono hm, h6⟩
theorem fin_of {N b n k m : Nat} (h1 : 0 < N) (h2 : N < 2 ^ n) (h3 : b < 2 ^ m) (hk : k < 64) (hn : n ≤ 3900) (hm : m ≤ 3890) : Fin N b k := by
  refine ⟨h1, Nat.lt_of_lt_of_le h2 (pow_lt hn), ?_⟩
  have := few_lt (k := k + 1) (b := b + 1) (n := m) (m := 3896) (by omega) h3 (by omega)
  exact Nat.lt_of_le_of_lt this (Nat.pow_lt_pow_right (by decide) (by decide))
theorem Ty.fine {n : Nat} {s : Spr} (h : Ty n s) (hn : n ≤ 3000) : Fine (s.map (·.2)) := by
  obtain ⟨⟨N, b, h1, h2, h3, h4⟩, h5, h6⟩ := h
  exact ⟨N, b, fin_of h1 h2 h3 (by rw [List.length_map]; exact h6) (by omega) (by omega), fun r hr => by obtain ⟨p, hp, rfl⟩ := List.mem_map.mp hr; exact h4 p hp⟩
theorem Ty.gd {n : Nat} {s : Spr} (h : Ty n s) (hn : n ≤ 3000) : Gd s := ⟨h.fine hn, by have := h.len; omega, Nat.lt_of_le_of_lt (acc_len _) h.len⟩
theorem Ty.qb {n : Nat} {s : Spr} (h : Ty n s) : ∀ p ∈ s, Qb n p.2 := fun p hp => by
  obtain ⟨⟨N, b, h1, h2, h3, h4⟩, h5, h6⟩ := h
  exact sq_qb h1 h2 h3 (h4 p hp)
theorem sq_intmul {N b n : Nat} {x : Int} {r : Rat} (hN : 0 < N) (hx : Bt n x) (h : Sq N b r) : Sq N (2 ^ n * b) ((x : Rat) * r) := by
  obtain ⟨k, e, hk⟩ := h
  refine ⟨x * k, ?_, ?_⟩
  · rw [e, Rat.divInt_eq_div, Rat.divInt_eq_div, Rat.intCast_mul]; grind
  · rw [Int.natAbs_mul]
    exact Nat.mul_le_mul (Nat.le_of_lt hx) hk
theorem Ty.sqx {n : Nat} {s : Spr} (h : Ty n s) : ∃ N b : Nat, 0 < N ∧ N < 2 ^ n ∧ b < 2 ^ (2 * n) ∧ ∀ r ∈ s.map (fun p => (p.1 : Rat) * p.2), Sq N b r := by
  obtain ⟨⟨N, b, h1, h2, h3, h4⟩, h5, h6⟩ := h
  refine ⟨N, 2 ^ n * b, h1, h2, ?_, fun r hr => ?_⟩
  · rw [show 2 * n = n + n by omega, Nat.pow_add]
    exact Nat.mul_lt_mul_of_le_of_lt (Nat.le_refl _) h3 (Nat.two_pow_pos n)
  · obtain ⟨p, hp, rfl⟩ := List.mem_map.mp hr
    exact sq_intmul h1 (h5 p hp) (h4 p hp)
theorem Ty.mn {n : Nat} {s : Spr} (h : Ty n s) (hn : n ≤ 1500) : Mn s := by
  obtain ⟨N, b, h1, h2, h3, h4⟩ := h.sqx
  exact ⟨⟨N, b, fin_of h1 h2 h3 (by rw [List.length_map]; exact h.len) (by omega) (by omega), h4⟩, fun p hp => ⟨(h.v p hp).mono (by omega), (h.qb p hp).mono (by omega)⟩, by have := h.len; omega⟩
theorem Ty.mean {n m : Nat} {s : Spr} (h : Ty n s) (hm : 2 * n + 7 ≤ m) : Qb m (Ex s fun x => (x : Rat)) := by
  obtain ⟨N, b, h1, h2, h3, h4⟩ := h.sqx
  rw [← sum_ex]
  have h5 := sum_sq h1 h4
  rw [List.length_map] at h5
  have h6 : s.length * b ≤ 2 ^ (2 * n + 6) := few_lt (by have := h.len; omega) (Nat.le_of_lt h3) (Nat.le_refl _)
  exact (sq_qb (n := 2 * n + 7) h1 (Nat.lt_of_lt_of_le h2 (pow_lt (by omega))) (Nat.lt_of_le_of_lt h6 (Nat.pow_lt_pow_right (by decide) (by omega))) h5).mono hm
theorem Ty.wts {n : Nat} {s : Spr} (h : Ty n s) : ∃ N b : Nat, 0 < N ∧ N < 2 ^ n ∧ b < 2 ^ (n + 6) ∧ ∀ v, Sq N b (wt s v) := by
  obtain ⟨⟨N, b, h1, h2, h3, h4⟩, h5, h6⟩ := h
  refine ⟨N, s.length * b, h1, h2, ?_, wt_sq h1 fun r hr => ?_⟩
  · have e : (2 : Nat) ^ (n + 6) = 64 * 2 ^ n := by rw [Nat.pow_add]; omega
    rw [e]
    exact Nat.lt_of_le_of_lt (Nat.mul_le_mul_left _ (Nat.le_of_lt h3)) (Nat.mul_lt_mul_of_pos_right h6 (Nat.two_pow_pos n))
  · obtain ⟨p, hp, rfl⟩ := List.mem_map.mp hr; exact h4 p hp
theorem Ty.wt {n m : Nat} {s : Spr} (h : Ty n s) (hm : n + 6 ≤ m) (v : Int) : Qb m (wt s v) := by
  obtain ⟨N, b, h1, h2, h3, h4⟩ := h.wts
  exact (sq_qb h1 (Nat.lt_of_lt_of_le h2 (pow_lt (by omega))) h3 (h4 v)).mono hm
theorem gat_mem {s : Spr} {p : Int × Rat} (h : p ∈ gatF s) : p.1 ∈ s.map (·.1) ∧ p.2 = wt s p.1 := by
  obtain ⟨x, hx, e2⟩ := List.mem_filterMap.mp h
  split at e2
  · cases e2
  · cases e2
    exact ⟨(acc_mem s x).mp ((srt_perm _).mem_iff.mp hx), rfl⟩
theorem gat_len (s : Spr) : (gatF s).length ≤ s.length := by
  unfold gatF
  refine Nat.le_trans (List.length_filterMap_le _ _) ?_
  rw [(srt_perm _).length_eq, List.length_map]
  exact acc_len s
theorem Ty.gat {n : Nat} {s : Spr} (h : Ty n s) : Ty (n + 6) (gatF s) := by
  obtain ⟨N, b, h1, h2, h3, h4⟩ := h.wts
  refine ⟨⟨N, b, h1, Nat.lt_of_lt_of_le h2 (pow_lt (by omega)), h3, fun p hp => by rw [(gat_mem hp).2]; exact h4 _⟩, fun p hp => ?_, Nat.lt_of_le_of_lt (gat_len s) h.len⟩
  obtain ⟨q, hq, e⟩ := List.mem_map.mp (gat_mem hp).1
  rw [← e]
  exact (h.v q hq).mono (by omega)
theorem Ty.sh {n : Nat} {s : Spr} (h : Ty n s) {k : Int} (hk : Bt n k) : Ty (n + 1) (shF s k) := by
  obtain ⟨⟨N, b, h1, h2, h3, h4⟩, h5, h6⟩ := h
  refine ⟨⟨N, b, h1, Nat.lt_of_lt_of_le h2 (pow_lt (by omega)), Nat.lt_of_lt_of_le h3 (pow_lt (by omega)), fun p hp => ?_⟩, fun p hp => ?_, by unfold shF; rw [List.length_map]; exact h6⟩
  · obtain ⟨q, hq, rfl⟩ := List.mem_map.mp hp; exact h4 q hq
  · obtain ⟨q, hq, rfl⟩ := List.mem_map.mp hp; exact (h5 q hq).add hk
theorem ty_wtd {vs ws : List Int} (h : Wd vs ws) (hv : ∀ v ∈ vs, Bt 40 v) : Ty 40 (wtd vs ws) := by
  obtain ⟨h1, h2⟩ := h.sum
  have e : ((ws.sum.toNat : Nat) : Int) = ws.sum := by omega
  have p40 : (2 : Int) ^ 40 = 1099511627776 := by decide
  refine ⟨⟨ws.sum.toNat, 1000000000, by omega, by show _ < 1099511627776; omega, by decide, fun p hp => ?_⟩, fun p hp => ?_, by rw [wtd_len]; exact h.few⟩
  · unfold wtd at hp
    obtain ⟨k, hk, rfl⟩ := List.mem_map.mp hp
    rw [List.mem_range, h.len] at hk
    refine ⟨ws.getD k 0, by rw [e], ?_⟩
    rw [List.getD_eq_getElem?_getD, List.getElem?_eq_getElem hk, Option.getD_some]
    have := h.pos _ (List.getElem_mem hk)
    omega
  · unfold wtd at hp
    obtain ⟨k, hk, rfl⟩ := List.mem_map.mp hp
    rw [List.mem_range] at hk
    show Bt 40 (vs.getD k 0)
    rw [List.getD_eq_getElem?_getD, List.getElem?_eq_getElem hk, Option.getD_some]
    exact hv _ (List.getElem_mem hk)
theorem ty_spr {n : Nat} {low width : Int} (h : SprOk n width) (hl : -1000000 ≤ low ∧ low ≤ 1000000) (cell : Int) : Ty 46 (sprF cell n low width) :=
  (ty_wtd (spr_wd h cell) fun v hv => by
    have h1 := sprV_mem h cell hv
    have := h.w2
    exact bt_range (by have : (2 : Int) ^ 40 = 1099511627776 := by decide
                       omega) (by have : (2 : Int) ^ 40 = 1099511627776 := by decide
                                  omega)).gat
/-! ### showing -/
theorem leaf_int {x : Int} (h : Bt 1900 x) : PyData.leavesShort 2000 (.int x) = true ∧ PyData.showable (.int x) = true := by
  have hl : x.natAbs.log2 < 1900 := PySem.Flt.log2_lt_of (by decide) h
  refine ⟨?_, ?_⟩
  · simp only [PyData.leavesShort, decide_eq_true_eq]
    have := int_text_length_le (a := x) (k := 1900) (by decide) hl
    show (Str.ofString (toString x)).length ≤ 2000
    rw [ofString_length]; omega
  · simp only [PyData.showable, decide_eq_true_eq]; omega
theorem shw_of {d : PyData} (h1 : d.leavesShort 2000 = true) (h2 : d.showable = true) (h3 : d.hasDict = false) (h4 : d.depth ≤ 60) (h5 : d.bulk ≤ 5000) (h6 : (∃ ds, d = .list ds) ∨ ∃ ds, d = .tuple ds) : Shw d := by
  refine ⟨h2, h3, h4, ?_, h6⟩
  have h := PyData.shown_le_bulk 2000 (by decide) d h1
  rw [sizeLine_eq]
  have : (2000 + 2) * d.bulk ≤ 2002 * 5000 := Nat.mul_le_mul_left _ h5
  omega
theorem shw_Q {r : Rat} (h : Qb 1900 r) : Shw (encQ r) := by
  obtain ⟨a1, a2⟩ := leaf_int h.num
  obtain ⟨b1, b2⟩ := leaf_int h.den
  exact shw_of (by simp only [PyData.leavesShort, PyData.leavesShortAll, Bool.and_true, Bool.and_eq_true] at *; exact ⟨a1, b1⟩) (by simp only [PyData.showable, PyData.showableAll, Bool.and_true, Bool.and_eq_true] at *; exact ⟨a2, b2⟩) (by simp [PyData.hasDict, PyData.hasDictAll]) (by simp [PyData.depth, PyData.depthAll]) (by simp [PyData.bulk, PyData.bulkAll]) (.inr ⟨_, rfl⟩)
theorem leaf_I {p : Int × Rat} (h1 : Bt 1900 p.1) (h2 : Qb 1900 p.2) : (encI p).leavesShort 2000 = true ∧ (encI p).showable = true := by
  obtain ⟨a1, a2⟩ := leaf_int h1
  obtain ⟨b1, b2⟩ := leaf_int h2.num
  obtain ⟨c1, c2⟩ := leaf_int h2.den
  exact ⟨by simp only [PyData.leavesShort, PyData.leavesShortAll, Bool.and_true, Bool.and_eq_true] at *; exact ⟨a1, b1, c1⟩, by simp only [PyData.showable, PyData.showableAll, Bool.and_true, Bool.and_eq_true] at *; exact ⟨a2, b2, c2⟩⟩
theorem shw_S {s : Spr} (h : ∀ p ∈ s, Bt 1900 p.1 ∧ Qb 1900 p.2) (hl : s.length ≤ 900) : Shw (encS s) := by
  have k1 : ∀ t : Spr, (∀ p ∈ t, Bt 1900 p.1 ∧ Qb 1900 p.2) → PyData.leavesShortAll 2000 (t.map encI) = true ∧ PyData.showableAll (t.map encI) = true ∧ PyData.hasDictAll (t.map encI) = false ∧ PyData.bulkAll (t.map encI) = 5 * t.length := by
    intro t
    induction t with
    | nil => intro _; simp [PyData.leavesShortAll, PyData.showableAll, PyData.hasDictAll, PyData.bulkAll]
    | cons p t ih =>
      intro h
      obtain ⟨i1, i2, i3, i4⟩ := ih fun q hq => h q (List.mem_cons_of_mem _ hq)
      obtain ⟨j1, j2⟩ := leaf_I (h p (List.mem_cons_self)).1 (h p (List.mem_cons_self)).2
      rw [List.map_cons]
      refine ⟨?_, ?_, ?_, ?_⟩
      · simp only [PyData.leavesShortAll, j1, i1, Bool.and_true]
      · simp only [PyData.showableAll, j2, i2, Bool.and_true]
      · simp [PyData.hasDictAll, PyData.hasDict, i3]
      · simp [PyData.bulkAll, PyData.bulk, i4]; omega
  obtain ⟨i1, i2, i3, i4⟩ := k1 s h
  refine shw_of (by simp only [PyData.leavesShort, i1]) (by simp only [PyData.showable, i2]) (by simp only [PyData.hasDict, i3]) ?_ (by simp only [PyData.bulk, i4]; omega) (.inl ⟨_, rfl⟩)
  have h2 : PyData.depthAll (s.map encI) ≤ 2 := depth_all encI 2 (fun x => by simp [PyData.depth, PyData.depthAll]) s
  simp only [PyData.depth]; omega
theorem Ty.shw {n : Nat} {s : Spr} (h : Ty n s) (hn : n ≤ 1900) : Shw (encS s) := shw_S (fun p hp => ⟨(h.v p hp).mono hn, (h.qb p hp).mono hn⟩) (by have := h.len; omega)
end MX

namespace DL
open PySem L2
variable {K : PySem.W.Frag} {E : XK} {env env' : EnvD}
theorem eg_lst {ts : List Nat} {n : Nat} {gs : TGs} {ds : List D} (h : EvGs K gs ts env ds env') (hn : ds.length = n) : EvG K (gLst K n gs) ts env (.list ds) env' := fun G0 H0 G H σ v Nx ok hv q => by
  obtain ⟨a, xs, e, hs, hd⟩ := hv.lst_inv
  subst e
  exact ⟨a, xs, rfl, SqL.of (ok.gh _ _ hs), by rw [hd.len]; exact hn, h G0 H0 G H σ xs Nx ok hd q⟩
def mn (i j : Int) : Int := if j < i then j else i
def mx (i j : Int) : Int := if j > i then j else i
def mx3 (a b c : Int) : Int := if (if a < b then b else a) < c then c else (if a < b then b else a)
theorem nuMax3_int (a b c : Int) : nuMax3 (.int a) (.int b) (.int c) = some (.int (mx3 a b c)) := by
  unfold nuMax3 nuMax2 nuLt nuCB mx3
  simp only [Option.map_some, Option.bind_some, decide_eq_true_eq]
  by_cases h : a < b
  · simp only [if_pos h]
    by_cases h2 : b < c
    · simp [h2]
    · simp [h2]
  · simp only [if_neg h]
    by_cases h2 : a < c
    · simp [h2]
    · simp [h2]
theorem ed_max3 {ta tb tc : TE} {i j k : Int} (h : EvD K ta env (.int i)) (h' : EvD K tb env (.int j)) (h'' : EvD K tc env (.int k)) : EvD K (tCB (rNuC3 nuMax3) (tCons ta (tCons tb (tCons tc tNil)))) env (.int (mx3 i j k)) := fun G0 H0 G H σ ok Q q =>
  ea_d h (ea_d h' (ea_d h'' ea_nil)) G0 H0 G H σ ok _ fun vs G1 H1 a hv => by
    obtain ⟨_, ⟨v, e1, d1⟩, _, ⟨u, e2, d2⟩, _, ⟨w, e3, d3⟩, ev⟩ : ∃ v1, (∃ v, v1 = v ∧ Dd K G1 v (.int i)) ∧ ∃ v2, (∃ v, v2 = v ∧ Dd K G1 v (.int j)) ∧ ∃ v3, (∃ v, v3 = v ∧ Dd K G1 v (.int k)) ∧ vs = [v1, v2, v3] := by
      cases hv with
      | cons m s r =>
        cases r with
        | cons m2 s2 r2 =>
          cases r2 with
          | cons m3 s3 r3 =>
            cases r3
            obtain ⟨v, e, d⟩ := s
            obtain ⟨v2, e2, d2⟩ := s2
            obtain ⟨v3, e3, d3⟩ := s3
            cases e; cases e2; cases e3
            exact ⟨_, ⟨_, rfl, d⟩, _, ⟨_, rfl, d2⟩, _, ⟨_, rfl, d3⟩, rfl⟩
    subst e1 e2 e3
    rw [d1.int_inv, d2.int_inv, d3.int_inv] at ev
    exact ⟨_, _, _, _, ev, nuMax3_int i j k, q _ G1 H1 a (.int _)⟩
theorem ed_int1b {ta : TE} {b : Bool} (h : EvD K ta env (.bool b)) : EvD K (tCB (fun xs H Q => (∃ i, xs = [.int i] ∧ Q (.int i) H) ∨ ∃ k, xs = [.bl k] ∧ Q (.int (if k then 1 else 0)) H) (tCons ta tNil)) env (.int (if b then 1 else 0)) :=
  ed_CB (ea_d h ea_nil) fun vs G H _ hv Q q => by
    obtain ⟨v, rfl, hd⟩ := args1 hv
    rw [hd.bl_inv]
    exact .inr ⟨b, rfl, q _ (.int _)⟩
theorem ed_reprI {ta : TE} {i : Int} (h : EvD K ta env (.int i)) (hi : MX.Bt 1900 i) : EvD K (tCB (fun xs H Q => ∃ i, xs = [.int i] ∧ i.natAbs.log2 < 1920 ∧ Q (.str (toString i)) H) (tCons ta tNil)) env (.str (toString i)) :=
  ed_CB (ea_d h ea_nil) fun vs G H _ hv Q q => by
    obtain ⟨v, rfl, hd⟩ := args1 hv
    rw [hd.int_inv]
    exact ⟨i, rfl, PySem.Flt.log2_lt_of (by decide) (hi.mono (by decide)), q _ (.str _)⟩
end DL
namespace MX
open PySem L2 DL
/-! ### treaties -/
inductive Lay
  | share (r : Rat)
  | limit (c : Int)
  | band (b c : Int)
def encL : Lay → PyData
  | .share r => .tuple [.str "share", encQ r]
  | .limit c => .tuple [.str "limit", .int c]
  | .band b c => .tuple [.str "band", .int b, .int c]
def layF : Lay → Int → Int
  | .share r, x => -((-x * r.num).fdiv r.den)
  | .limit c, x => mn x c
  | .band b c, x => x - (mn x c - mn x b)
def LayOk : Lay → Prop
  | .share r => 0 ≤ r.num ∧ r.num ≤ r.den ∧ Qb 60 r
  | .limit c => 0 ≤ c ∧ c ≤ 1000000
  | .band b c => 0 ≤ b ∧ b ≤ c ∧ c ≤ 1000000
theorem layF_bd {l : Lay} (h : LayOk l) {x : Int} (hx : 0 ≤ x) : 0 ≤ layF l x ∧ layF l x ≤ x := by
  cases l with
  | share r =>
    obtain ⟨h1, h2, _⟩ := h
    have hd : 0 < (r.den : Int) := by have := r.den_nz; omega
    have m1 : 0 ≤ x * r.num := Int.mul_nonneg hx h1
    have m2 : x * r.num ≤ x * r.den := Int.mul_le_mul_of_nonneg_left h2 hx
    show 0 ≤ -((-x * r.num).fdiv r.den) ∧ -((-x * r.num).fdiv r.den) ≤ x
    rw [Int.fdiv_eq_ediv_of_nonneg _ (by omega), Int.neg_mul]
    have a1 : -(x * r.num) / (r.den : Int) ≤ 0 := by
      have := Int.ediv_le_ediv hd (show -(x * r.num) ≤ 0 by omega)
      rw [Int.zero_ediv] at this
      exact this
    have a2 : -x ≤ -(x * r.num) / (r.den : Int) := by
      rw [Int.le_ediv_iff_mul_le hd, Int.neg_mul]; omega
    omega
  | limit c =>
    obtain ⟨h1, h2⟩ := h
    show 0 ≤ mn x c ∧ mn x c ≤ x
    unfold mn; split <;> omega
  | band b c =>
    obtain ⟨h1, h2, h3⟩ := h
    show 0 ≤ x - (mn x c - mn x b) ∧ x - (mn x c - mn x b) ≤ x
    unfold mn; split <;> split <;> omega
def remF (ls : List Lay) (x : Int) : Int := ls.foldl (fun x l => layF l x) x
theorem remF_snoc {ls : List Lay} {i : Nat} (hi : i < ls.length) (x : Int) : remF (ls.take (i + 1)) x = layF ls[i] (remF (ls.take i) x) := by
  unfold remF
  rw [List.take_add_one, List.getElem?_eq_getElem hi, Option.toList_some, List.foldl_append]; rfl
theorem remF_bd : ∀ {ls : List Lay}, (∀ l ∈ ls, LayOk l) → ∀ {x : Int}, 0 ≤ x → 0 ≤ remF ls x ∧ remF ls x ≤ x
  | [], _, x, hx => ⟨hx, Int.le_refl _⟩
  | l :: ls, h, x, hx => by
    have h1 := layF_bd (h l (List.mem_cons_self)) hx
    have h2 := remF_bd (ls := ls) (fun m hm => h m (List.mem_cons_of_mem _ hm)) h1.1
    show 0 ≤ remF ls (layF l x) ∧ remF ls (layF l x) ≤ x
    omega
structure Tr where
  prem : Int
  ls : List Lay
abbrev encT (t : Tr) : PyData := .tuple [.int t.prem, .list (t.ls.map encL)]
structure TrOk (t : Tr) : Prop where
  ok : ∀ l ∈ t.ls, LayOk l
  few : t.ls.length ≤ 10
  prem : Bt 60 t.prem
theorem TrOk.take {t : Tr} (h : TrOk t) (i : Nat) : ∀ l ∈ t.ls.take i, LayOk l := fun l hl => h.ok l (List.mem_of_mem_take hl)
theorem bt_le {n : Nat} {x y : Int} (h : Bt n x) (h0 : 0 ≤ y) (hy : y ≤ x) : Bt n y := Nat.lt_of_le_of_lt (show y.natAbs ≤ x.natAbs by omega) h
def mapT (t : Tr) (s : Spr) : Spr := s.map fun p => (remF t.ls p.1, p.2)
theorem ty_mapT {n : Nat} {s : Spr} {t : Tr} (h : Ty n s) (h0 : ∀ p ∈ s, 0 ≤ p.1) (ht : TrOk t) : Ty n (mapT t s) := by
  obtain ⟨⟨N, b, h1, h2, h3, h4⟩, h5, h6⟩ := h
  refine ⟨⟨N, b, h1, h2, h3, fun p hp => ?_⟩, fun p hp => ?_, by unfold mapT; rw [List.length_map]; exact h6⟩
  · obtain ⟨q, hq, rfl⟩ := List.mem_map.mp hp; exact h4 q hq
  · obtain ⟨q, hq, rfl⟩ := List.mem_map.mp hp
    have := remF_bd ht.ok (h0 q hq)
    exact bt_le (h5 q hq) this.1 this.2
theorem mapT_nil (m : Int) (s : Spr) : mapT ⟨m, []⟩ s = s := by
  unfold mapT
  conv => rhs; rw [← List.map_id s]
  exact List.map_congr_left fun p _ => rfl
theorem leaf_L {l : Lay} (h : LayOk l) : (encL l).leavesShort 2000 = true ∧ (encL l).showable = true ∧ (encL l).hasDict = false ∧ (encL l).depth ≤ 2 ∧ (encL l).bulk ≤ 12 := by
  have big : ∀ {x : Int}, 0 ≤ x → x ≤ 1000000 → Bt 1900 x := fun h0 h1 => Bt.mono (n := 30) (bt_range (by omega) (by omega)) (by decide)
  have ls : ∀ x : Str, (x.cps.toList.all fun c => decide (c < 16 ^ 8)) = true → PyData.leavesShort 2000 (.str x) = true := fun x h => by simpa only [PyData.leavesShort] using h
  cases l with
  | share r =>
    obtain ⟨_, _, hq⟩ := h
    obtain ⟨a1, a2⟩ := leaf_int (hq.num.mono (by decide : 60 ≤ 1900))
    obtain ⟨b1, b2⟩ := leaf_int (hq.den.mono (by decide : 60 ≤ 1900))
    have s1 := ls "share" (by decide +kernel)
    refine ⟨?_, ?_, ?_, ?_, ?_⟩
    · show PyData.leavesShort 2000 (.tuple [.str "share", .tuple [.int r.num, .int (r.den : Int)]]) = true
      simp only [PyData.leavesShort, PyData.leavesShortAll, Bool.and_true, Bool.and_eq_true] at a1 b1 s1 ⊢
      exact ⟨s1, a1, b1⟩
    · show PyData.showable (.tuple [.str "share", .tuple [.int r.num, .int (r.den : Int)]]) = true
      simp only [PyData.showable, PyData.showableAll, Bool.and_true, Bool.true_and, Bool.and_eq_true] at a2 b2 ⊢
      exact ⟨a2, b2⟩
    · simp [encL, PyData.hasDict, PyData.hasDictAll]
    · simp [encL, PyData.depth, PyData.depthAll]
    · simp only [encL, PyData.bulk, PyData.bulkAll]
      have : (Str.ofString "share").cps.size = 5 := by decide +kernel
      omega
  | limit c =>
    obtain ⟨a1, a2⟩ := leaf_int (big h.1 h.2)
    have s1 := ls "limit" (by decide +kernel)
    refine ⟨?_, ?_, ?_, ?_, ?_⟩
    · show PyData.leavesShort 2000 (.tuple [.str "limit", .int c]) = true
      rw [PyData.leavesShort, PyData.leavesShortAll, s1, PyData.leavesShortAll, a1]; rfl
    · show PyData.showable (.tuple [.str "limit", .int c]) = true
      rw [PyData.showable, PyData.showableAll, PyData.showable, PyData.showableAll, a2]; rfl
    · simp [encL, PyData.hasDict, PyData.hasDictAll]
    · simp [encL, PyData.depth, PyData.depthAll]
    · simp only [encL, PyData.bulk, PyData.bulkAll]
      have : (Str.ofString "limit").cps.size = 5 := by decide +kernel
      omega
  | band b c =>
    obtain ⟨h1, h2, h3⟩ := h
    obtain ⟨a1, a2⟩ := leaf_int (big h1 (by omega))
    obtain ⟨b1, b2⟩ := leaf_int (big (by omega : 0 ≤ c) h3)
    have s1 := ls "band" (by decide +kernel)
    refine ⟨?_, ?_, ?_, ?_, ?_⟩
    · show PyData.leavesShort 2000 (.tuple [.str "band", .int b, .int c]) = true
      rw [PyData.leavesShort, PyData.leavesShortAll, s1, PyData.leavesShortAll, a1, PyData.leavesShortAll, b1]; rfl
    · show PyData.showable (.tuple [.str "band", .int b, .int c]) = true
      rw [PyData.showable, PyData.showableAll, PyData.showable, PyData.showableAll, a2, PyData.showableAll, b2]; rfl
    · simp [encL, PyData.hasDict, PyData.hasDictAll]
    · simp [encL, PyData.depth, PyData.depthAll]
    · simp only [encL, PyData.bulk, PyData.bulkAll]
      have : (Str.ofString "band").cps.size = 4 := by decide +kernel
      omega
theorem shw_T {t : Tr} (h : TrOk t) : Shw (encT t) := by
  have k1 : ∀ ls : List Lay, (∀ l ∈ ls, LayOk l) → PyData.leavesShortAll 2000 (ls.map encL) = true ∧ PyData.showableAll (ls.map encL) = true ∧ PyData.hasDictAll (ls.map encL) = false ∧ PyData.depthAll (ls.map encL) ≤ 2 ∧ PyData.bulkAll (ls.map encL) ≤ 13 * ls.length := by
    intro t
    induction t with
    | nil => intro _; simp [PyData.leavesShortAll, PyData.showableAll, PyData.hasDictAll, PyData.bulkAll, PyData.depthAll]
    | cons p t ih =>
      intro h
      obtain ⟨i1, i2, i3, i4, i5⟩ := ih fun q hq => h q (List.mem_cons_of_mem _ hq)
      obtain ⟨j1, j2, j3, j4, j5⟩ := leaf_L (h p (List.mem_cons_self))
      rw [List.map_cons]
      refine ⟨?_, ?_, ?_, ?_, ?_⟩
      · simp only [PyData.leavesShortAll, j1, i1, Bool.and_true]
      · simp only [PyData.showableAll, j2, i2, Bool.and_true]
      · simp only [PyData.hasDictAll, j3, i3, Bool.or_false]
      · simp only [PyData.depthAll]; omega
      · simp only [PyData.bulkAll, List.length_cons]; omega
  obtain ⟨i1, i2, i3, i4, i5⟩ := k1 t.ls h.ok
  obtain ⟨a1, a2⟩ := leaf_int (h.prem.mono (by decide : 60 ≤ 1900))
  have := h.few
  refine shw_of ?_ ?_ ?_ ?_ ?_ (.inr ⟨_, rfl⟩)
  · rw [PyData.leavesShort, PyData.leavesShortAll, a1, PyData.leavesShortAll, PyData.leavesShort, i1]; rfl
  · rw [PyData.showable, PyData.showableAll, a2, PyData.showableAll, PyData.showable, i2]; rfl
  · simp only [PyData.hasDict, PyData.hasDictAll, i3, Bool.or_false]
  · simp only [PyData.depth, PyData.depthAll]; omega
  · simp only [PyData.bulk, PyData.bulkAll]; omega
/-! ### the law's treaties -/
def layP (p0 p1 p2 p3 p4 p5 p6 p7 : Int) : Lay :=
  if p0 = 0 then .share (Rat.divInt (mn (if p5 = 1 then 1 + p6 else if p5 = 0 then p6 else p1) (if p5 = 1 then 1001 + p6 + 1000 * p7 else if p5 = 0 then p7 else p2)) (mx3 1 (if p5 = 1 then 1 + p6 else if p5 = 0 then p6 else p1) (if p5 = 1 then 1001 + p6 + 1000 * p7 else if p5 = 0 then p7 else p2)))
  else if p0 = 1 then .limit (if (if p5 = 0 then p7 else p4).fmod 13 = 5 then 1000 else (if p5 = 0 then p6 else p3))
  else .band (mn (if p5 = 0 then p6 else p3) (if p5 = 0 then p7 else p4)) (mx (if p5 = 0 then p6 else p3) (if p5 = 0 then p7 else p4))
theorem share_ok {t l : Int} (h0 : 0 ≤ t) (h1 : t ≤ l) (h2 : 1 ≤ l) (h3 : l ≤ 100000000) : LayOk (.share (Rat.divInt t l)) := by
  obtain ⟨e1, e2⟩ := divInt_parts (t := t) (l := l) (by omega)
  have g : 0 < sgcd t l := by
    unfold sgcd; rw [if_neg (by omega)]
    have := gcd_pos (t := t) (l := l) (by omega); omega
  refine ⟨?_, ?_, qb_divInt (by omega) (Bt.mono (n := 30) (bt_range (by omega) (by omega)) (by decide)) (Bt.mono (n := 30) (bt_range (by omega) (by omega)) (by decide))⟩
  · rw [e1, Int.fdiv_eq_ediv_of_nonneg _ (by omega)]; exact Int.ediv_nonneg h0 (by omega)
  · rw [e1, e2, Int.fdiv_eq_ediv_of_nonneg _ (by omega), Int.fdiv_eq_ediv_of_nonneg _ (by omega)]; exact Int.ediv_le_ediv g h1
structure PB (p0 p1 p2 p3 p4 p5 p6 p7 : Int) : Prop where
  b0 : 0 ≤ p0 ∧ p0 < 3
  b1 : 0 ≤ p1 ∧ p1 < 5
  b2 : 0 ≤ p2 ∧ p2 < 6
  b3 : 0 ≤ p3 ∧ p3 < 40
  b4 : 0 ≤ p4 ∧ p4 < 40
  b5 : 0 ≤ p5 ∧ p5 < 4
  b6 : 0 ≤ p6 ∧ p6 < 1001
  b7 : 0 ≤ p7 ∧ p7 < 1001
theorem tb_bd {p0 p1 p2 p3 p4 p5 p6 p7 : Int} (h : PB p0 p1 p2 p3 p4 p5 p6 p7) : (0 ≤ (if p5 = 1 then 1 + p6 else if p5 = 0 then p6 else p1) ∧ (if p5 = 1 then 1 + p6 else if p5 = 0 then p6 else p1) ≤ 2000000) ∧ (0 ≤ (if p5 = 1 then 1001 + p6 + 1000 * p7 else if p5 = 0 then p7 else p2) ∧ (if p5 = 1 then 1001 + p6 + 1000 * p7 else if p5 = 0 then p7 else p2) ≤ 2000000) := by
  obtain ⟨b0, b1, b2, b3, b4, b5, b6, b7⟩ := h
  refine ⟨?_, ?_⟩
  · split
    · omega
    · split <;> omega
  · split
    · omega
    · split <;> omega
theorem mm_bd {t b : Int} (h : 0 ≤ t ∧ t ≤ 2000000) (h' : 0 ≤ b ∧ b ≤ 2000000) : 0 ≤ mn t b ∧ mn t b ≤ mx3 1 t b ∧ 1 ≤ mx3 1 t b ∧ mx3 1 t b ≤ 2000000 := by
  unfold mn mx3
  by_cases h1 : 1 < t
  · rw [if_pos h1]; split <;> split <;> omega
  · rw [if_neg h1]; split <;> split <;> omega
theorem layP_ok {p0 p1 p2 p3 p4 p5 p6 p7 : Int} (h : PB p0 p1 p2 p3 p4 p5 p6 p7) : LayOk (layP p0 p1 p2 p3 p4 p5 p6 p7) := by
  obtain ⟨t1, t2⟩ := tb_bd h
  unfold layP
  split
  · have := mm_bd t1 t2
    exact share_ok this.1 this.2.1 this.2.2.1 (by omega)
  · obtain ⟨b0, b1, b2, b3, b4, b5, b6, b7⟩ := h
    split
    · show 0 ≤ _ ∧ _ ≤ (1000000 : Int)
      split
      · omega
      · split <;> omega
    · have k1 : 0 ≤ (if p5 = 0 then p6 else p3) ∧ (if p5 = 0 then p6 else p3) ≤ 1001 := by split <;> omega
      have k2 : 0 ≤ (if p5 = 0 then p7 else p4) ∧ (if p5 = 0 then p7 else p4) ≤ 1001 := by split <;> omega
      generalize (if p5 = 0 then p6 else p3) = u at k1 ⊢
      generalize (if p5 = 0 then p7 else p4) = v at k2 ⊢
      show 0 ≤ mn u v ∧ mn u v ≤ mx u v ∧ mx u v ≤ 1000000
      unfold mn mx
      split <;> split <;> omega
def layD (D : List Int) (k : Nat) : Lay := layP (D.getD (2 + 8 * k) 0) (D.getD (2 + 8 * k + 1) 0) (D.getD (2 + 8 * k + 2) 0) (D.getD (2 + 8 * k + 3) 0) (D.getD (2 + 8 * k + 4) 0) (D.getD (2 + 8 * k + 5) 0) (D.getD (2 + 8 * k + 6) 0) (D.getD (2 + 8 * k + 7) 0)
def limsT (most : Int) : List Int := most :: 5 :: (List.replicate 4 [3, 5, 6, 40, 40, 4, 1001, 1001]).flatten
def trF (cell most : Int) : Tr := ⟨(drawsF cell (limsT most)).getD 0 0, (List.range ((drawsF cell (limsT most)).getD 1 0).toNat).map (layD (drawsF cell (limsT most)))⟩
theorem limsT_pos {most : Int} (h : 0 < most) : ∀ l ∈ limsT most, 0 < l := by
  intro l hl
  rcases List.mem_cons.mp hl with e | hl
  · omega
  · have key : ∀ l ∈ (5 :: (List.replicate 4 [3, 5, 6, 40, 40, 4, 1001, 1001]).flatten : List Int), 0 < l := by decide
    exact key l hl
theorem limsT_len (most : Int) : (limsT most).length = 34 := rfl
structure DrT (most : Int) (D : List Int) : Prop where
  d0 : ∃ x, D[0]? = some x ∧ 0 ≤ x ∧ x < most
  d1 : ∃ x, D[1]? = some x ∧ 0 ≤ x ∧ x < 5
  at' : ∀ k : Nat, k < 4 → ∀ (i : Nat) (l : Int), [3, 5, 6, 40, 40, 4, 1001, 1001][i]? = some l → ∃ x, D[2 + 8 * k + i]? = some x ∧ 0 ≤ x ∧ x < l
theorem limsT_at (most : Int) : ∀ k : Nat, k < 4 → ∀ i : Nat, i < 8 → (limsT most)[2 + 8 * k + i]? = [3, 5, 6, 40, 40, 4, 1001, 1001][i]? := by
  intro k hk i hi
  rw [show 2 + 8 * k + i = 8 * k + i + 1 + 1 by omega]
  show ((List.replicate 4 [3, 5, 6, 40, 40, 4, 1001, 1001]).flatten : List Int)[8 * k + i]? = _
  revert i; revert k; decide
theorem drT {cell most : Int} (h : 0 < most) : DrT most (drawsF cell (limsT most)) := by
  refine ⟨drawsF_at cell (limsT_pos h) rfl, drawsF_at cell (limsT_pos h) rfl, fun k hk i l hl => drawsF_at cell (limsT_pos h) ?_⟩
  have hi : i < 8 := (List.getElem?_eq_some_iff.mp hl).1
  rw [limsT_at most k hk i hi]; exact hl
theorem DrT.pb {most : Int} {D : List Int} (h : DrT most D) {k : Nat} (hk : k < 4) : PB (D.getD (2 + 8 * k) 0) (D.getD (2 + 8 * k + 1) 0) (D.getD (2 + 8 * k + 2) 0) (D.getD (2 + 8 * k + 3) 0) (D.getD (2 + 8 * k + 4) 0) (D.getD (2 + 8 * k + 5) 0) (D.getD (2 + 8 * k + 6) 0) (D.getD (2 + 8 * k + 7) 0) := by
  have g : ∀ (i : Nat) (l : Int), [3, 5, 6, 40, 40, 4, 1001, 1001][i]? = some l → 0 ≤ D.getD (2 + 8 * k + i) 0 ∧ D.getD (2 + 8 * k + i) 0 < l := fun i l hl => by
    obtain ⟨x, e, b⟩ := h.at' k hk i l hl
    rw [List.getD_eq_getElem?_getD, e]; exact b
  exact ⟨g 0 3 rfl, g 1 5 rfl, g 2 6 rfl, g 3 40 rfl, g 4 40 rfl, g 5 4 rfl, g 6 1001 rfl, g 7 1001 rfl⟩
theorem take_next {α : Type} {xs : List α} {a n : Nat} {y : α} (h : xs[a]? = some y) : (xs.drop a).take (n + 1) = y :: (xs.drop (a + 1)).take n := by
  obtain ⟨hl, e⟩ := List.getElem?_eq_some_iff.mp h
  rw [List.drop_eq_getElem_cons hl, List.take_succ_cons, e]
theorem DrT.part {most : Int} {D : List Int} (h : DrT most D) {k : Nat} (hk : k < 4) : (D.drop (2 + 8 * k)).take 8 = [D.getD (2 + 8 * k) 0, D.getD (2 + 8 * k + 1) 0, D.getD (2 + 8 * k + 2) 0, D.getD (2 + 8 * k + 3) 0, D.getD (2 + 8 * k + 4) 0, D.getD (2 + 8 * k + 5) 0, D.getD (2 + 8 * k + 6) 0, D.getD (2 + 8 * k + 7) 0] := by
  have g : ∀ (i : Nat) (l : Int), [3, 5, 6, 40, 40, 4, 1001, 1001][i]? = some l → D[2 + 8 * k + i]? = some (D.getD (2 + 8 * k + i) 0) := fun i l hl => by
    obtain ⟨x, e, b⟩ := h.at' k hk i l hl
    rw [List.getD_eq_getElem?_getD, e]; rfl
  have g0 : D[2 + 8 * k]? = some (D.getD (2 + 8 * k) 0) := g 0 3 rfl
  rw [take_next g0, take_next (g 1 5 rfl), take_next (g 2 6 rfl), take_next (g 3 40 rfl), take_next (g 4 40 rfl), take_next (g 5 4 rfl), take_next (g 6 1001 rfl), take_next (g 7 1001 rfl), List.take_zero]
theorem trF_ok {cell most : Int} (h : 0 < most) (h2 : most ≤ 1000000) : TrOk (trF cell most) := by
  have hD := drT (cell := cell) h
  obtain ⟨x0, e0, a0, b0⟩ := hD.d0
  obtain ⟨x1, e1, a1, b1⟩ := hD.d1
  have g0 : (drawsF cell (limsT most)).getD 0 0 = x0 := by rw [List.getD_eq_getElem?_getD, e0]; rfl
  have g1 : (drawsF cell (limsT most)).getD 1 0 = x1 := by rw [List.getD_eq_getElem?_getD, e1]; rfl
  refine ⟨fun l hl => ?_, ?_, ?_⟩
  · obtain ⟨k, hk, rfl⟩ := List.mem_map.mp hl
    rw [List.mem_range, g1] at hk
    exact layP_ok (hD.pb (by omega))
  · show ((List.range _).map _).length ≤ 10
    rw [List.length_map, List.length_range, g1]; omega
  · show Bt 60 ((drawsF cell (limsT most)).getD 0 0)
    rw [g0]; exact Bt.mono (n := 30) (bt_range (by omega) (by omega)) (by decide)
theorem spr_pos {n : Nat} {low width : Int} (h : SprOk n width) (cell : Int) : ∀ p ∈ sprF cell n low width, low ≤ p.1 := fun p hp => by
  have h1 := (gat_mem hp).1
  obtain ⟨q, hq, e⟩ := List.mem_map.mp h1
  unfold wtd at hq
  obtain ⟨k, hk, rfl⟩ := List.mem_map.mp hq
  rw [List.mem_range] at hk
  have e : (sprV cell n low width).getD k 0 = p.1 := e
  rw [← e, List.getD_eq_getElem?_getD, List.getElem?_eq_getElem hk, Option.getD_some]
  exact (sprV_mem h cell (List.getElem_mem hk)).1
end MX

namespace DL
open PySem L2
variable {K : PySem.W.Frag} {E : XK} {env env' : EnvD}
/-- zip of two lists of one length -/
theorem ei_zip {ta tb : TE} {ds es : List D} (ha : EvD K ta env (.list ds)) (hb : EvD K tb env (.list es)) (hl : ds.length = es.length) : EvI K (iZip K (tCons ta (tCons tb tNil))) env ((ds.zip es).map fun p => .tuple [p.1, p.2]) := fun G0 H0 G H σ ok R q =>
  ha G0 H0 G H σ ok _ fun v G1 H1 a hv => hb G0 H0 G1 H1 σ (ok.go a) _ fun u G2 H2 a2 hu => by
    obtain ⟨p, xs, e, hs, hd⟩ := (hv.mono a2.gg).lst_inv
    obtain ⟨r, ys, e2, hs2, hd2⟩ := hu.lst_inv
    subst e e2
    have hlen : ((ds.zip es).map fun p => PyData.tuple [p.1, p.2]).length = ds.length := by rw [List.length_map, List.length_zip]; omega
    refine ⟨p, r, xs, ys, rfl, SqL.gh a2.gh hs, SqL.gh a2.gh hs2, q _ G2 H2 (a.trans a2) ⟨fun G3 H3 g1 g2 => ⟨xs, ys, SqL.gh g2 (g1 _ _ hs), SqL.gh g2 (g1 _ _ hs2), .inl (by rw [hlen, hd.len]; exact Nat.le_refl _)⟩, fun i d G3 H3 hi g1 g2 => ?_⟩⟩
    rw [List.getElem?_map] at hi
    obtain ⟨⟨d1, d2⟩, hz, rfl⟩ := Option.map_eq_some_iff.mp hi
    obtain ⟨z1, z2⟩ := List.getElem?_zip_eq_some.mp hz
    obtain ⟨w1, h1, h2⟩ := hd.get z1
    obtain ⟨w2, h3, h4⟩ := hd2.get z2
    have k1 := SqL.gh (K := K) g2 (g1 _ _ hs)
    have k2 := SqL.gh (K := K) g2 (g1 _ _ hs2)
    refine ⟨⟨xs, ys, w1, w2, k1, k2, h1, h3⟩, fun x H' hy => ?_⟩
    obtain ⟨T, y1, y2, rfl, hT, rfl, f1, f2⟩ := hy
    have e1 := f1 xs k1
    have e2 := f2 ys k2
    rw [h1] at e1
    rw [h3] at e2
    cases e1
    cases e2
    have fw := Fw.new (o := .tup [w1, w2]) g2 hT
    exact ⟨_, fw, .tup (.inl (.inl upd_same)) (.cons ((h2.mono g1).mono fw.gg) (.cons ((h4.mono g1).mono fw.gg) .nil))⟩
/-- x[n] = v, x a list that nobody else has -/
theorem run_store {i : Nat} {ds : List D} {d : D} {tv ty : TE} {n : Int} {j : Nat} (hi : env[i]? = some (.ml ds)) (hv : EvD K tv env d) (hy : EvD K ty env (.int n)) (hj : ixN ds.length n = some j) : Run K E (tAsg tv (gSub (tVar i) ty rSetL)) env (.nx (env.set i (.ml (ds.set j d)))) := fun G0 H0 G H σ D ok q => by
  obtain ⟨o, h1, l, xs, e, g, hl, hd⟩ := ok.sl i _ hi
  subst e
  refine hv G0 H0 G H σ ok _ fun v G1 H1 a hv1 => ⟨_, h1, hy G0 H0 G1 H1 σ (ok.go a) _ fun u G2 H2 a2 hu => ⟨l, xs, n, j, rfl, hu.int_inv, (a.trans a2).hh _ _ hl, by rw [hd.len]; exact hj, ?_⟩⟩
  have g2 : G2 l = none := (a.trans a2).fr l (by rw [hl]; simp) g
  exact q G2 _ σ (((ok.go a).go a2).write hi rfl h1 ⟨l, _, rfl, g2, upd_same, Dds.set (hv1.mono a2.gg) j (hd.mono (a.trans a2).gg)⟩ rfl)
theorem Dds.rev {G : Hp} : ∀ {xs : List V} {ds : List D}, Dds K G xs ds → Dds K G xs.reverse ds.reverse
  | _, _, .nil => .nil
  | _, _, .cons h hs => by rw [List.reverse_cons, List.reverse_cons]; exact (Dds.rev hs).append (.cons h .nil)
theorem en_revL {ta : TE} {ds : List D} (ha : EvL K ta env ds) : EvN K (tRevL K ta) env ds.reverse := fun G0 H0 G H σ ok Q q =>
  ha G0 H0 G H σ ok _ fun p xs G1 H1 a h1 hd => ⟨p, xs, rfl, SqL.of h1, fun r hr => q r _ G1 _ (a.trans (Fw.hid a.gh hr)) (a.hh.free hr) (a.gh.free hr) upd_same hd.rev⟩
/-- hands back a new list, or raises an error of the class C -/
def SpXN {α : Type} (K : PySem.W.Frag) (fs : α → List SD) (pre : α → Prop) (C : Value) (fo : α → Option (List D)) : Sp := fun vs H Q E => ∃ (x : α) (G : Hp), Same G H ∧ Args K G H vs (fs x) ∧ pre x ∧
  (∀ ds, fo x = some ds → ∀ p xs G' H', Fw G H G' H' → H p = none → G' p = none → H' p = some (.lst xs) → Dds K G' xs ds → Q (.ref p) H') ∧ (fo x = none → ∀ G' H', Fw G H G' H' → E C none H')
section
variable {α : Type} {fs : α → List SD} {pre : α → Prop} {fo : α → Option (List D)} {C c : Value} {t : TA} {ss : List SD} {E' : XK} {i : Nat} {ts : Addr → Value → Option Addr → TS} {Wout : WX}
theorem en_callXN {x : α} {ds : List D} (h : EvA K t env ss) (e : ss = fs x) (hp : pre x) (hd : fo x = some ds) : EvN K (tCall (SpXN K fs pre C fo) [] E' t) env ds := fun G0 H0 G H σ ok Q q =>
  h G0 H0 G H σ ok _ fun vs G1 H1 a hv => ⟨x, G1, a.gh, by rw [List.append_nil, ← e]; exact hv, hp, fun d' hd' p xs G2 H2 a2 hp g2 h2 hd2 => q p xs G2 H2 (a.trans a2) (a.hh.free hp) g2 h2 (by rw [hd] at hd'; cases hd'; exact hd2), fun z => by rw [hd] at z; cases z⟩
theorem run_tryXN {x : α} {d : D} (h : EvA K t env ss) (e : ss = fs x) (hp : pre x) (hn : fo x = none) (hm : PySem.W.exmOne K C c = some true) (hs : ∀ a, Run K E (ts a C none) (env.set i (.raw (.ref a))) (.rt d)) :
    Run K E (fun D σ H => tDrop (tCallS (SpXN K fs pre C fo) (WE (wAs K c i ts Wout D)) t) D σ H) env (.rt d) := fun G0 H0 G H σ D ok q =>
  h G0 H0 G H σ ok _ fun vs G1 H1 a hv => ⟨x, G1, a.gh, by rw [← e]; exact hv, hp, fun z hz => (by rw [hn] at hz; cases hz), fun _ G2 H2 a2 => ⟨true, hm, fun _ b _ => hs b G0 H0 G2 H2 _ _ (((ok.go a).go a2).set i rfl rfl) q, fun z => nomatch z⟩⟩
end
section
variable {P : Program} {w : World} {mg : Str → Option Value} {base : Heap} {x qual : Str} {st : Stmt} {f : Addr} {fd : FuncData} {N ps : List Str} {k : Nat} {α : Type} {fs : α → List SD} {pre : α → Prop} {fo : α → Option (List D)} {C : Value}
theorem fn_XN (F : Fun K x qual st f fd) (S : FnScope N ps (defScope st)) (hn : ∀ a, (fs a).length = ps.length)
    (body : ∀ (cdv : Value) (A : Around) (outer : List Env) (s : Shared) (H : Hp) (E : XK), Room k (A.deeper (PyProof.Rows.envOfC qual (defScope st) s.heap.objs.size f cdv)) →
      ∃ t, PSs (cxX P w K mg base N qual st f cdv A outer s H E) (defBody st) t ∧ ∀ a, pre a → (∀ ds, fo a = some ds → Run K E t (envOf N (fs a)) (.rn ds)) ∧ (fo a = none → Run K E t (envOf N (fs a)) (.ex C))) :
    FnOk P w K mg base (L2.CX P w) (k + 1) f fd ps (SpXN K fs pre C fo) := by
  refine F.okX S (fun vs H Q E h => ?_) (fun cdv A outer s H vs Q E hr h => ?_)
  · obtain ⟨a, G, gh, ha, _⟩ := h
    rw [ha.len, hn a]
  · obtain ⟨a, G, gh, ha, hp, q1, q2⟩ := h
    obtain ⟨t, h1, h2⟩ := body cdv A outer s H E hr
    refine ⟨t, h1, ?_⟩
    obtain ⟨h3, h4⟩ := h2 a hp
    cases e : fo a with
    | none => exact h4 e G H G H _ _ (ok_start gh ha) fun G' H' fw => q2 e G' H' fw
    | some ds => exact h3 ds e G H G H _ _ (ok_start gh ha) fun p xs G' H' fw h0 g' h' hd => q1 ds e p xs G' H' fw h0 g' h' hd
end
/-- the turn n raises -/
theorem run_forE {wi : TI} {g : TG} {tb : TS} {ts : List Nat} {ds : List D} {C : Value} (Es : Nat → EnvD) (n : Nat) (hi : EvI K wi env ds) (h0 : Less env (Es 0))
    (ht : ∀ (i : Nat) (d : D), i < n → ds[i]? = some d → ∃ em, EvG K g ts (Es i) d em ∧ Turn1 K E tb em (Es (i + 1)))
    {d : D} {em : EnvD} (hd : ds[n]? = some d) (hg : EvG K g ts (Es n) d em) (hr : Run K E tb em (.ex C)) : Run K E (tFor wi g tb) env (.ex C) :=
  run_forX Es n hi h0 ht (.inr ⟨d, em, hd, hg, .inl ⟨hr, (by intro _ z; cases z), (by intro _ z; cases z), (by intro _ z; cases z)⟩⟩)
end DL
namespace MX
open PySem L2 DL
/-! ### sums and mixtures -/
def rowF (t : Spr) (p : Int × Rat) : Spr := t.map fun q => (p.1 + q.1, p.2 * q.2)
def sumF (s t : Spr) : Spr := s.flatMap (rowF t)
def mixF (ss : List Spr) (cs : List Rat) : Spr := (ss.zip cs).flatMap fun p => p.1.map fun q => (q.1, p.2 * q.2)
theorem flat_len {α : Type} (f : α → Spr) (k : Nat) : ∀ l : List α, (∀ x ∈ l, (f x).length ≤ k) → (l.flatMap f).length ≤ l.length * k
  | [], _ => by simp
  | x :: l, h => by
    rw [List.flatMap_cons, List.length_append, List.length_cons, Nat.succ_mul]
    have := h x (List.mem_cons_self)
    have := flat_len f k l fun y hy => h y (List.mem_cons_of_mem _ hy)
    omega
theorem sum_len (s t : Spr) : (sumF s t).length ≤ s.length * t.length := flat_len _ _ _ fun p _ => by unfold rowF; rw [List.length_map]; exact Nat.le_refl _
theorem flat_step {α : Type} (f : α → Spr) {l : List α} {i : Nat} (hi : i < l.length) : (l.take (i + 1)).flatMap f = (l.take i).flatMap f ++ f l[i] := by
  rw [List.take_add_one, List.getElem?_eq_getElem hi, Option.toList_some, List.flatMap_append]; simp
theorem ty_sum {n : Nat} {s t : Spr} (h : Ty n s) (h' : Ty n t) (hl : s.length * t.length < 64) : Ty (2 * n + 1) (sumF s t) := by
  obtain ⟨⟨N, b, h1, h2, h3, h4⟩, h5, h6⟩ := h
  obtain ⟨⟨M, c, g1, g2, g3, g4⟩, g5, g6⟩ := h'
  have p2 : 2 ^ (2 * n + 1) = 2 * (2 ^ n * 2 ^ n) := by rw [Nat.pow_succ, show 2 * n = n + n by omega, Nat.pow_add]; omega
  refine ⟨⟨N * M, b * c, Nat.mul_pos h1 g1, ?_, ?_, fun p hp => ?_⟩, fun p hp => ?_, Nat.lt_of_le_of_lt (sum_len s t) hl⟩
  · have := Nat.mul_le_mul (Nat.le_of_lt h2) (Nat.le_of_lt g2)
    have := Nat.mul_pos (Nat.two_pow_pos n) (Nat.two_pow_pos n)
    omega
  · have := Nat.mul_le_mul (Nat.le_of_lt h3) (Nat.le_of_lt g3)
    have := Nat.mul_pos (Nat.two_pow_pos n) (Nat.two_pow_pos n)
    omega
  · obtain ⟨a, ha, hb⟩ := List.mem_flatMap.mp hp
    obtain ⟨q, hq, rfl⟩ := List.mem_map.mp hb
    exact sq_mul (h4 a ha) (g4 q hq)
  · obtain ⟨a, ha, hb⟩ := List.mem_flatMap.mp hp
    obtain ⟨q, hq, rfl⟩ := List.mem_map.mp hb
    exact ((h5 a ha).add (g5 q hq)).mono (by omega)
end MX

namespace MX
open PySem L2 DL
/-! ### means of sums and mixtures -/
theorem ex_flat {α : Type} (g : α → Spr) (f : Int → Rat) : ∀ l : List α, Ex (l.flatMap g) f = (l.map fun x => Ex (g x) f).sum
  | [] => rfl
  | x :: l => by rw [List.flatMap_cons, ex_app, List.map_cons, List.sum_cons, ex_flat g f l]
theorem ex_row (t : Spr) (p : Int × Rat) (f : Int → Rat) : Ex (rowF t p) f = p.2 * Ex t fun y => f (p.1 + y) := by
  unfold rowF
  induction t with
  | nil => rw [List.map_nil, ex_nil, ex_nil]; grind
  | cons q t ih => rw [List.map_cons, ex_cons, ex_cons, ih]; grind
theorem ex_sum (s t : Spr) (f : Int → Rat) : Ex (sumF s t) f = Ex s fun x => Ex t fun y => f (x + y) := by
  unfold sumF
  rw [ex_flat]
  show _ = (s.map fun p => p.2 * Ex t fun y => f (p.1 + y)).sum
  exact congrArg List.sum (List.map_congr_left fun p _ => ex_row t p f)
theorem sum_comm (s t : Spr) : gatF (sumF s t) = gatF (sumF t s) := ex_wt fun f => by
  rw [ex_sum, ex_sum, ex_swap]
  have e : (fun y => Ex s fun x => f (x + y)) = fun y => Ex s fun x => f (y + x) := by
    funext y
    exact congrArg (Ex s) (funext fun x => by rw [Int.add_comm])
  rw [e]
theorem ex_mul2 (t : Spr) (c : Rat) (f : Int → Rat) : Ex (t.map fun q => (q.1, c * q.2)) f = c * Ex t f := by
  induction t with
  | nil => rw [List.map_nil, ex_nil]; grind
  | cons q t ih => rw [List.map_cons, ex_cons, ex_cons, ih]; grind
theorem ex_mix (ss : List Spr) (cs : List Rat) (f : Int → Rat) : Ex (mixF ss cs) f = ((ss.zip cs).map fun p => p.2 * Ex p.1 f).sum := by
  unfold mixF
  rw [ex_flat]
  exact congrArg List.sum (List.map_congr_left fun p _ => ex_mul2 p.1 p.2 f)
theorem rsum_app : ∀ a b : List Rat, (a ++ b).sum = a.sum + b.sum
  | [], b => by rw [List.nil_append, List.sum_nil]; grind
  | x :: a, b => by rw [List.cons_append, List.sum_cons, List.sum_cons, rsum_app a b]; grind
theorem rsum_rev : ∀ a : List Rat, a.reverse.sum = a.sum
  | [] => rfl
  | x :: a => by rw [List.reverse_cons, rsum_app, rsum_rev a, List.sum_cons, List.sum_cons, List.sum_nil]; grind
theorem zip_rev {α β : Type} : ∀ (a : List α) (b : List β), a.length = b.length → a.reverse.zip b.reverse = (a.zip b).reverse
  | [], [], _ => rfl
  | x :: a, y :: b, h => by
    have h : a.length = b.length := by simpa using h
    rw [List.reverse_cons, List.reverse_cons, List.zip_append (by rw [List.length_reverse, List.length_reverse]; exact h), zip_rev a b h]
    show _ = ((x, y) :: a.zip b).reverse
    rw [List.reverse_cons]; rfl
  | [], _ :: _, h => by simp at h
  | _ :: _, [], h => by simp at h
theorem mix_rev {ss : List Spr} {cs : List Rat} (h : ss.length = cs.length) : gatF (mixF ss.reverse cs.reverse) = gatF (mixF ss cs) := ex_wt fun f => by
  rw [ex_mix, ex_mix, zip_rev _ _ h, List.map_reverse, rsum_rev]
theorem zip_rep {α β : Type} (x : α) (y : β) : ∀ n : Nat, (List.replicate n x).zip (List.replicate n y) = List.replicate n (x, y)
  | 0 => rfl
  | n + 1 => by rw [List.replicate_succ, List.replicate_succ, List.zip_cons_cons, zip_rep x y n, List.replicate_succ]
theorem rsum_rep0 : ∀ n : Nat, (List.replicate n (0 : Rat)).sum = 0
  | 0 => rfl
  | n + 1 => by rw [List.replicate_succ, List.sum_cons, rsum_rep0 n]; grind
theorem mix_wide {ss : List Spr} {cs : List Rat} (h : ss.length = cs.length) (a b : Spr) (n : Nat) : gatF (mixF ([a] ++ ss ++ List.replicate n b) ([0] ++ cs ++ List.replicate n 0)) = gatF (mixF ss cs) := ex_wt fun f => by
  rw [ex_mix, ex_mix, List.zip_append (by simp [h]), List.zip_append (by simp), zip_rep, List.map_append, List.map_append, rsum_app, rsum_app, List.map_replicate]
  have e : (0 : Rat) * Ex b f = 0 := by grind
  rw [show ((b, (0 : Rat)).2 * Ex (b, (0 : Rat)).1 f) = 0 from e, rsum_rep0]
  show ((0 : Rat) * Ex a f + 0) + _ + 0 = _
  grind
/-! ### chances -/
def csF (ws : List Int) : List Rat := ws.map fun w => Rat.divInt w ws.sum
theorem sum_divInt {N : Int} (hN : N ≠ 0) : ∀ ws : List Int, (ws.map fun w => Rat.divInt w N).sum = Rat.divInt ws.sum N
  | [] => by rw [List.map_nil, List.sum_nil, List.sum_nil, Rat.zero_divInt]
  | w :: ws => by rw [List.map_cons, List.sum_cons, List.sum_cons, sum_divInt hN ws, divInt_add hN]
theorem sum_cs {ws : List Int} (h : 0 < ws.sum) : (csF ws).sum = 1 := by
  unfold csF
  rw [sum_divInt (by omega), Rat.divInt_self' (by omega)]
theorem cs_pos {ws : List Int} (h : 0 < ws.sum) (h0 : ∀ w ∈ ws, 0 ≤ w) : ∀ c ∈ csF ws, 0 ≤ c := fun c hc => by
  obtain ⟨w, hw, rfl⟩ := List.mem_map.mp hc
  exact Rat.divInt_nonneg (h0 w hw) (by omega)
/-- spreads of small numbers with one low part -/
structure TyL (n : Nat) (ss : List Spr) : Prop where
  q : ∃ N b : Nat, 0 < N ∧ N < 2 ^ n ∧ b < 2 ^ n ∧ ∀ s ∈ ss, ∀ p ∈ s, Sq N b p.2
  v : ∀ s ∈ ss, s.length ≤ 7 ∧ ∀ p ∈ s, Bt n p.1
structure TyC (n : Nat) (cs : List Rat) : Prop where
  q : ∃ N b : Nat, 0 < N ∧ N < 2 ^ n ∧ b < 2 ^ n ∧ ∀ c ∈ cs, Sq N b c
  len : cs.length ≤ 20
theorem TyC.fine {n : Nat} {cs : List Rat} (h : TyC n cs) (hn : n ≤ 3000) : Fine cs := by
  obtain ⟨⟨N, b, h1, h2, h3, h4⟩, h5⟩ := h
  exact ⟨N, b, fin_of h1 h2 h3 (by omega) (by omega) (by omega), h4⟩
theorem TyC.qb {n : Nat} {cs : List Rat} (h : TyC n cs) : ∀ c ∈ cs, Qb n c := fun c hc => by
  obtain ⟨⟨N, b, h1, h2, h3, h4⟩, h5⟩ := h
  exact sq_qb h1 h2 h3 (h4 c hc)
theorem TyL.qb {n : Nat} {ss : List Spr} (h : TyL n ss) : ∀ s ∈ ss, ∀ p ∈ s, Qb n p.2 := fun s hs p hp => by
  obtain ⟨⟨N, b, h1, h2, h3, h4⟩, h5⟩ := h
  exact sq_qb h1 h2 h3 (h4 s hs p hp)
theorem ty_mix {n : Nat} {ss : List Spr} {cs : List Rat} (h : TyL n ss) (h' : TyC n cs) (hl : ss.length ≤ 9) : Ty (2 * n + 1) (mixF ss cs) := by
  obtain ⟨⟨N, b, h1, h2, h3, h4⟩, h5⟩ := h
  obtain ⟨⟨M, c, g1, g2, g3, g4⟩, g5⟩ := h'
  have p2 : 2 ^ (2 * n + 1) = 2 * (2 ^ n * 2 ^ n) := by rw [Nat.pow_succ, show 2 * n = n + n by omega, Nat.pow_add]; omega
  have pp := Nat.mul_pos (Nat.two_pow_pos n) (Nat.two_pow_pos n)
  refine ⟨⟨M * N, c * b, Nat.mul_pos g1 h1, ?_, ?_, fun p hp => ?_⟩, fun p hp => ?_, ?_⟩
  · have := Nat.mul_le_mul (Nat.le_of_lt g2) (Nat.le_of_lt h2); omega
  · have := Nat.mul_le_mul (Nat.le_of_lt g3) (Nat.le_of_lt h3); omega
  · obtain ⟨a, ha, hb⟩ := List.mem_flatMap.mp hp
    obtain ⟨q, hq, rfl⟩ := List.mem_map.mp hb
    exact sq_mul (g4 _ (List.of_mem_zip ha).2) (h4 _ (List.of_mem_zip ha).1 q hq)
  · obtain ⟨a, ha, hb⟩ := List.mem_flatMap.mp hp
    obtain ⟨q, hq, rfl⟩ := List.mem_map.mp hb
    exact ((h5 _ (List.of_mem_zip ha).1).2 q hq).mono (by omega)
  · have h6 := flat_len (fun p : Spr × Rat => p.1.map fun q => (q.1, p.2 * q.2)) 7 (ss.zip cs) fun p hp => by rw [List.length_map]; exact (h5 _ (List.of_mem_zip hp).1).1
    have h7 : (ss.zip cs).length ≤ 9 := by rw [List.length_zip]; omega
    have h8 : (ss.zip cs).length * 7 ≤ 9 * 7 := Nat.mul_le_mul_right _ h7
    exact Nat.lt_of_le_of_lt (Nat.le_trans h6 h8) (by decide)
theorem spr_few {n : Nat} {low width : Int} (h : SprOk n width) (cell : Int) : (sprF cell n low width).length ≤ n := by
  obtain ⟨x, _, _, _, _, _, h2⟩ := spr_size h cell
  have h3 := gat_len (wtd (sprV cell n low width) (sprW cell n width))
  rw [wtd_len, (spr_len h cell).1] at h3
  exact Nat.le_trans h3 h2
theorem tyL_of {n : Nat} {a b : Spr} {ss : List Spr} (ha : Ty n a) (hb : Ty n b) (la : a.length ≤ 7) (lb : b.length ≤ 7) (h : ∀ s ∈ ss, s = a ∨ s = b ∨ s = [(3, 1)]) (hn : 3 ≤ n) : TyL (2 * n) ss := by
  obtain ⟨⟨N, c, h1, h2, h3, h4⟩, h5, h6⟩ := ha
  obtain ⟨⟨M, d, g1, g2, g3, g4⟩, g5, g6⟩ := hb
  have p2 : 2 ^ (2 * n) = 2 ^ n * 2 ^ n := by rw [show 2 * n = n + n by omega, Nat.pow_add]
  have b3 : Bt (2 * n) 3 := Bt.mono (n := 3) (by decide) (by omega)
  have hNM : N * M < 2 ^ (2 * n) := by rw [p2]; exact Nat.mul_lt_mul_of_lt_of_le h2 (Nat.le_of_lt g2) (Nat.two_pow_pos n)
  have m1 : c * M ≤ (2 ^ n - 1) * (2 ^ n - 1) := Nat.mul_le_mul (by omega) (by omega)
  have m2 : d * N ≤ (2 ^ n - 1) * (2 ^ n - 1) := Nat.mul_le_mul (by omega) (by omega)
  have m3 : 1 * (N * M) ≤ (2 ^ n - 1) * (2 ^ n - 1) := by rw [Nat.one_mul]; exact Nat.mul_le_mul (by omega) (by omega)
  have m4 : (2 ^ n - 1) * (2 ^ n - 1) < 2 ^ (2 * n) := by
    rw [p2]
    have := Nat.two_pow_pos n
    exact Nat.mul_lt_mul_of_lt_of_le (by omega) (by omega) this
  refine ⟨⟨N * M, (2 ^ n - 1) * (2 ^ n - 1), Nat.mul_pos h1 g1, hNM, m4, fun s hs p hp => ?_⟩, fun s hs => ?_⟩
  · rcases h s hs with e | e | e
    · subst e; exact sq_mono (sq_lift M g1 (h4 p hp)) m1
    · subst e
      have := sq_mono (sq_lift N h1 (g4 p hp)) m2
      rw [Nat.mul_comm]; exact this
    · subst e
      rw [List.mem_singleton] at hp
      subst hp
      have one : Sq 1 1 (1 : Rat) := ⟨1, by decide, by decide⟩
      have := sq_mono (sq_lift (N * M) (Nat.mul_pos h1 g1) one) m3
      rw [Nat.one_mul] at this; exact this
  · rcases h s hs with e | e | e
    · subst e; exact ⟨la, fun p hp => (h5 p hp).mono (by omega)⟩
    · subst e; exact ⟨lb, fun p hp => (g5 p hp).mono (by omega)⟩
    · subst e
      refine ⟨by decide, fun p hp => ?_⟩
      rw [List.mem_singleton] at hp
      subst hp
      exact b3
/-- showing lists of lists -/
theorem leaves_S {s : Spr} (h : ∀ p ∈ s, Bt 1900 p.1 ∧ Qb 1900 p.2) : (encS s).leavesShort 2000 = true ∧ (encS s).showable = true ∧ (encS s).hasDict = false ∧ (encS s).depth ≤ 3 ∧ (encS s).bulk = 5 * s.length := by
  have k1 : ∀ t : Spr, (∀ p ∈ t, Bt 1900 p.1 ∧ Qb 1900 p.2) → PyData.leavesShortAll 2000 (t.map encI) = true ∧ PyData.showableAll (t.map encI) = true ∧ PyData.hasDictAll (t.map encI) = false ∧ PyData.bulkAll (t.map encI) = 5 * t.length := by
    intro t
    induction t with
    | nil => intro _; simp [PyData.leavesShortAll, PyData.showableAll, PyData.hasDictAll, PyData.bulkAll]
    | cons p t ih =>
      intro h
      obtain ⟨i1, i2, i3, i4⟩ := ih fun q hq => h q (List.mem_cons_of_mem _ hq)
      obtain ⟨j1, j2⟩ := leaf_I (h p (List.mem_cons_self)).1 (h p (List.mem_cons_self)).2
      rw [List.map_cons]
      refine ⟨?_, ?_, ?_, ?_⟩
      · simp only [PyData.leavesShortAll, j1, i1, Bool.and_true]
      · simp only [PyData.showableAll, j2, i2, Bool.and_true]
      · simp [PyData.hasDictAll, PyData.hasDict, i3]
      · simp [PyData.bulkAll, PyData.bulk, i4]; omega
  obtain ⟨i1, i2, i3, i4⟩ := k1 s h
  have h2 : PyData.depthAll (s.map encI) ≤ 2 := depth_all encI 2 (fun x => by simp [PyData.depth, PyData.depthAll]) s
  exact ⟨by simp only [PyData.leavesShort, i1], by simp only [PyData.showable, i2], by simp only [PyData.hasDict, i3], by simp only [PyData.depth]; omega, by simp only [PyData.bulk, i4]⟩
theorem leaves_LS {k : Nat} : ∀ {ss : List Spr}, (∀ s ∈ ss, s.length ≤ k ∧ ∀ p ∈ s, Bt 1900 p.1 ∧ Qb 1900 p.2) → PyData.leavesShortAll 2000 (ss.map encS) = true ∧ PyData.showableAll (ss.map encS) = true ∧ PyData.hasDictAll (ss.map encS) = false ∧ PyData.depthAll (ss.map encS) ≤ 3 ∧ PyData.bulkAll (ss.map encS) ≤ (5 * k + 1) * ss.length
  | [], _ => by simp [PyData.leavesShortAll, PyData.showableAll, PyData.hasDictAll, PyData.bulkAll, PyData.depthAll]
  | s :: ss, h => by
    obtain ⟨i1, i2, i3, i4, i5⟩ := leaves_LS (k := k) (ss := ss) fun t ht => h t (List.mem_cons_of_mem _ ht)
    obtain ⟨j1, j2, j3, j4, j5⟩ := leaves_S (h s (List.mem_cons_self)).2
    have hk := (h s (List.mem_cons_self)).1
    rw [List.map_cons]
    refine ⟨?_, ?_, ?_, ?_, ?_⟩
    · rw [PyData.leavesShortAll, j1, i1]; rfl
    · rw [PyData.showableAll, j2, i2]; rfl
    · rw [PyData.hasDictAll, j3, i3]; rfl
    · rw [PyData.depthAll]; omega
    · rw [PyData.bulkAll, j5, List.length_cons, Nat.mul_succ]; omega
theorem leaves_LQ : ∀ {cs : List Rat}, (∀ c ∈ cs, Qb 1900 c) → PyData.leavesShortAll 2000 (cs.map encQ) = true ∧ PyData.showableAll (cs.map encQ) = true ∧ PyData.hasDictAll (cs.map encQ) = false ∧ PyData.depthAll (cs.map encQ) ≤ 1 ∧ PyData.bulkAll (cs.map encQ) ≤ 3 * cs.length
  | [], _ => by simp [PyData.leavesShortAll, PyData.showableAll, PyData.hasDictAll, PyData.bulkAll, PyData.depthAll]
  | c :: cs, h => by
    obtain ⟨i1, i2, i3, i4, i5⟩ := leaves_LQ (cs := cs) fun t ht => h t (List.mem_cons_of_mem _ ht)
    obtain ⟨a1, a2⟩ := leaf_int (h c (List.mem_cons_self)).num
    obtain ⟨b1, b2⟩ := leaf_int (h c (List.mem_cons_self)).den
    rw [List.map_cons]
    refine ⟨?_, ?_, ?_, ?_, ?_⟩
    · simp only [PyData.leavesShort, PyData.leavesShortAll, i1, Bool.and_true, Bool.and_eq_true] at a1 b1 ⊢; exact ⟨a1, b1⟩
    · simp only [PyData.showable, PyData.showableAll, i2, Bool.and_true, Bool.and_eq_true] at a2 b2 ⊢; exact ⟨a2, b2⟩
    · simp [PyData.hasDictAll, PyData.hasDict, i3]
    · simp [PyData.depthAll, PyData.depth]; omega
    · simp [PyData.bulkAll, PyData.bulk]; omega
theorem shw_pr {ss : List Spr} {cs : List Rat} (h : ∀ s ∈ ss, s.length ≤ 7 ∧ ∀ p ∈ s, Bt 1900 p.1 ∧ Qb 1900 p.2) (hl : ss.length ≤ 20) (h' : ∀ c ∈ cs, Qb 1900 c) (hc : cs.length ≤ 20) : Shw (.list [.list (ss.map encS), .list (cs.map encQ)]) := by
  obtain ⟨i1, i2, i3, i4, i5⟩ := leaves_LS (k := 7) h
  obtain ⟨j1, j2, j3, j4, j5⟩ := leaves_LQ h'
  refine shw_of ?_ ?_ ?_ ?_ ?_ (.inl ⟨_, rfl⟩)
  · simp only [PyData.leavesShort, PyData.leavesShortAll, i1, j1, Bool.and_true]
  · simp only [PyData.showable, PyData.showableAll, i2, j2, Bool.and_true]
  · simp only [PyData.hasDict, PyData.hasDictAll, i3, j3, Bool.or_false]
  · simp only [PyData.depth, PyData.depthAll]; omega
  · simp only [PyData.bulk, PyData.bulkAll]; omega
theorem shw_2 {a b : Spr} (ha : ∀ p ∈ a, Bt 1900 p.1 ∧ Qb 1900 p.2) (hb : ∀ p ∈ b, Bt 1900 p.1 ∧ Qb 1900 p.2) (la : a.length ≤ 7) (lb : b.length ≤ 7) : Shw (.list [encS a, encS b]) := by
  obtain ⟨i1, i2, i3, i4, i5⟩ := leaves_LS (k := 7) (ss := [a, b]) (fun s hs => by
    rcases List.mem_cons.mp hs with e | e
    · subst e; exact ⟨la, ha⟩
    · rw [List.mem_singleton] at e; subst e; exact ⟨lb, hb⟩)
  refine shw_of ?_ ?_ ?_ ?_ ?_ (.inl ⟨_, rfl⟩)
  · rw [PyData.leavesShort]; exact i1
  · rw [PyData.showable]; exact i2
  · rw [PyData.hasDict]; exact i3
  · rw [PyData.depth]; have : PyData.depthAll [encS a, encS b] ≤ 3 := i4; omega
  · rw [PyData.bulk]; have : PyData.bulkAll [encS a, encS b] ≤ (5 * 7 + 1) * 2 := i5; omega
/-! ### more chances -/
theorem tyC_ext {n : Nat} {cs cs' : List Rat} (h : TyC n cs) {M : Nat} (hM : 0 < M) (hM2 : M < 2 ^ n) (h' : ∀ c ∈ cs', c ∈ cs ∨ Sq M 1 c ∨ ∃ a b, a ∈ cs ∧ Sq M 1 b ∧ c = a + b) (hl : cs'.length ≤ 20) : TyC (2 * n + 1) cs' := by
  obtain ⟨⟨N, b, h1, h2, h3, h4⟩, h5⟩ := h
  have p2 : 2 ^ (2 * n + 1) = 2 * (2 ^ n * 2 ^ n) := by rw [Nat.pow_succ, show 2 * n = n + n by omega, Nat.pow_add]; omega
  have pp := Nat.mul_pos (Nat.two_pow_pos n) (Nat.two_pow_pos n)
  have k1 : N * M ≤ (2 ^ n - 1) * 2 ^ n := Nat.mul_le_mul (by omega) (by omega)
  have k2 : b * M ≤ (2 ^ n - 1) * 2 ^ n := Nat.mul_le_mul (by omega) (by omega)
  have k3 : (2 ^ n - 1) * 2 ^ n < 2 ^ n * 2 ^ n := Nat.mul_lt_mul_of_lt_of_le (by have := Nat.two_pow_pos n; omega) (Nat.le_refl _) (Nat.two_pow_pos n)
  have k4 : N ≤ N * M := Nat.le_mul_of_pos_right N hM
  have s2 : ∀ c, Sq M 1 c → Sq (N * M) (1 * N) c := fun c hc => by rw [Nat.mul_comm N M]; exact sq_lift N h1 hc
  refine ⟨⟨N * M, b * M + 1 * N, Nat.mul_pos h1 hM, by omega, by omega, fun c hc => ?_⟩, hl⟩
  rcases h' c hc with e | e | ⟨x, y, hx, hy, e⟩
  · exact sq_mono (sq_lift M hM (h4 c e)) (by omega)
  · exact sq_mono (s2 c e) (by omega)
  · rw [e]; exact sq_add (Nat.mul_pos h1 hM) (sq_lift M hM (h4 x hx)) (s2 y hy)
theorem unit_sq {M : Nat} : Sq M 1 (Rat.divInt 1 (M : Int)) ∧ Sq M 1 (Rat.divInt (-1) (M : Int)) := ⟨⟨1, rfl, by decide⟩, ⟨-1, rfl, by decide⟩⟩
theorem unit_enc {t M : Int} (ht : t = 1 ∨ t = -1) (hM : 0 < M) : encQ (Rat.divInt t M) = .tuple [.int t, .int M] := by
  obtain ⟨e1, e2⟩ := divInt_parts (t := t) (l := M) (by omega)
  have g : sgcd t M = 1 := by
    unfold sgcd
    rw [if_neg (by omega)]
    rcases ht with e | e <;> subst e <;> simp
  show PyData.tuple [.int (Rat.divInt t M).num, .int ((Rat.divInt t M).den : Int)] = _
  rw [e1, e2, g, Int.fdiv_one, Int.fdiv_one]
theorem unit_sgn {M : Int} (hM : 0 < M) : 0 < Rat.divInt 1 M ∧ Rat.divInt (-1) M < 0 := by
  have pos : 0 < Rat.divInt 1 M := by
    refine Rat.lt_of_le_of_ne (Rat.divInt_nonneg (by decide) (by omega)) fun z => ?_
    obtain ⟨e1, _⟩ := divInt_parts (t := 1) (l := M) (by omega)
    have g : sgcd 1 M = 1 := by unfold sgcd; rw [if_neg (by omega)]; simp
    rw [← z, g, Int.fdiv_one] at e1
    exact absurd e1 (by decide)
  refine ⟨pos, ?_⟩
  have e : Rat.divInt (-1) M = -(Rat.divInt 1 M) := by
    rw [Rat.divInt_eq_div, Rat.divInt_eq_div]
    have : ((-1 : Int) : Rat) = -((1 : Int) : Rat) := by decide
    rw [this]; grind
  rw [e]; grind
theorem cutD_last {xs : List D} {a : Nat} : cutD xs (some (a : Int)) none = xs.drop a := by
  unfold cutD
  rw [HT.sIx_nat]
  show ((xs.drop (min a xs.length)).take (xs.length - min a xs.length)) = _
  by_cases h : a ≤ xs.length
  · rw [Nat.min_eq_left h, List.take_of_length_le (by rw [List.length_drop]; omega)]
  · rw [Nat.min_eq_right (by omega), List.drop_eq_nil_of_le (Nat.le_refl _), List.drop_eq_nil_of_le (by omega), List.take_nil]
end MX

namespace PySem
theorem rev_no_len : typeLookup (.type "list_reverseiterator") "__len__" = pure none := by rw [typeLookup_type, builtinLookup_eq_fast]; kernel_rfl
theorem rev_hint : typeLookup (.type "list_reverseiterator") "__length_hint__" = pure (some (.builtin "list_reverseiterator.__length_hint__")) := by rw [typeLookup_type, builtinLookup_eq_fast]; kernel_rfl
theorem rev_self : isSubtype (.type "list_reverseiterator") (.type "list_reverseiterator") = pure true := by rw [isSubtype_type]; kernel_rfl
section
variable {prog : Program} {w : World} {A : Around} {s : Shared} {E : Value → Shared → Prop} {I : Addr} {Q : Bool → Shared → Prop}
theorem hint_rev (hT : s.TypeIs (.ref I) "list_reverseiterator") (hQ : Q false s) : wpAny (model prog w) A (Builtin.List.listLengthHint (.ref I)) Q E s := by
  unfold Builtin.List.listLengthHint
  refine wpAny_bind (wpAny_specialOf hT rev_no_len ?_)
  show wpAny _ A (specialOf (Value.ref I) (Str.ofString "__length_hint__") >>= _) _ _ _
  refine wpAny_bind (wpAny_specialOf hT rev_hint ?_)
  refine wpAny_bind (wpAny_isInstance hT rev_self ?_)
  show wpAny _ A (pure false) _ _ _
  exact wpAny_pure hQ
end
section
variable {prog : Program} {w : World} {A : Around} {s : Shared} {R : Result → Shared → Prop}
variable {I : Addr} {fp wr : List Addr} {G : Array GenState → Array GenState → Prop} {n : Nat} {P : Nat → Value → Prop} {St : Nat → Shared → Prop}
/-- as for a generator, but that its hint is quiet -/
theorem extend_rev (W : WalksS prog w A.in1 I fp wr G n P St) (hT : ∀ i s, St i s → s.TypeIs (.ref I) "list_reverseiterator") (S : Addr) (res : Value) (c₀ : Nat) (hst : St 0 s) (hSf : S ∉ fp) (hI : I ∈ fp)
    (hS : s.heap.get? S = some { cls := .type "list", data := .seq #[] c₀ })
    (hR : ∀ s' acc' c', Moved (S :: wr) G s s' → s'.heap.get? S = some { cls := .type "list", dict := none, data := .seq acc' c', slots := #[] } → ItemsOf P acc' n → R (.ok (.ret res)) s') (hn : n ≤ sizeLine) :
    wpAny (model prog w) A.in1 (Builtin.List.listExtendWith (.ref S) (.ref I) res)
      (fun fin s' => match fin with | .done f => R (.ok f) s' | .again c' => c'.quiet = true ∧ codeAny (model prog w) A c' R s') (fun e s' => R (.error e) s') s := by
  have hSI : S ≠ I := fun e => hSf (e ▸ hI)
  unfold Builtin.List.listExtendWith
  refine wpAny_bind (wpAny_typeOf (hT 0 _ hst) ?_)
  have h1 : Builtin.List.listSameRef (.ref S) (.ref I) = false := by simp [Builtin.List.listSameRef, hSI]
  have h2 : (Value.type "list_reverseiterator" == Value.type "list") = false := by decide
  have h3 : (Value.type "list_reverseiterator" == Value.type "tuple") = false := by decide
  simp only [h1, h2, h3, Bool.or_false, Bool.false_eq_true, if_false]
  refine wpAny_bind (W.self 0 _ _ _ hst ?_)
  refine wpAny_bind (wpAny_holding ?_)
  refine hint_rev (hT 0 _ hst) ?_
  exact wpAny_pure ⟨plainId_quiet F.plain_extend_loop _, codeAny_extend_loopS W hn _ hSf _ n 0 _ _ _ rfl (Nat.zero_le _) hst hS (ItemsOf.nil P) fun s' acc' c' hm hS' hacc => hR s' acc' c' hm hS' hacc⟩
theorem init_rev (W : WalksS prog w A.in1 I fp wr G n P St) (hT : ∀ i s, St i s → s.TypeIs (.ref I) "list_reverseiterator") (S : Addr) (hst : St 0 s) (hSf : S ∉ fp) (hI : I ∈ fp)
    (hS : s.heap.get? S = some { cls := .type "list", data := .seq #[] })
    (hR : ∀ s' acc' c', Moved (S :: wr) G s s' → s'.heap.get? S = some { cls := .type "list", dict := none, data := .seq acc' c', slots := #[] } → ItemsOf P acc' n → R (.ok (.ret .none)) s') (hn : n ≤ sizeLine) :
    wpAny (model prog w) A.in1 (Builtin.«list.__init__» ⟨[.ref S, .ref I], []⟩)
      (fun fin s' => match fin with | .done f => R (.ok f) s' | .again c' => c'.quiet = true ∧ codeAny (model prog w) A c' R s') (fun e s' => R (.error e) s') s := by
  show wpAny _ A.in1 (do let old ← Builtin.List.listItems (.ref S); Builtin.List.listUpdate (.ref S) (fun _ => #[]); letGo old.toList.reverse; Builtin.List.listExtendWith (.ref S) (.ref I) .none) _ _ s
  refine wpAny_bind ?_
  unfold Builtin.List.listItems
  refine wpAny_bind (wpAny_seqItems hS rfl (wpAny_pure ?_))
  show wpAny _ A.in1 (updateSeq S (fun _ => #[]) >>= fun _ => letGo (#[] : Array Value).toList.reverse >>= fun _ => Builtin.List.listExtendWith (.ref S) (.ref I) .none) _ _ s
  refine wpAny_bind (wpAny_updateSeq hS rfl ?_)
  have hS₂ := Heap.get?_update_self (Obj.mapSeq (fun _ => (#[] : Array Value))) hS rfl
  have oth : ∀ b o, b ≠ S → s.heap.get? b = some o → (s.heap.update S (Obj.mapSeq (fun _ => (#[] : Array Value)))).get? b = some o :=
    fun b o hb e => (Heap.get?_update_other _ _ (Ne.symm hb)).trans e
  refine wpAny_bind (wpAny_letGo ?_)
  refine extend_rev (hn := hn) W hT S .none _ (W.frame 0 s _ s.toks hst (Nat.le_refl _) fun b hb o e => oth b o (fun h => hSf (h ▸ hb)) e) hSf hI hS₂ fun s' acc' c' hm hS' hacc => ?_
  exact hR s' acc' c' (Moved.trans W.gtrans ((Moved.refl W.grefl).then_heap (Nat.le_refl _) fun b o hb e => oth b o (fun h => hb (h ▸ List.mem_cons_self)) e) hm) hS' hacc
end
section
variable {prog : Program} {w : World} {A : Around} {E : Value → Shared → Prop} {s : Shared}
variable {I : Addr} {fp wr : List Addr} {G : Array GenState → Array GenState → Prop} {n : Nat} {P : Nat → Value → Prop} {St : Nat → Shared → Prop}
theorem call_list_rev {Q : Value → Shared → Prop} (W : WalksS prog w A.in1.in1 I fp wr G n P St) (hT : ∀ i s, St i s → s.TypeIs (.ref I) "list_reverseiterator") (hst : St 0 s) (hfp : ∀ b ∈ fp, b < s.heap.objs.size) (hI : I ∈ fp)
    (hQ : ∀ s' acc' c', Moved (s.heap.objs.size :: wr) G { s with heap := s.heap.push { cls := .type "list", data := .seq #[] } } s' →
      s'.heap.get? s.heap.objs.size = some { cls := .type "list", dict := none, data := .seq acc' c', slots := #[] } → ItemsOf P acc' n → Q (.ref s.heap.objs.size) s') (hn : n ≤ sizeLine) :
    wpAny (model prog w) A (call (.type "list") [.ref I]) Q E s := by
  have hSf : s.heap.objs.size ∉ fp := fun hm => Nat.lt_irrefl _ (hfp _ hm)
  refine callType_codes (Q₁ := fun obj s₁ => obj = .ref s.heap.objs.size ∧ s₁ = { s with heap := s.heap.push { cls := .type "list", data := .seq #[] } }) F.called_list (F.typeCall_list_1 _) F.entry_list_init
    (code_list_new _ ⟨rfl, rfl⟩) fun obj s₁ h₁ => ?_
  obtain ⟨rfl, rfl⟩ := h₁
  have hS : (s.heap.push { cls := .type "list", data := .seq #[] }).get? s.heap.objs.size = some { cls := .type "list", data := .seq #[] } := Heap.get?_push_size _ rfl
  refine ⟨⟨_, hS, rfl⟩, F.args_list_init_2 _ _, init_rev (hn := hn) W hT _ (W.frame 0 s _ s.toks hst (Nat.le_refl _) fun b _ o e => Heap.get?_push_of_some _ e) hSf hI hS fun s' acc' c' hm hS' hacc => ?_⟩
  exact ⟨rfl, hQ s' acc' c' hm hS' hacc⟩
end
end PySem

namespace PySem
theorem revW {prog : Program} {w : World} {A : Around} (hh : A.handled = none) (I l : Addr) (hne : l ≠ I) (items : Array Value) :
    WalksS prog w A I [I, l] [I] (fun g g' => g' = g) items.size (fun i v => items[items.size - 1 - i]? = some v) (fun i s => i ≤ items.size ∧ s.heap.IsRevIter I l ((items.size : Int) - 1 - (i : Int)) ∧ s.heap.IsList l items) where
  sub := fun b hb => by simp at hb; simp [hb]
  grefl := fun _ => rfl
  gtrans := fun _ _ _ a b => b.trans a
  frame := fun i s h' tk x _ hk => ⟨x.1, x.2.1.at fun o e => hk I (by simp) o e, x.2.2.at fun o e => hk l (by simp) o e⟩
  item := fun i s Q E hi x hQ => by
    have e : (items.size : Int) - 1 - (i : Int) = ((items.size - 1 - i : Nat) : Int) := by omega
    have hit := x.2.1
    rw [e] at hit
    have hx : items[items.size - 1 - i]? = some (items[items.size - 1 - i]'(by omega)) := Array.getElem?_eq_getElem (by omega)
    refine wpAny_pyNext_rev_item hit x.2.2 hx fun h' hit' hs' => ?_
    have e2 : ((items.size - 1 - i : Nat) : Int) - 1 = (items.size : Int) - 1 - ((i + 1 : Nat) : Int) := by omega
    rw [e2] at hit'
    exact hQ _ { s with heap := h' } hx ⟨hi, hit', x.2.2.at fun o eo => (hs'.2 l hne).trans eo⟩ ⟨fun b o hb eo => hs'.extBut b o (fun h => hb (by simp [h])) eo, rfl, rfl, rfl, Nat.le_refl _⟩
  done := fun s Q E x hQ => by
    have e : (items.size : Int) - 1 - (items.size : Int) = -1 := by omega
    have hit := x.2.1
    rw [e] at hit
    exact wpAny_pyNext_rev_end hh hit fun h' he' => hQ { s with heap := h' } ⟨fun b o hb eo => he' b o (fun h => hb (by simp [h])) eo, rfl, rfl, rfl, Nat.le_refl _⟩
  self := fun _ _ _ _ x hQ => wpAny_pyIter_revIter x.2.1 hQ
end PySem
namespace DL
open PySem L2 PyProof.Rows
theorem vals_rev : ∀ {xs : List V} {us : List Value}, Vals xs us → Vals xs.reverse us.reverse := by
  intro xs us h
  induction h with
  | nil => exact .nil
  | cons a b ih =>
    rw [List.reverse_cons, List.reverse_cons]
    exact ih.append (.cons a .nil)
variable {X : Cx} {e : Expr} {te : TE} {p p2 pos pos2 : Pos}
theorem pe_listRev (hc : X.calm = true) (hgl : Gl X "list") (hml : X.mg "list" = none) (hgr : Gl X "reversed") (hmr : X.mg "reversed" = none) (he : PE X e te)
    (hs : starEach [e] X.env = [(false, eval e X.env)] := by rfl) (hs2 : starEach [.Call (.Name "reversed" p2) [e] [] pos2] X.env = [(false, eval (.Call (.Name "reversed" p2) [e] [] pos2) X.env)] := by rfl) :
    PE X (.Call (.Name "list" p) [.Call (.Name "reversed" p2) [e] [] pos2] [] pos) (tRevL X.K te) := by
  refine ⟨fun pins s σ H Q I h => ?_⟩
  refine Call_ (ld_blt I hgl hml boot_list (callWith_type1 ?_ hs2 rfl))
  rw [hs2]
  show wpAny _ _ (spliced ((false, eval (.Call (.Name "reversed" p2) [e] [] pos2) X.env) :: backTo pos [])) _ _ s
  refine Calls.spliced_cons ?_
  refine Call_ (ld_blt I hgr hmr boot_reversed (callWith_type1 ?_ hs rfl))
  rw [hs]
  show wpAny _ _ (spliced ((false, eval e X.env) :: backTo pos2 [])) _ _ s
  refine Calls.spliced_cons (thn (he.run pins s σ H _ I h) fun u s1 ⟨x, H1, I1, r1, q1⟩ => ?_)
  obtain ⟨a, xs, ex, hx, q⟩ := q1
  subst ex
  cases r1
  obtain ⟨its, rv, pl, hz⟩ := I1.list hx
  refine Calls.spliced_nil ?_
  refine call_reversed_list pl.isList ?_
  refine Calls.spliced_nil ?_
  have hlt : a < s1.heap.objs.size := pl.lt
  have hlen := rv.length
  refine call_list_rev (revW (by exact I.ok.hd hc) s1.heap.objs.size a (Nat.ne_of_lt hlt) its.toArray) (fun i s x => x.2.1.typeIs) ⟨Nat.zero_le _, ?_, ?_⟩ (fun b hb => ?_) (by simp) (fun s' acc' c' hm hS' hacc => ?_) ?_
  · have e1 : ((its.toArray.size : Nat) : Int) - 1 = ((its.toArray.size : Nat) : Int) - 1 - ((0 : Nat) : Int) := by simp
    rw [← e1]
    exact ⟨_, Heap.get?_push_size _ rfl, rfl, rfl⟩
  · exact pl.isList.at fun o e => Heap.get?_push_of_some _ e
  · have hsz : (s1.heap.push (revObj a ((its.toArray.size : Int) - 1))).objs.size = s1.heap.objs.size + 1 := by simp [Heap.push]
    show b < (s1.heap.push (revObj a ((its.toArray.size : Int) - 1))).objs.size
    rw [hsz]
    rcases List.mem_cons.mp hb with e | e
    · rw [e]; exact Nat.lt_succ_self _
    · rw [List.mem_singleton] at e; rw [e]; exact Nat.lt_succ_of_lt hlt
  · have hsz : (s1.heap.push (revObj a ((its.toArray.size : Int) - 1))).objs.size = s1.heap.objs.size + 1 := by simp [Heap.push]
    have keep : ∀ b u, s1.heap.get? b = some u → s'.heap.get? b = some u := fun b u e => by
      have hb := Heap.lt_size e
      refine hm.heap b u (fun hm2 => ?_) (Heap.get?_push_of_some _ (Heap.get?_push_of_some _ e))
      rcases List.mem_cons.mp hm2 with e2 | e2
      · have e3 : b = (s1.heap.push (revObj a ((its.toArray.size : Int) - 1))).objs.size := e2
        rw [hsz] at e3
        exact absurd hb (by rw [e3]; exact Nat.not_lt.mpr (Nat.le_succ _))
      · rw [List.mem_singleton] at e2
        exact absurd hb (by rw [e2]; exact Nat.lt_irrefl _)
    have es : s' = { s1 with heap := s'.heap, toks := s'.toks } := by
      have h1 := hm.gens
      have h2 := hm.drawn
      have h3 := hm.os
      obtain ⟨a1, a2, a3, a4, a5⟩ := s'
      simp only at h1 h2 h3
      subst h1 h2 h3
      rfl
    have hacc2 : acc'.toList = its.reverse := by
      refine List.ext_getElem? fun j => ?_
      have h1 := hacc.1
      have h1 : acc'.size = its.length := by simpa using h1
      by_cases hj : j < its.length
      · have h2 := hacc.2 j (acc'[j]'(by omega)) (Array.getElem?_eq_getElem (by omega))
        rw [List.getElem?_reverse hj]
        have h3 : its[its.length - 1 - j]? = some (acc'[j]'(by omega)) := by simpa using h2
        rw [h3, Array.getElem?_toList, Array.getElem?_eq_getElem (by omega)]
      · rw [List.getElem?_eq_none (by simp; omega), List.getElem?_eq_none (by simp; omega)]
    rw [es]
    have hf : H1 (s1.heap.push (revObj a ((its.toArray.size : Int) - 1))).objs.size = none := I1.hok.fresh (by rw [hsz]; omega)
    refine ⟨.ref (s1.heap.push (revObj a ((its.toArray.size : Int) - 1))).objs.size, _, I1.laid (o := .lst xs.reverse) (t' := s'.toks) keep (by rw [hsz]; omega) ⟨by rw [List.length_reverse]; exact hz, acc'.toList, c', by rw [hacc2]; exact vals_rev rv, hS'⟩, rfl, q _ hf⟩
  · rw [List.size_toArray, ← hlen]; exact hz
end DL

namespace MX
open PySem L2 DL
/-! ### few keys -/
theorem asc_len : ∀ (l : List Int) (lo : Int) (n : Nat), l.Pairwise (· < ·) → (∀ x ∈ l, lo ≤ x ∧ x < lo + n) → l.length ≤ n
  | [], _, _, _, _ => Nat.zero_le _
  | x :: l, lo, n, h, hb => by
    rw [List.pairwise_cons] at h
    have hx := hb x (List.mem_cons_self)
    have hn : 0 < n := by omega
    have := asc_len l (lo + 1) (n - 1) h.2 fun y hy => by
      have h1 := h.1 y hy
      have h2 := hb y (List.mem_cons_of_mem _ hy)
      omega
    rw [List.length_cons]; omega
theorem few_of {s : Spr} {lo : Int} {n : Nat} (h : ∀ p ∈ s, lo ≤ p.1 ∧ p.1 < lo + n) : (acc s).length ≤ n := by
  have h1 := asc_len (srt ((acc s).map (·.1))) lo n (gat_keys_lt s) fun x hx => by
    obtain ⟨p, hp, rfl⟩ := List.mem_map.mp ((acc_mem s x).mp ((srt_perm _).mem_iff.mp hx))
    exact h p hp
  rw [(srt_perm _).length_eq, List.length_map] at h1
  exact h1
/-! ### mass and signs -/
abbrev mass (s : Spr) : Rat := Ex s fun _ => 1
theorem mass_eq (s : Spr) : mass s = (s.map (·.2)).sum := by
  unfold mass Ex
  exact congrArg List.sum (List.map_congr_left fun p _ => by grind)
theorem mass_gat (s : Spr) : mass (gatF s) = mass s := ex_gat s _
theorem ex_const (s : Spr) (c : Rat) : Ex s (fun _ => c) = c * mass s := by
  rw [← ex_mul]
  exact congrArg (Ex s) (funext fun _ => by grind)
theorem mass_sum (s t : Spr) : mass (sumF s t) = mass s * mass t := by
  show Ex (sumF s t) (fun _ => 1) = _
  rw [ex_sum, ex_const]; grind
theorem ex_nn {s : Spr} (h : ∀ p ∈ s, 0 ≤ p.2) (v : Int) : 0 ≤ wt s v := by
  induction s with
  | nil => show (0 : Rat) ≤ 0; decide
  | cons p s ih =>
    rw [wt_cons]
    have h1 := h p (List.mem_cons_self)
    have h2 := ih fun q hq => h q (List.mem_cons_of_mem _ hq)
    split <;> grind
theorem gat_pos {s : Spr} (h : ∀ p ∈ s, 0 ≤ p.2) : ∀ p ∈ gatF s, 0 < p.2 := fun p hp => by
  have h1 := (gat_can s).nz p hp
  have h2 := (gat_mem hp).2
  have h3 := ex_nn h p.1
  rw [← h2] at h3
  exact Rat.lt_of_le_of_ne h3 (Ne.symm h1)
theorem sum_nn {s t : Spr} (hs : ∀ p ∈ s, 0 ≤ p.2) (ht : ∀ p ∈ t, 0 ≤ p.2) : ∀ p ∈ sumF s t, 0 ≤ p.2 := fun p hp => by
  obtain ⟨a, ha, hb⟩ := List.mem_flatMap.mp hp
  obtain ⟨q, hq, rfl⟩ := List.mem_map.mp hb
  exact Rat.mul_nonneg (hs a ha) (ht q hq)
theorem mix_nn {ss : List Spr} {cs : List Rat} (hs : ∀ s ∈ ss, ∀ p ∈ s, 0 ≤ p.2) (hc : ∀ c ∈ cs, 0 ≤ c) : ∀ p ∈ mixF ss cs, 0 ≤ p.2 := fun p hp => by
  obtain ⟨a, ha, hb⟩ := List.mem_flatMap.mp hp
  obtain ⟨q, hq, rfl⟩ := List.mem_map.mp hb
  exact Rat.mul_nonneg (hc _ (List.of_mem_zip ha).2) (hs _ (List.of_mem_zip ha).1 q hq)
/-! ### the laws of sums and mixtures -/
theorem sum_assoc (a b c : Spr) : gatF (sumF (gatF (sumF a b)) c) = gatF (sumF a (gatF (sumF b c))) := ex_wt fun f => by
  rw [ex_sum, ex_gat, ex_sum, ex_sum]
  refine congrArg (Ex a) (funext fun x => ?_)
  rw [ex_gat, ex_sum]
  exact congrArg (Ex b) (funext fun y => congrArg (Ex c) (funext fun z => by rw [Int.add_assoc]))
theorem ex_sh (a : Spr) (k : Int) (f : Int → Rat) : Ex (shF a k) f = Ex a fun x => f (x + k) := by
  unfold shF
  induction a with
  | nil => rfl
  | cons p a ih => rw [List.map_cons, ex_cons, ex_cons, ih]
theorem can_sh {a : Spr} (h : Can a) (k : Int) : Can (shF a k) := by
  refine ⟨?_, fun p hp => ?_⟩
  · have h1 := h.asc
    unfold shF
    rw [List.map_map]
    rw [List.pairwise_map] at h1 ⊢
    exact h1.imp fun {p q} h => by show p.1 + k < q.1 + k; omega
  · obtain ⟨q, hq, rfl⟩ := List.mem_map.mp hp; exact h.nz q hq
theorem sum_one {a : Spr} (h : Can a) (k : Int) : gatF (sumF a [(k, 1)]) = shF a k := by
  rw [← can_gat (can_sh h k)]
  refine ex_wt fun f => ?_
  rw [ex_sum, ex_sh]
  refine congrArg (Ex a) (funext fun x => ?_)
  rw [ex_cons, ex_nil]; grind
theorem sh_zero (a : Spr) : shF a 0 = a := by
  unfold shF
  conv => rhs; rw [← List.map_id a]
  exact List.map_congr_left fun p _ => by show (p.1 + 0, p.2) = p; rw [Int.add_zero]
theorem mean_sum {a b : Spr} (ha : mass a = 1) (hb : mass b = 1) : Ex (gatF (sumF a b)) (fun x => (x : Rat)) = Ex a (fun x => (x : Rat)) + Ex b (fun x => (x : Rat)) := by
  rw [ex_gat, ex_sum]
  have e : (fun x : Int => Ex b fun y => ((x + y : Int) : Rat)) = fun x : Int => (x : Rat) + Ex b fun y => (y : Rat) := by
    funext x
    have e2 : (fun y : Int => ((x + y : Int) : Rat)) = fun y : Int => (x : Rat) + (y : Rat) := by funext y; rw [Rat.intCast_add]
    rw [e2, ex_add, ex_const, hb]; grind
  rw [e, ex_add, ex_const, ha]; grind
theorem gat_rev {a : Spr} (h : Can a) : gatF a.reverse = a := by
  rw [← can_gat h]
  conv => rhs; rw [can_gat h]
  have e : gatF a.reverse = gatF a := ex_wt fun f => ex_perm (List.reverse_perm a) f
  rw [can_gat h, e, can_gat h]
theorem ex_mix2 (a b : Spr) (c d : Rat) (f : Int → Rat) : Ex (mixF [a, b] [c, d]) f = c * Ex a f + d * Ex b f := by
  rw [ex_mix]
  show c * Ex a f + (d * Ex b f + 0) = _
  grind
theorem ex_mix1 (a : Spr) (c : Rat) (f : Int → Rat) : Ex (mixF [a] [c]) f = c * Ex a f := by
  rw [ex_mix]
  show c * Ex a f + 0 = _
  grind
theorem mix_same {a : Spr} (h : Can a) {c d : Rat} (hs : c + d = 1) : gatF (mixF [a, a] [c, d]) = a := by
  have e : gatF (mixF [a, a] [c, d]) = gatF a := ex_wt fun f => by rw [ex_mix2]; grind
  rw [e, can_gat h]
theorem mix_one {a : Spr} (h : Can a) : gatF (mixF [a] [1]) = a := by
  have e : gatF (mixF [a] [1]) = gatF a := ex_wt fun f => by rw [ex_mix1]; grind
  rw [e, can_gat h]
theorem mix_first {a b : Spr} (h : Can a) : gatF (mixF [a, b] [1, 0]) = a := by
  have e : gatF (mixF [a, b] [1, 0]) = gatF a := ex_wt fun f => by rw [ex_mix2]; grind
  rw [e, can_gat h]
theorem mean_mix (a b : Spr) (c d : Rat) : Ex (gatF (mixF [a, b] [c, d])) (fun x => (x : Rat)) = c * Ex a (fun x => (x : Rat)) + d * Ex b (fun x => (x : Rat)) := by rw [ex_gat, ex_mix2]
theorem mix_dist (a b t : Spr) (c d : Rat) : gatF (sumF (gatF (mixF [a, b] [c, d])) t) = gatF (mixF [gatF (sumF a t), gatF (sumF b t)] [c, d]) := ex_wt fun f => by
  rw [ex_sum, ex_gat, ex_mix2, ex_mix2, ex_gat, ex_gat, ex_sum, ex_sum]
theorem mass_mix {a b : Spr} {c d : Rat} (ha : mass a = 1) (hb : mass b = 1) (hs : c + d = 1) : mass (gatF (mixF [a, b] [c, d])) = 1 := by
  show Ex (gatF (mixF [a, b] [c, d])) (fun _ => 1) = 1
  have ha : Ex a (fun _ => 1) = 1 := ha
  have hb : Ex b (fun _ => 1) = 1 := hb
  rw [ex_gat, ex_mix2, ha, hb]; grind
end MX

namespace MX
open PySem L2 DL
/-! ### spreads within an interval: more than 64 items, fewer than 64 values -/
structure TyG (n m : Nat) (lo : Int) (w : Nat) (s : Spr) : Prop where
  q : ∃ N b : Nat, 0 < N ∧ N < 2 ^ n ∧ b < 2 ^ n ∧ ∀ p ∈ s, Sq N b p.2
  v : ∀ p ∈ s, lo ≤ p.1 ∧ p.1 < lo + w
  len : s.length ≤ m
theorem TyG.acc {n m w : Nat} {lo : Int} {s : Spr} (h : TyG n m lo w s) : (acc s).length ≤ w := few_of h.v
theorem TyG.qb {n m w : Nat} {lo : Int} {s : Spr} (h : TyG n m lo w s) : ∀ p ∈ s, Qb n p.2 := fun p hp => by
  obtain ⟨⟨N, b, h1, h2, h3, h4⟩, _, _⟩ := h
  exact sq_qb h1 h2 h3 (h4 p hp)
theorem thou {k b n m : Nat} (hk : k ≤ 1024) (hb : b ≤ 2 ^ n) (h : n + 10 ≤ m) : k * b ≤ 2 ^ m := by
  have h1 : k * b ≤ 1024 * 2 ^ n := Nat.mul_le_mul hk hb
  have h2 : 1024 * 2 ^ n = 2 ^ (n + 10) := by rw [Nat.pow_add]; omega
  exact Nat.le_trans (by omega) (pow_lt h)
theorem fin_g {N b n k m : Nat} (h1 : 0 < N) (h2 : N < 2 ^ n) (h3 : b < 2 ^ m) (hk : k ≤ 1000) (hn : n ≤ 3900) (hm : m ≤ 3880) : Fin N b k := by
  refine ⟨h1, Nat.lt_of_lt_of_le h2 (pow_lt hn), ?_⟩
  have := thou (k := k + 1) (b := b + 1) (n := m) (m := 3890) (by omega) h3 (by omega)
  exact Nat.lt_of_le_of_lt this (Nat.pow_lt_pow_right (by decide) (by decide))
theorem TyG.fine {n m w : Nat} {lo : Int} {s : Spr} (h : TyG n m lo w s) (hn : n ≤ 3000) (hm : m ≤ 1000) : Fine (s.map (·.2)) := by
  obtain ⟨⟨N, b, h1, h2, h3, h4⟩, _, h6⟩ := h
  exact ⟨N, b, fin_g h1 h2 h3 (by rw [List.length_map]; omega) (by omega) (by omega), fun r hr => by obtain ⟨p, hp, rfl⟩ := List.mem_map.mp hr; exact h4 p hp⟩
theorem TyG.gd {n m w : Nat} {lo : Int} {s : Spr} (h : TyG n m lo w s) (hn : n ≤ 3000) (hm : m ≤ 1000) (hw : w < 64) : Gd s := ⟨h.fine hn hm, by have := h.len; omega, Nat.lt_of_le_of_lt h.acc hw⟩
theorem gat_lenA (s : Spr) : (gatF s).length ≤ (acc s).length := by
  unfold gatF
  refine Nat.le_trans (List.length_filterMap_le _ _) ?_
  rw [(srt_perm _).length_eq, List.length_map]
  exact Nat.le_refl _
theorem TyG.gat {n m w : Nat} {lo : Int} {s : Spr} (h : TyG n m lo w s) (hm : m ≤ 1000) : TyG (n + 10) w lo w (gatF s) := by
  obtain ⟨⟨N, b, h1, h2, h3, h4⟩, h5, h6⟩ := h
  have hs := wt_sq h1 (s := s) fun r hr => by obtain ⟨p, hp, rfl⟩ := List.mem_map.mp hr; exact h4 p hp
  have hb : s.length * b < 2 ^ (n + 10) := by
    have e : (2 : Nat) ^ (n + 10) = 1024 * 2 ^ n := by rw [Nat.pow_add]; omega
    rw [e]
    exact Nat.lt_of_le_of_lt (Nat.mul_le_mul_left _ (Nat.le_of_lt h3)) (Nat.mul_lt_mul_of_pos_right (by omega) (Nat.two_pow_pos n))
  refine ⟨⟨N, s.length * b, h1, Nat.lt_of_lt_of_le h2 (pow_lt (by omega)), hb, fun p hp => by rw [(gat_mem hp).2]; exact hs _⟩, fun p hp => ?_, Nat.le_trans (gat_lenA s) (few_of h5)⟩
  obtain ⟨q, hq, e⟩ := List.mem_map.mp (gat_mem hp).1
  rw [← e]
  exact h5 q hq
theorem TyG.sum {n m w n' m' w' : Nat} {lo lo' : Int} {s t : Spr} (h : TyG n m lo w s) (h' : TyG n' m' lo' w' t) : TyG (n + n') (m * m') (lo + lo') (w + w') (sumF s t) := by
  obtain ⟨⟨N, b, h1, h2, h3, h4⟩, h5, h6⟩ := h
  obtain ⟨⟨M, c, g1, g2, g3, g4⟩, g5, g6⟩ := h'
  refine ⟨⟨N * M, b * c, Nat.mul_pos h1 g1, ?_, ?_, fun p hp => ?_⟩, fun p hp => ?_, Nat.le_trans (sum_len s t) (Nat.mul_le_mul h6 g6)⟩
  · rw [Nat.pow_add]; exact Nat.mul_lt_mul_of_lt_of_le h2 (Nat.le_of_lt g2) (Nat.two_pow_pos _)
  · rw [Nat.pow_add]; exact Nat.mul_lt_mul_of_lt_of_le h3 (Nat.le_of_lt g3) (Nat.two_pow_pos _)
  · obtain ⟨a, ha, hb⟩ := List.mem_flatMap.mp hp
    obtain ⟨q, hq, rfl⟩ := List.mem_map.mp hb
    exact sq_mul (h4 a ha) (g4 q hq)
  · obtain ⟨a, ha, hb⟩ := List.mem_flatMap.mp hp
    obtain ⟨q, hq, rfl⟩ := List.mem_map.mp hb
    have := h5 a ha
    have := g5 q hq
    show lo + lo' ≤ a.1 + q.1 ∧ a.1 + q.1 < lo + lo' + ((w + w' : Nat) : Int)
    omega
theorem TyG.of {n : Nat} {s : Spr} {lo : Int} {w m : Nat} (h : Ty n s) (hv : ∀ p ∈ s, lo ≤ p.1 ∧ p.1 < lo + w) (hl : s.length ≤ m) : TyG n m lo w s := ⟨h.q, hv, hl⟩
theorem TyG.wide {n m w w' : Nat} {lo lo' : Int} {s : Spr} (h : TyG n m lo w s) (h1 : lo' ≤ lo) (h2 : lo + w ≤ lo' + w') : TyG n m lo' w' s := ⟨h.q, fun p hp => by have := h.v p hp; omega, h.len⟩
theorem TyG.mono {n m w n' m' : Nat} {lo : Int} {s : Spr} (h : TyG n m lo w s) (h1 : n ≤ n') (h2 : m ≤ m') : TyG n' m' lo w s := by
  obtain ⟨⟨N, b, a1, a2, a3, a4⟩, h5, h6⟩ := h
  exact ⟨⟨N, b, a1, Nat.lt_of_lt_of_le a2 (pow_lt h1), Nat.lt_of_lt_of_le a3 (pow_lt h1), a4⟩, h5, by omega⟩
theorem TyG.mn {n m w : Nat} {lo : Int} {s : Spr} (h : TyG n m lo w s) (hn : n ≤ 1000) (hm : m ≤ 1000) (hl : -1000 ≤ lo ∧ lo ≤ 1000) (hw : w ≤ 1000) : Mn s := by
  have hv : ∀ p ∈ s, Bt 12 p.1 := fun p hp => by
    have := h.v p hp
    exact bt_range (by have : (2 : Int) ^ 12 = 4096 := by decide
                       omega) (by have : (2 : Int) ^ 12 = 4096 := by decide
                                  omega)
  have hq := h.qb
  obtain ⟨⟨N, b, h1, h2, h3, h4⟩, h5, h6⟩ := h
  refine ⟨⟨N, 2 ^ 12 * b, fin_g h1 h2 (m := n + 12) ?_ (by rw [List.length_map]; omega) (by omega) (by omega), fun r hr => ?_⟩, fun p hp => ⟨(hv p hp).mono (by decide), (hq p hp).mono (by omega)⟩, by omega⟩
  · have e : (2 : Nat) ^ (n + 12) = 2 ^ 12 * 2 ^ n := by rw [Nat.pow_add, Nat.mul_comm]
    rw [e]
    exact Nat.mul_lt_mul_of_pos_left h3 (Nat.two_pow_pos 12)
  · obtain ⟨p, hp, rfl⟩ := List.mem_map.mp hr
    exact sq_intmul h1 (hv p hp) (h4 p hp)
/-- the law's spreads lie within their interval, their chances are above 0 and add up to 1 -/
theorem spr_in {n : Nat} {low width : Int} (h : SprOk n width) (cell : Int) : ∀ p ∈ sprF cell n low width, low ≤ p.1 ∧ p.1 < low + width := fun p hp => by
  have h1 := (gat_mem hp).1
  obtain ⟨q, hq, e⟩ := List.mem_map.mp h1
  unfold wtd at hq
  obtain ⟨k, hk, rfl⟩ := List.mem_map.mp hq
  rw [List.mem_range] at hk
  have e : (sprV cell n low width).getD k 0 = p.1 := e
  rw [← e, List.getD_eq_getElem?_getD, List.getElem?_eq_getElem hk, Option.getD_some]
  exact sprV_mem h cell (List.getElem_mem hk)
theorem wtd_snd {vs ws : List Int} (h : vs.length = ws.length) : (wtd vs ws).map (·.2) = csF ws := by
  unfold wtd csF
  rw [List.map_map]
  refine List.ext_getElem? fun i => ?_
  rw [List.getElem?_map, List.getElem?_map]
  by_cases hi : i < vs.length
  · rw [List.getElem?_range hi, List.getElem?_eq_getElem (show i < ws.length by omega)]
    show some (Rat.divInt (ws.getD i 0) ws.sum) = some (Rat.divInt ws[i] ws.sum)
    rw [List.getD_eq_getElem?_getD, List.getElem?_eq_getElem (show i < ws.length by omega), Option.getD_some]
  · rw [List.getElem?_eq_none (by rw [List.length_range]; omega), List.getElem?_eq_none (show ws.length ≤ i by omega)]; rfl
theorem spr_mass {n : Nat} {low width : Int} (h : SprOk n width) (cell : Int) : mass (sprF cell n low width) = 1 := by
  have hw := spr_wd (low := low) h cell
  unfold sprF
  rw [mass_gat, mass_eq, wtd_snd hw.len, sum_cs (by have := hw.sum; omega)]
theorem spr_gt {n : Nat} {low width : Int} (h : SprOk n width) (cell : Int) : ∀ p ∈ sprF cell n low width, 0 < p.2 := gat_pos fun p hp => by
  have hw := spr_wd (low := low) h cell
  have hm : p.2 ∈ (wtd (sprV cell n low width) (sprW cell n width)).map (·.2) := List.mem_map.mpr ⟨p, hp, rfl⟩
  rw [wtd_snd hw.len] at hm
  exact cs_pos (by have := hw.sum; omega) (fun v hv => by have := hw.pos v hv; omega) _ hm
end MX

/-! Errors raised out of an except suite; slices of tuples and of the script; chains. -/
namespace DL
open PySem L2 PyProof.Rows
section
variable {P : Program} {w : World} {K : PySem.W.Frag} {mg : Str → Option Value} {base : Heap} {x qual : Str} {st : Stmt} {f : Addr} {fd : FuncData} {N ps : List Str} {k : Nat} {α : Type} {fs : α → List SD} {pre : α → Prop} {fo : α → Option D} {C : Value}
abbrev cxT (P : Program) (w : World) (K : PySem.W.Frag) (mg : Str → Option Value) (base : Heap) (N : List Str) (qual : Str) (st : Stmt) (f : Addr) (cdv : Value) (A : Around) (outer : List Env) (s : Shared) (H : Hp) (E : XK) : Cx := cxOf (L2N.CX P w) P w K mg base N qual (defScope st) f cdv A outer s H E
/-- a def that hands back data or raises, its errors without a context -/
theorem fn_T (F : Fun K x qual st f fd) (S : FnScope N ps (defScope st)) (hn : ∀ a, (fs a).length = ps.length)
    (body : ∀ (cdv : Value) (A : Around) (outer : List Env) (s : Shared) (H : Hp) (E : XK), Room k (A.deeper (PyProof.Rows.envOfC qual (defScope st) s.heap.objs.size f cdv)) →
      ∃ t, PSs (cxT P w K mg base N qual st f cdv A outer s H E) (defBody st) t ∧ ∀ a, pre a → (∀ d, fo a = some d → Run K E t (envOf N (fs a)) (.rt d) ∨ (d = .none ∧ ∃ e, Run K E t (envOf N (fs a)) (.nx e))) ∧ (fo a = none → Run K E t (envOf N (fs a)) (.ex C))) :
    FnOk P w K mg base (L2N.CX P w) (k + 1) f fd ps (SpX K fs pre C fo) := by
  obtain ⟨c1, c2, c3, c4, c5, c6, cdv, c7, c8, rfl, look, isCode⟩ := F.ex
  refine L2.fn_of look isCode S (fun vs H Q E h => ?_) fun A outer s H vs Q E room h => ?_
  · obtain ⟨a, G, gh, ha, _⟩ := h
    rw [ha.len, hn a]
  · obtain ⟨a, G, gh, ha, hp, q1, q2⟩ := h
    obtain ⟨t, h1, h2⟩ := body cdv A outer s H E room
    refine ⟨t, h1, ?_⟩
    obtain ⟨h3, h4⟩ := h2 a hp
    cases e : fo a with
    | none => exact h4 e G H G H _ _ (ok_start gh ha) fun G' H' fw => q2 e G' H' fw
    | some d =>
      rcases h3 d e with h5 | ⟨ed, en, h5⟩
      · exact h5 G H G H _ _ (ok_start gh ha) fun v G' H' fw hv => q1 d e v G' H' fw hv
      · subst ed
        exact h5 G H G H _ _ (ok_start gh ha) fun G' H' σ' ok' => q1 _ e _ G' H' ok'.fw .non
end
section
variable {X : Cx} {W : WX} {x m : Str} {C : Addr} {j : Nat} {p p2 pos pos2 cpos : Pos}
theorem ps_errT (hc : X.calm = true) (tk : L2N.Takes X W) (F : ErrC X.K X.mg x C) (hg : Gl X x) (hdb : (x == ("__debug__" : Str)) = false := by decide) :
    PS X (.Raise (some (.Call (.Name x p) [.Constant (.str m) j p2] [] pos)) none pos2) (fun _ σ H => W (.ref C) none σ H) :=
  L2N.ps_raise hc tk (L2N.pmk_own PySem.F.excBase_ValueError F.ex F.g F.kp (raises_own F.sub F.ty) hg hdb)
theorem pmk5_err (F : ErrC X.K X.mg x C) (hg : Gl X x) (hdb : (x == ("__debug__" : Str)) = false := by decide) : L2H.PMk5 X (.Call (.Name x p) [.Constant (.str m) j p2] [] pos) (fun _ H Q => Q (.ref C) none H) := by
  intro pn s σ H Q inv want
  refine wpAny_Call_Name_kw (ld_glob inv hg F.g ?_ hdb)
  refine PySem.W.callWith_K (h₀ := X.base) inv.ok.mod.kin F.kp (thn ((pa_cons pe_str pa_nil : PA X [.Constant (.str m) j p2] (tCons (tC (.str m)) tNil)).run pos pn s σ H (fun zs HH => zs = [V.str m] ∧ H = HH) inv ⟨rfl, rfl⟩) fun args s1 got => ?_)
  obtain ⟨zs, HH, inv1, rel, e1, e2⟩ := got
  subst e1
  subst e2
  refine ⟨inv1.kIn, ?_⟩
  match args, rel with
  | [arg], .cons _ .nil =>
    obtain ⟨b1, b2, b3, b4, b5, b6, b7, b8, b9, b10, b11, b12, b13, b14, b15, b16, isN, isC, isM, isI, isT⟩ := exc_obj inv1.kIn F.ex
    exact wpAny_call_exc_subT PySem.F.excBase_ValueError isT isC isM isI (fun hh ad made => L2H.mk_of5 inv1 made (raises_own F.sub F.ty) want (inv1.hok.gone made.new)) (by show 1 ≤ sizeLine; rw [sizeLine_eq]; omega)
theorem ps_errHN (hot : L2H.HotC X) (tk : L2.Takes X W) (F : ErrC X.K X.mg x C) (hg : Gl X x) (hdb : (x == ("__debug__" : Str)) = false := by decide) :
    PS X (.Raise (some (.Call (.Name x p) [.Constant (.str m) j p2] [] pos)) (some (.Constant .none 0 cpos)) pos2) (fun _ σ H => W (.ref C) none σ H) :=
  L2H.ps_raiseHN hot tk (pmk5_err F hg hdb)
end
variable {K : PySem.W.Frag} {E : XK} {env : EnvD}
section
variable {α : Type} {fs : α → List SD} {pre : α → Prop} {fo : α → Option D} {C c C2 : Value} {t : TA} {ss : List SD} {ts : Addr → Value → Option Addr → TS} {Wout : WX}
/-- try: f(..) except c: .., f does not raise -/
theorem run_onlyN {x : α} {d : D} (h : EvA K t env ss) (e : ss = fs x) (hp : pre x) (hn : fo x = some d) :
    Run K E (fun D σ H => tDrop (tCallS (SpX K fs pre C fo) (WE (wOnly K c ts Wout D)) t) D σ H) env (.nx env) := fun G0 H0 G H σ D ok q =>
  h G0 H0 G H σ ok _ fun vs G1 H1 a hv => ⟨x, G1, a.gh, by rw [← e]; exact hv, hp, fun z hz v G2 H2 a2 _ => q G2 H2 σ ((ok.go a).go a2), fun z => by rw [hn] at z; cases z⟩
/-- .. f raises, the suite raises another -/
theorem run_onlyR {x : α} (h : EvA K t env ss) (e : ss = fs x) (hp : pre x) (hn : fo x = none) (hm : PySem.W.exmOne K C c = some true) (hs : ∀ a, ts a C none = fun D σ H => E C2 none H) :
    Run K E (fun D σ H => tDrop (tCallS (SpX K fs pre C fo) (WE (wOnly K c ts Wout D)) t) D σ H) env (.ex C2) := fun G0 H0 G H σ D ok q =>
  h G0 H0 G H σ ok _ fun vs G1 H1 a hv => ⟨x, G1, a.gh, by rw [← e]; exact hv, hp, fun z hz => (by rw [hn] at hz; cases hz), fun _ G2 H2 a2 => ⟨true, hm, fun _ b _ => by rw [hs]; exact q G2 H2 ((ok.fw.trans a).trans a2), fun z => nomatch z⟩⟩
end
section
variable {ta tb tc : TE} {ds : List D} {i j k : Int}
/-- a slice of a tuple that is not the whole -/
theorem ed_sliceT {tl th : TO} {lo hi : Option Int} (ha : EvD K ta env (.tuple ds)) (hl : EvO K tl env lo) (hh : EvO K th env hi) (hn : ¬(HT.sIx ds.length 0 lo = 0 ∧ HT.sIx ds.length ds.length hi = ds.length)) : EvD K (tSl (rSlT K) ta tl th) env (.tuple (cutD ds lo hi)) := fun G0 H0 G H σ ok Q q =>
  ha G0 H0 G H σ ok _ fun v G1 H1 a hv => hl G0 H0 G1 H1 σ (ok.go a) _ fun G2 H2 a2 => hh G0 H0 G2 H2 σ ((ok.go a).go a2) _ fun G3 H3 a3 => by
    obtain ⟨p, xs, e, hs, hd⟩ := (hv.mono (a2.trans a3).gg).tup_inv
    subst e
    refine ⟨p, xs, rfl, sqT_mono a3.gh hs, by rw [hd.len]; exact hn, fun r hr => ?_⟩
    have fw := Fw.new (o := .tup (cutV xs lo hi)) a3.gh hr
    refine q _ _ _ (((a.trans a2).trans a3).trans fw) (.tup (.inl (.inl upd_same)) ?_)
    have key : Dds K G3 (cutV xs lo hi) (cutD ds lo hi) := by
      unfold cutV cutD
      rw [hd.len]
      exact (hd.drop _).take _
    exact key.mono fw.gg
/-- a slice of the script -/
theorem en_sliceR {ns : List Int} {tl th : TO} {lo hi : Option Int} (m : Nat) (h : env[m]? = some (.scr ns)) (hl : EvO K tl env lo) (hh : EvO K th env hi) : EvN K (tSl (rSlL K) (tVar m) tl th) env (cutD (ns.map PyData.int) lo hi) := fun G0 H0 G H σ ok Q q =>
  ev_scr m h G0 H0 G H σ ok _ fun v G1 H1 a hv => hl G0 H0 G1 H1 σ (ok.go a) _ fun G2 H2 a2 => hh G0 H0 G2 H2 σ ((ok.go a).go a2) _ fun G3 H3 a3 => by
    obtain ⟨p, e, hs⟩ := hv
    cases e
    refine ⟨p, _, rfl, a3.gh.seq ((a2.trans a3).gg.seq hs), fun r hr => ?_⟩
    refine q r _ G3 _ (((a.trans a2).trans a3).trans (Fw.hid a3.gh hr)) (((a.trans a2).trans a3).hh.free hr) (a3.gh.free hr) upd_same ?_
    unfold cutV cutD
    rw [List.length_map, List.length_map]
    exact ((Dds.ints ns).drop _).take _
end
theorem ed_chain {ta tb tc : TE} {g g' : Int → Int → Bool} {i j k : Int} (ha : EvD K ta env (.int i)) (hb : EvD K tb env (.int j)) (hc : EvD K tc env (.int k)) : EvD K (tChain (rI0 fun i j => .bl (g i j)) (rI0 fun i j => .bl (g' i j)) ta tb tc) env (.bool (g i j && g' j k)) := fun G0 H0 G H σ ok Q q =>
  ha G0 H0 G H σ ok _ fun v G1 H1 a hv => hb G0 H0 G1 H1 σ (ok.go a) _ fun u G2 H2 a2 hu => by
    refine ⟨i, j, hv.int_inv, hu.int_inv, g i j, rfl, ?_⟩
    cases e : g i j with
    | true => exact iteT (hc G0 H0 G2 H2 σ ((ok.go a).go a2) _ fun w G3 H3 a3 hw => ⟨j, k, hu.int_inv, hw.int_inv, by
        have := q (.bl (g' j k)) G3 H3 ((a.trans a2).trans a3)
        rw [e] at this
        exact this (.bl _)⟩)
    | false =>
      refine iteF ?_
      have := q (.bl false) G2 H2 (a.trans a2)
      rw [e] at this
      exact this (.bl _)
theorem kit_ii : kitB "int" "int" = some true := by decide +kernel
theorem kit_ti : kitB "tuple" "int" = some false := by decide +kernel
theorem kit_it : kitB "int" "tuple" = some false := by decide +kernel
end DL

namespace MX
open PySem L2 DL
/-! ### layers with any parts -/
inductive Pt
  | i (x : Int)
  | f (t l : Int)
abbrev encP : Pt → PyData
  | .i x => .int x
  | .f t l => .tuple [.int t, .int l]
structure RL where
  w : Str
  ps : List Pt
abbrev encR (l : RL) : PyData := .tuple (.str l.w :: l.ps.map encP)
structure RT where
  price : Int
  ls : List RL
abbrev encRT (t : RT) : PyData := .tuple [.int t.price, .list (t.ls.map encR)]
def amB : Pt → Bool
  | .i x => decide (0 ≤ x) && decide (x ≤ 1000)
  | .f _ _ => false
def shB : Pt → Bool
  | .i _ => false
  | .f t l => (decide (l ≥ 1) && decide (((Nat.gcd t.natAbs l.natAbs : Nat) : Int) = 1)) && (decide (0 ≤ t) && decide (t ≤ l))
def leB : Pt → Pt → Bool
  | .i x, .i y => decide (x ≤ y)
  | _, _ => false
def lyB (l : RL) : Bool := if l.w = "share" then (match l.ps with
    | [p] => shB p
    | _ => false) else if l.w = "limit" then (match l.ps with
    | [p] => amB p
    | _ => false) else if l.w = "band" then (match l.ps with
    | [p, q] => amB p && (amB q && leB p q)
    | _ => false) else false
def trB (t : RT) : Bool := amB (.i t.price) && (decide (t.ls.length ≤ 4) && t.ls.all lyB)
def rawL : Lay → RL
  | .share r => ⟨"share", [.f r.num r.den]⟩
  | .limit c => ⟨"limit", [.i c]⟩
  | .band b c => ⟨"band", [.i b, .i c]⟩
def rawT (t : Tr) : RT := ⟨t.prem, t.ls.map rawL⟩
theorem rawT_enc (t : Tr) : encT t = encRT (rawT t) := by
  show PyData.tuple [.int t.prem, .list (t.ls.map encL)] = .tuple [.int t.prem, .list ((t.ls.map rawL).map encR)]
  rw [List.map_map, List.map_congr_left (g := encR ∘ rawL) fun l _ => by cases l <;> rfl]
/-- valid layers -/
def LayV : Lay → Prop
  | .share r => 0 ≤ r.num ∧ r.num ≤ r.den
  | .limit c => 0 ≤ c ∧ c ≤ 1000
  | .band b c => 0 ≤ b ∧ b ≤ c ∧ c ≤ 1000
theorem rawL_ok {l : Lay} (h : LayV l) : lyB (rawL l) = true := by
  cases l with
  | share r =>
    obtain ⟨h1, h2⟩ := h
    have hd := r.den_nz
    have hr : Nat.gcd r.num.natAbs r.den = 1 := r.reduced
    show ((decide ((r.den : Int) ≥ 1) && decide (((Nat.gcd r.num.natAbs (r.den : Int).natAbs : Nat) : Int) = 1)) && (decide (0 ≤ r.num) && decide (r.num ≤ (r.den : Int)))) = true
    rw [Int.natAbs_natCast, hr, decide_eq_true h1, decide_eq_true h2, decide_eq_true (show (r.den : Int) ≥ 1 by omega)]
    rfl
  | limit c =>
    show (decide (0 ≤ c) && decide (c ≤ 1000)) = true
    rw [decide_eq_true h.1, decide_eq_true h.2]; rfl
  | band b c =>
    obtain ⟨h1, h2, h3⟩ := h
    show ((decide (0 ≤ b) && decide (b ≤ 1000)) && ((decide (0 ≤ c) && decide (c ≤ 1000)) && decide (b ≤ c))) = true
    rw [decide_eq_true h1, decide_eq_true h2, decide_eq_true h3, decide_eq_true (show b ≤ 1000 by omega), decide_eq_true (show 0 ≤ c by omega)]; rfl
theorem layP_v {p0 p1 p2 p3 p4 p5 p6 p7 : Int} (h : PB p0 p1 p2 p3 p4 p5 p6 p7) : LayV (layP p0 p1 p2 p3 p4 p5 p6 p7) := by
  obtain ⟨t1, t2⟩ := tb_bd h
  have hk := layP_ok h
  unfold layP at *
  split at hk
  · rename_i c
    rw [if_pos c]
    exact ⟨hk.1, hk.2.1⟩
  · rename_i c
    rw [if_neg c]
    obtain ⟨b0, b1, b2, b3, b4, b5, b6, b7⟩ := h
    split
    · show 0 ≤ _ ∧ _ ≤ (1000 : Int)
      split
      · omega
      · split <;> omega
    · have k1 : 0 ≤ (if p5 = 0 then p6 else p3) ∧ (if p5 = 0 then p6 else p3) ≤ 1000 := by split <;> omega
      have k2 : 0 ≤ (if p5 = 0 then p7 else p4) ∧ (if p5 = 0 then p7 else p4) ≤ 1000 := by split <;> omega
      generalize (if p5 = 0 then p6 else p3) = u at k1 ⊢
      generalize (if p5 = 0 then p7 else p4) = v at k2 ⊢
      show 0 ≤ mn u v ∧ mn u v ≤ mx u v ∧ mx u v ≤ 1000
      unfold mn mx
      split <;> split <;> omega
structure TrV (t : Tr) : Prop where
  ls : ∀ l ∈ t.ls, LayV l
  few : t.ls.length ≤ 4
  prem : 0 ≤ t.prem ∧ t.prem ≤ 1000
theorem trF_v {cell most : Int} (h : 0 < most) (h2 : most ≤ 1001) : TrV (trF cell most) := by
  have hD := drT (cell := cell) h
  obtain ⟨x0, e0, a0, b0⟩ := hD.d0
  obtain ⟨x1, e1, a1, b1⟩ := hD.d1
  have g0 : (drawsF cell (limsT most)).getD 0 0 = x0 := by rw [List.getD_eq_getElem?_getD, e0]; rfl
  have g1 : (drawsF cell (limsT most)).getD 1 0 = x1 := by rw [List.getD_eq_getElem?_getD, e1]; rfl
  refine ⟨fun l hl => ?_, ?_, ?_⟩
  · obtain ⟨k, hk, rfl⟩ := List.mem_map.mp hl
    rw [List.mem_range, g1] at hk
    exact layP_v (hD.pb (by omega))
  · show ((List.range _).map _).length ≤ 4
    rw [List.length_map, List.length_range, g1]; omega
  · show 0 ≤ (drawsF cell (limsT most)).getD 0 0 ∧ (drawsF cell (limsT most)).getD 0 0 ≤ 1000
    rw [g0]; omega
theorem rawT_ok {t : Tr} (h : TrV t) : trB (rawT t) = true := by
  show ((decide (0 ≤ t.prem) && decide (t.prem ≤ 1000)) && (decide ((t.ls.map rawL).length ≤ 4) && (t.ls.map rawL).all lyB)) = true
  have hf := h.few
  rw [decide_eq_true h.prem.1, decide_eq_true h.prem.2, List.length_map, decide_eq_true hf]
  have : (t.ls.map rawL).all lyB = true := by
    rw [List.all_map, List.all_eq_true]
    exact fun l hl => rawL_ok (h.ls l hl)
  rw [this]; rfl
/-! ### showing -/
structure Sb (n k : Nat) (d : PyData) : Prop where
  lv : d.leavesShort 2000 = true
  sh : d.showable = true
  nd : d.hasDict = false
  dp : d.depth ≤ n
  bk : d.bulk ≤ k
structure Sbs (n k : Nat) (ds : List PyData) : Prop where
  lv : PyData.leavesShortAll 2000 ds = true
  sh : PyData.showableAll ds = true
  nd : PyData.hasDictAll ds = false
  dp : PyData.depthAll ds ≤ n
  bk : PyData.bulkAll ds ≤ k
theorem Sb.mono {n k n' k' : Nat} {d : PyData} (h : Sb n k d) (h1 : n ≤ n') (h2 : k ≤ k') : Sb n' k' d := ⟨h.lv, h.sh, h.nd, Nat.le_trans h.dp h1, Nat.le_trans h.bk h2⟩
theorem Sbs.mono {n k n' k' : Nat} {d : List PyData} (h : Sbs n k d) (h1 : n ≤ n') (h2 : k ≤ k') : Sbs n' k' d := ⟨h.lv, h.sh, h.nd, Nat.le_trans h.dp h1, Nat.le_trans h.bk h2⟩
theorem sbs_nil {n : Nat} : Sbs n 0 [] := ⟨by simp [PyData.leavesShortAll], by simp [PyData.showableAll], by simp [PyData.hasDictAll], by simp [PyData.depthAll], by simp [PyData.bulkAll]⟩
theorem sbs_cons {n k j : Nat} {d : PyData} {ds : List PyData} (h : Sb n k d) (hs : Sbs n j ds) : Sbs n (k + 1 + j) (d :: ds) := by
  refine ⟨?_, ?_, ?_, ?_, ?_⟩
  · simp only [PyData.leavesShortAll, h.lv, hs.lv, Bool.and_true]
  · simp only [PyData.showableAll, h.sh, hs.sh, Bool.and_true]
  · simp only [PyData.hasDictAll, h.nd, hs.nd, Bool.or_false]
  · have := h.dp; have := hs.dp; simp only [PyData.depthAll]; omega
  · have := h.bk; have := hs.bk; simp only [PyData.bulkAll]; omega
theorem sb_int {x : Int} (h : Bt 1900 x) : Sb 0 0 (.int x) := ⟨(leaf_int h).1, (leaf_int h).2, by simp [PyData.hasDict], by simp [PyData.depth], by simp [PyData.bulk]⟩
theorem sb_str {x : Str} {k : Nat} (h : (x.cps.toList.all fun c => decide (c < 16 ^ 8)) = true) (hk : x.cps.size ≤ k) : Sb 0 k (.str x) := ⟨by simpa only [PyData.leavesShort] using h, by simp [PyData.showable], by simp [PyData.hasDict], by simp [PyData.depth], by simpa [PyData.bulk] using hk⟩
theorem sb_lst {n k : Nat} {ds : List PyData} (h : Sbs n k ds) : Sb (n + 1) k (.list ds) := ⟨by simpa only [PyData.leavesShort] using h.lv, by simpa only [PyData.showable] using h.sh, by simpa only [PyData.hasDict] using h.nd, by have := h.dp; simp only [PyData.depth]; omega, by simpa only [PyData.bulk] using h.bk⟩
theorem sb_tup {n k : Nat} {ds : List PyData} (h : Sbs n k ds) : Sb (n + 1) k (.tuple ds) := ⟨by simpa only [PyData.leavesShort] using h.lv, by simpa only [PyData.showable] using h.sh, by simpa only [PyData.hasDict] using h.nd, by have := h.dp; simp only [PyData.depth]; omega, by simpa only [PyData.bulk] using h.bk⟩
theorem sbs_map {α : Type} {n k : Nat} {f : α → PyData} : ∀ {xs : List α}, (∀ x ∈ xs, Sb n k (f x)) → Sbs n ((k + 1) * xs.length) (xs.map f)
  | [], _ => sbs_nil
  | x :: xs, h => by
    have := sbs_cons (h x (List.mem_cons_self)) (sbs_map fun y hy => h y (List.mem_cons_of_mem _ hy))
    rw [List.map_cons]
    exact this.mono (Nat.le_refl _) (by rw [List.length_cons, Nat.mul_succ]; omega)
theorem sb_shw {n k : Nat} {d : PyData} (h : Sb n k d) (hn : n ≤ 60) (hk : k ≤ 5000) (hs : (∃ ds, d = .list ds) ∨ ∃ ds, d = .tuple ds) : Shw d := shw_of h.lv h.sh h.nd (Nat.le_trans h.dp hn) (Nat.le_trans h.bk hk) hs
def PtE : Pt → Prop
  | .i x => Bt 1900 x
  | .f t l => Bt 1900 t ∧ Bt 1900 l
def WOk (w : Str) : Prop := (w.cps.toList.all fun c => decide (c < 16 ^ 8)) = true ∧ w.cps.size ≤ 10
theorem w_share : WOk "share" := ⟨by decide +kernel, by decide +kernel⟩
theorem w_limit : WOk "limit" := ⟨by decide +kernel, by decide +kernel⟩
theorem w_band : WOk "band" := ⟨by decide +kernel, by decide +kernel⟩
structure RLE (l : RL) : Prop where
  w : WOk l.w
  few : l.ps.length ≤ 4
  ps : ∀ p ∈ l.ps, PtE p
theorem sb_P {p : Pt} (h : PtE p) : Sb 1 2 (encP p) := by
  cases p with
  | i x => exact (sb_int h).mono (by decide) (by decide)
  | f t l => exact (sb_tup (sbs_cons (sb_int h.1) (sbs_cons (sb_int h.2) sbs_nil))).mono (by decide) (by decide)
theorem sb_R {l : RL} (h : RLE l) : Sb 2 30 (encR l) := by
  have h2 := sbs_map (f := encP) fun p hp => sb_P (h.ps p hp)
  have h3 := h.few
  exact sb_tup ((sbs_cons ((sb_str h.w.1 h.w.2).mono (by decide) (Nat.le_refl _)) h2).mono (Nat.le_refl _) (by omega))
theorem shw_RT {t : RT} (hp : Bt 1900 t.price) (h : ∀ l ∈ t.ls, RLE l) (hl : t.ls.length ≤ 20) : Shw (encRT t) := by
  have h2 := sbs_map (f := encR) fun l hl => sb_R (h l hl)
  have h3 : Sb 3 1000 (.list (t.ls.map encR)) := (sb_lst h2).mono (by decide) (by omega)
  exact sb_shw (sb_tup (sbs_cons ((sb_int hp).mono (by decide) (Nat.le_refl _)) (sbs_cons h3 sbs_nil))) (by decide) (by decide) (.inr ⟨_, rfl⟩)
theorem rawL_e {l : Lay} (h : LayOk l) : RLE (rawL l) := by
  have big : ∀ {x : Int}, 0 ≤ x → x ≤ 1000000 → Bt 1900 x := fun h0 h1 => Bt.mono (n := 30) (bt_range (by omega) (by omega)) (by decide)
  cases l with
  | share r =>
    obtain ⟨_, _, hq⟩ := h
    exact ⟨w_share, by show 1 ≤ 4; decide, fun p hp => by
      rw [show (rawL (.share r)).ps = [.f r.num r.den] from rfl, List.mem_singleton] at hp; rw [hp]; exact ⟨hq.num.mono (by decide), hq.den.mono (by decide)⟩⟩
  | limit c => exact ⟨w_limit, by show 1 ≤ 4; decide, fun p hp => by
      rw [show (rawL (.limit c)).ps = [.i c] from rfl, List.mem_singleton] at hp; rw [hp]; exact big h.1 h.2⟩
  | band b c =>
    obtain ⟨h1, h2, h3⟩ := h
    exact ⟨w_band, by show 2 ≤ 4; decide, fun p hp => by
      rw [show (rawL (.band b c)).ps = [.i b, .i c] from rfl] at hp
      simp only [List.mem_cons, List.not_mem_nil, or_false] at hp
      rcases hp with e | e <;> rw [e]
      · exact big h1 (by omega)
      · exact big (by omega) h3⟩
end MX

namespace MX
open PySem L2 DL
/-! ### houses -/
structure Wt where
  prem : Int
  lines : List Spr
  turns : Spr
structure Hs where
  ws : List Wt
  ts : List Tr
abbrev encW (w : Wt) : PyData := .tuple [.int w.prem, .list (w.lines.map encS), encS w.turns]
abbrev encH (h : Hs) : PyData := .tuple [.list (h.ws.map encW), .list (h.ts.map encT)]
/-- a spread of at most m values from lo on, below hi -/
structure SpG (lo hi : Int) (m : Nat) (s : Spr) : Prop where
  ty : Ty 46 s
  can : Can s
  pos : ∀ p ∈ s, 0 < p.2
  mass : mass s = 1
  len : s.length ≤ m
  val : ∀ p ∈ s, lo ≤ p.1 ∧ p.1 < hi
theorem spg_of {n : Nat} {low width : Int} (h : SprOk n width) (hl : -1000000 ≤ low ∧ low ≤ 1000000) (cell : Int) (hf : (sprF cell n low width).length ≤ n) : SpG low (low + width) n (sprF cell n low width) :=
  ⟨ty_spr h hl cell, gat_can _, spr_gt h cell, spr_mass h cell, hf, spr_in h cell⟩
structure WtOk (n : Int) (w : Wt) : Prop where
  prem : 0 ≤ w.prem ∧ w.prem ≤ 1000
  few : w.lines.length ≤ 3
  lines : ∀ s ∈ w.lines, SpG 0 1001 3 s
  turns : SpG 0 n 2 w.turns
structure HsOk (h : Hs) : Prop where
  nw : 1 ≤ h.ws.length ∧ h.ws.length ≤ 4
  nt : 1 ≤ h.ts.length ∧ h.ts.length ≤ 4
  ws : ∀ w ∈ h.ws, WtOk h.ws.length w
  ts : ∀ t ∈ h.ts, TrOk t ∧ TrV t
theorem sb_S {lo hi : Int} {m : Nat} {s : Spr} (h : SpG lo hi m s) (hm : m ≤ 50) : Sb 3 (6 * m) (encS s) := by
  have h2 := sbs_map (n := 2) (k := 5) (f := encI) (xs := s) fun p hp =>
    (sb_tup (sbs_cons ((sb_int ((h.ty.v p hp).mono (by decide : 46 ≤ 1900))).mono (by decide) (Nat.le_refl _)) (sbs_cons (sb_tup (sbs_cons (sb_int ((h.ty.qb p hp).num.mono (by decide : 46 ≤ 1900))) (sbs_cons (sb_int ((h.ty.qb p hp).den.mono (by decide : 46 ≤ 1900))) sbs_nil))) sbs_nil))).mono (by decide) (by decide)
  have := h.len
  exact (sb_lst h2).mono (by decide) (by omega)
theorem sb_W {n : Int} {w : Wt} (h : WtOk n w) : Sb 5 80 (encW w) := by
  have h1 : Sbs 3 ((6 * 3 + 1) * w.lines.length) (w.lines.map encS) := sbs_map fun s hs => sb_S (h.lines s hs) (by decide)
  have h2 := sb_S h.turns (by decide)
  have hf := h.few
  have hb : Bt 1900 w.prem := Bt.mono (n := 30) (bt_range (by have := h.prem; omega) (by have := h.prem; omega)) (by decide)
  exact (sb_tup (sbs_cons ((sb_int hb).mono (by decide) (Nat.le_refl _)) (sbs_cons ((sb_lst h1).mono (Nat.le_refl 4) (by omega : _ ≤ 57)) (sbs_cons (h2.mono (by decide) (Nat.le_refl _)) sbs_nil)))).mono (by decide) (by decide)
theorem sb_T {t : Tr} (h : TrOk t) : Sb 4 400 (encT t) := by
  rw [rawT_enc]
  have h2 : Sbs 2 ((30 + 1) * (t.ls.map rawL).length) ((t.ls.map rawL).map encR) := sbs_map fun l hl => by
    obtain ⟨x, hx, rfl⟩ := List.mem_map.mp hl
    exact sb_R (rawL_e (h.ok x hx))
  rw [List.length_map] at h2
  have hf := h.few
  exact (sb_tup (sbs_cons ((sb_int (h.prem.mono (by decide : 60 ≤ 1900))).mono (by decide) (Nat.le_refl _)) (sbs_cons ((sb_lst h2).mono (Nat.le_refl 3) (by omega : _ ≤ 310)) sbs_nil))).mono (by decide) (by decide)
theorem sb_H {h : Hs} (ok : HsOk h) : Sb 7 2000 (encH h) := by
  have h1 : Sbs 5 ((80 + 1) * h.ws.length) (h.ws.map encW) := sbs_map fun w hw => sb_W (ok.ws w hw)
  have h2 : Sbs 4 ((400 + 1) * h.ts.length) (h.ts.map encT) := sbs_map fun t ht => sb_T (ok.ts t ht).1
  have := ok.nw
  have := ok.nt
  exact (sb_tup (sbs_cons ((sb_lst h1).mono (Nat.le_refl 6) (by omega : _ ≤ 324)) (sbs_cons ((sb_lst h2).mono (by decide : 5 ≤ 6) (by omega : _ ≤ 1604)) sbs_nil))).mono (by decide) (by decide)
theorem shw_H {h : Hs} (ok : HsOk h) : Shw (encH h) := sb_shw (sb_H ok) (by decide) (by decide) (.inr ⟨_, rfl⟩)
/-! ### the law's houses -/
structure HA where
  cell : Int
  more : Int
  places : Int
  lines : Int
  wide : Int
structure HAOk (a : HA) : Prop where
  places : 1 ≤ a.places ∧ a.places ≤ 4
  lines : 1 ≤ a.lines ∧ a.lines ≤ 4
  wide : a.wide = 0 ∨ a.wide = 1
def szF (wide : Int) : Int := if wide = 0 then 9 else 1001
def pmF (wide : Int) : Int := if wide = 0 then 7 else 1001
def mxF (wide : Int) : Int := if wide = 0 then 4 else 1001
theorem hpick_at {x y wide : Int} (h : wide = 0 ∨ wide = 1) : atI [PyData.int x, PyData.int y] wide = some (.int (if wide = 0 then x else y)) := by
  rcases h with e | e <;> subst e <;> rfl
theorem sz_ok {n : Nat} (hn : 1 ≤ n ∧ n < 64) (wide : Int) : SprOk n (szF wide) := by
  unfold szF
  split
  · exact ⟨hn.1, hn.2, by decide, by decide⟩
  · exact ⟨hn.1, hn.2, by decide, by decide⟩
def limsH (places : Int) : List Int := places :: 4 :: List.replicate 4 1000000000
def limsW (wide lines : Int) : List Int := pmF wide :: lines :: List.replicate 4 1000000000
def partF (a : HA) (k : Nat) : List Int := drawsF (a.more.fdiv ((k : Int) + 1) + 7 * (k : Int)) (limsW a.wide a.lines)
def wtF (a : HA) (count : Int) (k : Nat) : Wt := ⟨(partF a k).getD 0 0, (List.range ((partF a k).getD 1 0).toNat).map fun j => sprF ((partF a k).getD (2 + j) 0) 3 0 (szF a.wide), sprF ((partF a k).getD 5 0) 2 0 count⟩
def countF (a : HA) : Int := 1 + (drawsF a.cell (limsH a.places)).getD 0 0
def houseF (a : HA) : Hs := ⟨(List.range (countF a).toNat).map (wtF a (countF a)), (List.range (1 + (drawsF a.cell (limsH a.places)).getD 1 0).toNat).map fun k => trF ((drawsF a.cell (limsH a.places)).getD (2 + k) 0 + (k : Int)) (mxF a.wide)⟩
theorem rep_at {n i : Nat} (h : i < n) (x : Int) : (List.replicate n x)[i]? = some x := by rw [List.getElem?_replicate, if_pos h]
theorem limsH_at {p : Int} {i : Nat} (h : i < 4) : (limsH p)[2 + i]? = some 1000000000 := by
  rw [show 2 + i = i + 1 + 1 by omega]
  show (List.replicate 4 (1000000000 : Int))[i]? = _
  exact rep_at h _
theorem limsW_at {w l : Int} {i : Nat} (h : i < 4) : (limsW w l)[2 + i]? = some 1000000000 := by
  rw [show 2 + i = i + 1 + 1 by omega]
  show (List.replicate 4 (1000000000 : Int))[i]? = _
  exact rep_at h _
theorem limsH_ok {p : Int} (h : 1 ≤ p ∧ p ≤ 4) : ∀ l ∈ limsH p, 0 < l ∧ l ≤ 1000000000 := fun l hl => by
  rcases List.mem_cons.mp hl with e | hl
  · omega
  · rcases List.mem_cons.mp hl with e | hl
    · omega
    · rw [(List.mem_replicate.mp hl).2]; omega
theorem limsW_ok {w q : Int} (h : 1 ≤ q ∧ q ≤ 4) : ∀ l ∈ limsW w q, 0 < l ∧ l ≤ 1000000000 := fun l hl => by
  rcases List.mem_cons.mp hl with e | hl
  · have : pmF w = 7 ∨ pmF w = 1001 := by unfold pmF; split <;> simp
    omega
  · rcases List.mem_cons.mp hl with e | hl
    · omega
    · rw [(List.mem_replicate.mp hl).2]; omega
theorem getD_draw {cell : Int} {ls : List Int} {i : Nat} {l : Int} (hp : ∀ l ∈ ls, 0 < l) (h : ls[i]? = some l) : (drawsF cell ls)[i]? = some ((drawsF cell ls).getD i 0) ∧ 0 ≤ (drawsF cell ls).getD i 0 ∧ (drawsF cell ls).getD i 0 < l := by
  obtain ⟨x, e, a, b⟩ := drawsF_at cell hp h
  rw [List.getD_eq_getElem?_getD, e, Option.getD_some]
  exact ⟨rfl, a, b⟩
structure PartOk (a : HA) (Q : List Int) : Prop where
  d0 : Q[0]? = some (Q.getD 0 0) ∧ 0 ≤ Q.getD 0 0 ∧ Q.getD 0 0 < pmF a.wide
  d1 : Q[1]? = some (Q.getD 1 0) ∧ 0 ≤ Q.getD 1 0 ∧ Q.getD 1 0 < a.lines
  dj : ∀ j : Nat, j < 4 → Q[2 + j]? = some (Q.getD (2 + j) 0)
theorem part_ok {a : HA} (h : HAOk a) (k : Nat) : PartOk a (partF a k) := by
  have hp : ∀ l ∈ limsW a.wide a.lines, 0 < l := fun l hl => (limsW_ok h.lines l hl).1
  exact ⟨getD_draw hp rfl, getD_draw hp rfl, fun j hj => (getD_draw hp (limsW_at hj)).1⟩
structure HdOk (a : HA) (D : List Int) : Prop where
  d0 : D[0]? = some (D.getD 0 0) ∧ 0 ≤ D.getD 0 0 ∧ D.getD 0 0 < a.places
  d1 : D[1]? = some (D.getD 1 0) ∧ 0 ≤ D.getD 1 0 ∧ D.getD 1 0 < 4
  dj : ∀ j : Nat, j < 4 → D[2 + j]? = some (D.getD (2 + j) 0)
theorem hd_ok {a : HA} (h : HAOk a) : HdOk a (drawsF a.cell (limsH a.places)) := by
  have hp : ∀ l ∈ limsH a.places, 0 < l := fun l hl => (limsH_ok h.places l hl).1
  exact ⟨getD_draw hp rfl, getD_draw hp rfl, fun j hj => (getD_draw hp (limsH_at hj)).1⟩
theorem sp2_ok {n : Int} (h : 1 ≤ n ∧ n ≤ 4) : SprOk 2 n := ⟨by decide, by decide, h.1, by omega⟩
theorem count_bd {a : HA} (h : HAOk a) : 1 ≤ countF a ∧ countF a ≤ 4 := by
  have h1 := (hd_ok h).d0.2
  have h2 := h.places
  show 1 ≤ 1 + (drawsF a.cell (limsH a.places)).getD 0 0 ∧ 1 + (drawsF a.cell (limsH a.places)).getD 0 0 ≤ 4
  omega
theorem sz_le (w : Int) : szF w ≤ 1001 := by unfold szF; split <;> decide
theorem pm_le (w : Int) : pmF w ≤ 1001 := by unfold pmF; split <;> decide
theorem mx_bd (w : Int) : 0 < mxF w ∧ mxF w ≤ 1001 := by unfold mxF; split <;> decide
theorem wtF_ok {a : HA} (h : HAOk a) (k : Nat) : WtOk (countF a) (wtF a (countF a) k) := by
  have hp := part_ok h k
  have hc := count_bd h
  have h3 := pm_le a.wide
  refine ⟨?_, ?_, fun s hs => ?_, ?_⟩
  · have := hp.d0.2
    show 0 ≤ (partF a k).getD 0 0 ∧ (partF a k).getD 0 0 ≤ 1000
    omega
  · show ((List.range ((partF a k).getD 1 0).toNat).map _).length ≤ 3
    have := hp.d1.2
    have := h.lines
    rw [List.length_map, List.length_range]; omega
  · obtain ⟨j, hj, rfl⟩ := List.mem_map.mp hs
    have hz := sz_ok (n := 3) (by decide) a.wide
    have h4 := spg_of (low := 0) hz (by decide) ((partF a k).getD (2 + j) 0) (spr_few hz _)
    exact ⟨h4.ty, h4.can, h4.pos, h4.mass, h4.len, fun p hp => by have := h4.val p hp; have := sz_le a.wide; omega⟩
  · have hz := sp2_ok hc
    have h4 := spg_of (low := 0) hz (by decide) ((partF a k).getD 5 0) (spr_few hz _)
    exact ⟨h4.ty, h4.can, h4.pos, h4.mass, h4.len, fun p hp => by have := h4.val p hp; omega⟩
theorem house_len (a : HA) : (houseF a).ws.length = (countF a).toNat := by
  show ((List.range (countF a).toNat).map _).length = _
  rw [List.length_map, List.length_range]
theorem houseF_ok {a : HA} (h : HAOk a) : HsOk (houseF a) := by
  have hc := count_bd h
  have hl := house_len a
  refine ⟨by omega, ?_, fun w hw => ?_, fun t ht => ?_⟩
  · show 1 ≤ ((List.range _).map _).length ∧ ((List.range _).map _).length ≤ 4
    have := (hd_ok h).d1.2
    rw [List.length_map, List.length_range]; omega
  · obtain ⟨k, _, rfl⟩ := List.mem_map.mp hw
    rw [hl, show (((countF a).toNat : Nat) : Int) = countF a by omega]
    exact wtF_ok h k
  · obtain ⟨k, _, rfl⟩ := List.mem_map.mp ht
    have := mx_bd a.wide
    exact ⟨trF_ok this.1 (by omega), trF_v this.1 this.2⟩
end MX

namespace MX
open PySem L2 DL
theorem sb_shw8 {n k : Nat} {d : PyData} (h : Sb n k d) (hn : n ≤ 60) (hk : k ≤ 8000) (hs : (∃ ds, d = .list ds) ∨ ∃ ds, d = .tuple ds) : Shw d := by
  refine ⟨h.sh, h.nd, Nat.le_trans h.dp hn, ?_, hs⟩
  have h1 := PyData.shown_le_bulk 2000 (by decide) d h.lv
  rw [sizeLine_eq]
  have : (2000 + 2) * d.bulk ≤ 2002 * 8000 := Nat.mul_le_mul_left _ (Nat.le_trans h.bk hk)
  omega
end MX

namespace KP
open PySem L2 DL MX
def topS (i : Nat) : Stmt := PySem.Challenge.pw_lastcoffer_k08_houses_checked.main.body.getD i (.Pass ⟨0, 0, 0, 0⟩)
abbrev s_fraction : Stmt := topS 9
abbrev s_is_fraction : Stmt := topS 10
abbrev s_plus : Stmt := topS 11
abbrev s_check_spread : Stmt := topS 12
abbrev s_total : Stmt := topS 13
abbrev s_is_amount : Stmt := topS 18
abbrev s_is_share : Stmt := topS 19
abbrev s_check_damage : Stmt := topS 20
abbrev s_check_treaty : Stmt := topS 21
abbrev s_is_layer : Stmt := topS 22
abbrev s_check_house : Stmt := topS 27
abbrev s_check_weather : Stmt := topS 28
abbrev s_check_turns : Stmt := topS 29
abbrev s__law_cell : Stmt := topS 31
abbrev s__law_draws : Stmt := topS 32
abbrev s__law_gcd : Stmt := topS 33
abbrev s__law_fraction : Stmt := topS 34
abbrev s__law_plus : Stmt := topS 35
abbrev s__law_times : Stmt := topS 36
abbrev s__law_less : Stmt := topS 37
abbrev s__law_total : Stmt := topS 38
abbrev s__law_gathered : Stmt := topS 39
abbrev s__law_weighted : Stmt := topS 40
abbrev s__law_spread : Stmt := topS 41
abbrev s__law_sum : Stmt := topS 42
abbrev s__law_mean : Stmt := topS 43
abbrev s__law_treaty : Stmt := topS 44
abbrev s__law_remaining : Stmt := topS 45
abbrev s__law_after_treaty : Stmt := topS 46
abbrev s__law_house : Stmt := topS 47
abbrev s__law_damage : Stmt := topS 48
abbrev s__law_change : Stmt := topS 49
abbrev s__law_world : Stmt := topS 50
abbrev s__law_refused : Stmt := topS 51
abbrev s__law_bad_weathers : Stmt := topS 52
abbrev s_law : Stmt := topS 53
section
variable {P : Program} {w : World} {K : PySem.W.Frag} {mg : Str → Option Value} {base : Heap}
/-! ### fraction -/
theorem sc_fraction : FnScope ["top", "low", "shared"] ["top", "low"] (defScope s_fraction) := ⟨rfl, rfl, rfl, by decide +kernel, rfl, by decide +kernel, by decide +kernel⟩
def sp_fraction (K : PySem.W.Frag) (C : Addr) : Sp := SpX K (fun a : Int × Int => [.dat (.int a.1), .dat (.int a.2)]) (fun a => Bt 9000 a.2) (.ref C) (fun a => if a.2 = 0 then none else some (encQ (Rat.divInt a.1 a.2)))
theorem ok_fraction {f : Addr} {fd : FuncData} {C : Addr} (F : Fun K "fraction" "fraction" s_fraction f fd) (m_gcd : mg "gcd" = some (.builtin "math.gcd")) (eC : ErrC K mg "OutOfRange" C) :
    FnOk P w K mg base (L2.CX P w) 1 f fd ["top", "low"] (sp_fraction K C) := by
  have sc := sc_fraction
  refine fn_X F sc (fun _ => rfl) fun cdv A outer s H E hr => ?_
  refine ⟨_, (pss_cons (ps_if (pt_cmpR op_eq (pv 1) pe_int (nomark _)) (pss_one (ps_err rfl (takes_of rfl rfl rfl rfl) eC rfl)) pss_nil)
      (pss_cons (ps_set (i := 2) sc.nd rfl (by first | exact Or.inl rfl | exact Or.inr rfl) (pe_callBfun cr_gcd (by rfl) m_gcd (pa_cons (pv 0) (pa_cons (pv 1) pa_nil))))
      (pss_cons (ps_if (pt_cmpR op_lt (pv 1) pe_int (nomark _)) (pss_one (ps_set (i := 2) sc.nd rfl (by first | exact Or.inl rfl | exact Or.inr rfl) (pe_un un_neg (pv 2)))) pss_nil)
      (pss_one (ps_ret (pe_tup (pa_cons (pe_op op_fdivZ (pv 0) (pv 2)) (pa_cons (pe_op op_fdivZ (pv 1) (pv 2)) pa_nil)))))))), fun a ha => ?_⟩
  obtain ⟨t, l⟩ := a
  have hl9 : Bt 9000 l := ha
  by_cases h0 : l = 0
  · refine ⟨fun d hd => ?_, fun _ => ?_⟩
    · rw [if_pos h0] at hd; cases hd
    · refine run_seqE (run_ifT ((et_test (ed_eqI (ed_var 1 rfl) (ed_int 0))).is (decide_eq_true h0)) run_err)
  · refine ⟨fun d hd => .inl ?_, fun hn => ?_⟩
    · rw [if_neg h0] at hd
      cases hd
      refine run_seq (run_ifF ((et_test (ed_eqI (ed_var 1 rfl) (ed_int 0))).is (decide_eq_false h0)) run_next) ?_
      refine run_seq (run_set (ed_gcd (ed_var 0 rfl) (ed_var 1 rfl))) ?_
      have key : Run K E (tIfS (tTest (tOp (rI0 fun i j => .bl (decide (i < j))) (tVar 1) (tC (.int 0)))) (tAsg (tUn (rU fun i => .int (-i)) (tVar 2)) (gName 2)) tNext) [.dat (.int t), .dat (.int l), .dat (.int ((Nat.gcd t.natAbs l.natAbs : Nat) : Int))] (.nx [.dat (.int t), .dat (.int l), .dat (.int (sgcd t l))]) := by
        by_cases hn : l < 0
        · have e : sgcd t l = -((Nat.gcd t.natAbs l.natAbs : Nat) : Int) := by unfold sgcd; rw [if_pos hn]
          rw [e]
          exact run_ifT ((et_test (ed_B0 (ed_var 1 rfl) (ed_int 0))).is (decide_eq_true hn)) (run_set (ed_neg (ed_var 2 rfl)))
        · have e : sgcd t l = ((Nat.gcd t.natAbs l.natAbs : Nat) : Int) := by unfold sgcd; rw [if_neg hn]
          rw [e]
          exact run_ifF ((et_test (ed_B0 (ed_var 1 rfl) (ed_int 0))).is (decide_eq_false hn)) run_next
      refine run_seq key ?_
      obtain ⟨e1, e2⟩ := divInt_parts (t := t) h0
      show Run K E _ _ (.rt (.tuple [.int (Rat.divInt t l).num, .int ((Rat.divInt t l).den : Int)]))
      rw [e1, e2]
      exact run_ret (ed_tup (ds := [.int _, .int _]) (ea_d (ed_I (ed_var 0 rfl) (ed_var 2 rfl) (sgcd_div h0 hl9)) (ea_d (ed_I (ed_var 1 rfl) (ed_var 2 rfl) (sgcd_div h0 hl9)) ea_nil)))
    · rw [if_neg h0] at hn; cases hn

/-! ### plus, minus, times, over, is_less -/
abbrev QQ := Rat × Rat
abbrev fsQQ : QQ → List SD := fun a => [.dat (encQ a.1), .dat (encQ a.2)]
abbrev preQQ : QQ → Prop := fun a => Qb 4000 a.1 ∧ Qb 4000 a.2
theorem pQ {n m k : Nat} {x y : Int} (h : Bt n x) (h' : Bt m y) (hk : n + m ≤ 134217728 := by decide) : CMulX x y := h.mulx h' hk
theorem sc_plus : FnScope ["first", "second"] ["first", "second"] (defScope s_plus) := ⟨rfl, rfl, rfl, by decide +kernel, rfl, by decide +kernel, by decide +kernel⟩
def sp_plus (K : PySem.W.Frag) : Sp := SpD K fsQQ preQQ (fun a => encQ (a.1 + a.2))
theorem ok_plus {f : Addr} {fd : FuncData} {C : Addr} (F : Fun K "plus" "plus" s_plus f fd) (C_fraction : Callee P w K mg base (L2.CX P w) 1 "fraction" ["top", "low"] (sp_fraction K C)) :
    FnOk P w K mg base CX0 2 f fd ["first", "second"] (sp_plus K) := by
  have sc := sc_plus
  refine fn_D F sc (fun _ => rfl) fun cdv A outer s H E hr => ?_
  refine ⟨_, (pss_one (ps_ret (pe_c C_fraction (hr.mono (by decide)) passL (pa_cons (pe_op op_add (pe_op op_mulX (pe_ix ix_tup (pv 0) pe_int (fun _ _ => rfl)) (pe_ix ix_tup (pv 1) pe_int (fun _ _ => rfl))) (pe_op op_mulX (pe_ix ix_tup (pv 1) pe_int (fun _ _ => rfl)) (pe_ix ix_tup (pv 0) pe_int (fun _ _ => rfl)))) (pa_cons (pe_op op_mulX (pe_ix ix_tup (pv 0) pe_int (fun _ _ => rfl)) (pe_ix ix_tup (pv 1) pe_int (fun _ _ => rfl))) pa_nil))))), fun a ha => ?_⟩
  obtain ⟨p, q⟩ := a
  obtain ⟨hp, hq⟩ := ha
  have hp : Qb 4000 p := hp
  have hq : Qb 4000 q := hq
  refine run_ret (ed_callX (x := (p.num * q.den + q.num * p.den, (p.den : Int) * q.den)) (ea_d (ed_I0 (ed_I (ed_ixT (ed_var 0 rfl) (ed_int 0) rfl) (ed_ixT (ed_var 1 rfl) (ed_int 1) rfl) (hp.num.mulx hq.den (by decide))) (ed_I (ed_ixT (ed_var 1 rfl) (ed_int 0) rfl) (ed_ixT (ed_var 0 rfl) (ed_int 1) rfl) (hq.num.mulx hp.den (by decide)))) (ea_d (ed_I (ed_ixT (ed_var 0 rfl) (ed_int 1) rfl) (ed_ixT (ed_var 1 rfl) (ed_int 1) rfl) (hp.den.mulx hq.den (by decide))) ea_nil)) rfl ((hp.den.mul hq.den).mono (by decide)) ?_)
  rw [← add_is]
  exact if_neg (Int.mul_ne_zero (den_ne p) (den_ne q))

/-! ### total, gathered, mean, chance_of, shifted -/
theorem sum_step {l : List Rat} {i : Nat} (hi : i < l.length) : (l.take (i + 1)).sum = (l.take i).sum + l[i] := by
  rw [List.take_add_one, List.getElem?_eq_getElem hi, Option.toList_some, List.sum_append, List.sum_singleton]
theorem sc_total : FnScope ["fractions", "found", "part"] ["fractions"] (defScope s_total) := ⟨rfl, rfl, rfl, by decide +kernel, rfl, by decide +kernel, by decide +kernel⟩
def sp_total (K : PySem.W.Frag) : Sp := SpD K (fun l : List Rat => [.dat (.list (l.map encQ))]) Fine (fun l => encQ l.sum)
theorem ok_total {f aZERO : Addr} {fd : FuncData} (F : Fun K "total" "total" s_total f fd) (m_ZERO : mg "ZERO" = some (.ref aZERO)) (c_ZERO : ∀ G : Hp, Dd K G (.ref aZERO) (encQ 0)) (C_plus : Callee P w K mg base CX0 2 "plus" ["first", "second"] (sp_plus K)) :
    FnOk P w K mg base CX0 3 f fd ["fractions"] (sp_total K) := by
  have sc := sc_total
  refine fn_D F sc (fun _ => rfl) fun cdv A outer s H E hr => ?_
  refine ⟨_, (pss_cons (ps_set (i := 1) sc.nd rfl (by first | exact Or.inl rfl | exact Or.inr rfl) (pe_glob (v := .ref aZERO) rfl m_ZERO rfl))
      (pss_cons (ps_for PassesOwn.never rfl (pi_list (pv 0)) (pg_name (i := 2) sc.nd rfl (by first | exact Or.inl rfl | exact Or.inr rfl)) (pss_one (ps_set (i := 1) sc.nd rfl (by first | exact Or.inl rfl | exact Or.inr rfl) (pe_c C_plus (hr.mono (by decide)) pass0 (pa_cons (pv 1) (pa_cons (pv 2) pa_nil))))))
      (pss_one (ps_ret (pv 1))))), fun l hl => ?_⟩
  have hl : Fine l := hl
  refine run_seq (run_set (ed_con c_ZERO)) ?_
  refine run_seq (run_for (ts := [2]) (fun i => [.dat (.list (l.map encQ)), .dat (encQ (l.take i).sum), .un]) (ei_list (ed_var 0 rfl)) (.eq (.eq (.un .nil))) (fun i d hi hd => ⟨_, eg_name (by decide), ?_⟩)) ?_
  · rw [List.length_map] at hi
    obtain rfl : d = encQ l[i] := by rw [List.getElem?_map, List.getElem?_eq_getElem hi] at hd; exact (Option.some.inj hd).symm
    rw [sum_step hi]
    exact .n (run_set (ed_call (x := ((l.take i).sum, l[i])) (ea_d (ed_var 1 rfl) (ea_d (ed_var 2 rfl) ea_nil)) rfl ⟨fine_sum hl i, fine_mem hl (List.getElem_mem hi)⟩)) (.eq (.eq (.un .nil)))
  · rw [List.length_map, List.take_length]
    exact run_ret (ed_var 1 rfl)
theorem acc_step {s : Spr} {i : Nat} (hi : i < s.length) : acc (s.take (i + 1)) = stepA (acc (s.take i)) s[i] := by
  rw [List.take_add_one, List.getElem?_eq_getElem hi]; exact acc_snoc _ _
theorem gat_list (s : Spr) : (gatF s).map encI = (srt ((acc s).map (·.1))).filterMap fun v => if wt s v = 0 then none else some (encI (v, wt s v)) := by
  unfold gatF
  rw [List.map_filterMap]
  congr 1
  funext v
  split <;> rfl

/-! ### is_fraction, check_spread -/
abbrev rawI (p : Int × Int × Int) : PyData := .tuple [.int p.1, .tuple [.int p.2.1, .int p.2.2]]
abbrev frB (t l : Int) : Bool := decide (l ≥ 1) && decide (((Nat.gcd t.natAbs l.natAbs : Nat) : Int) = 1)
theorem sc_is_fraction : FnScope ["pair", "top", "low"] ["pair"] (defScope s_is_fraction) := ⟨rfl, rfl, rfl, by decide +kernel, rfl, by decide +kernel, by decide +kernel⟩
def sp_is_fraction (K : PySem.W.Frag) : Sp := SpD K (fun a : Int × Int => [.dat (.tuple [.int a.1, .int a.2])]) (fun _ => True) (fun a => .bool (frB a.1 a.2))
theorem ok_is_fraction {f : Addr} {fd : FuncData} (F : Fun K "is_fraction" "is_fraction" s_is_fraction f fd) (m_gcd : mg "gcd" = some (.builtin "math.gcd")) : FnOk P w K mg base CX0 1 f fd ["pair"] (sp_is_fraction K) := by
  have sc := sc_is_fraction
  refine fn_D F sc (fun _ => rfl) fun cdv A outer s H E hr => ?_
  refine ⟨_, (pss_cons (ps_asg (pv 0) (pg_tup rfl (pgs_cons (pg_name (i := 1) sc.nd rfl (by first | exact Or.inl rfl | exact Or.inr rfl)) (pgs_cons (pg_name (i := 2) sc.nd rfl (by first | exact Or.inl rfl | exact Or.inr rfl)) pgs_nil))))
      (pss_one (ps_ret (pe_and (pe_cmpR op_ge (pv 2) pe_int (nomark _)) (pe_one (pe_cmpR op_eq (pe_callBfun cr_gcd (by rfl) m_gcd (pa_cons (pv 1) (pa_cons (pv 2) pa_nil))) pe_int (nomark _))))))), fun a _ => ?_⟩
  refine run_seq (run_asg (ts := [1, 2]) (ed_var 0 rfl) (eg_tup (egs_cons (eg_name (by decide)) (egs_cons (eg_name (by decide)) egs_nil)) rfl)) ?_
  exact run_ret (ed_andV (ed_B0 (ed_var 2 rfl) (ed_int 1)) fun _ => ed_eqI (ed_gcd (ed_var 1 rfl) (ed_var 2 rfl)) (ed_int 1))
abbrev frOk (p : Int × Int × Int) : Bool := frB p.2.1 p.2.2 && !decide (p.2.1 < 1)
abbrev rawC (p : Int × Int × Int) : Rat := Rat.divInt p.2.1 p.2.2
structure GoodS (l : List (Int × Int × Int)) : Prop where
  fr : ∀ p ∈ l, frOk p = true
  asc : ∀ (i : Nat) (p q : Int × Int × Int), l[i]? = some p → l[i + 1]? = some q → p.1 < q.1
  sum : (l.map rawC).sum = 1
noncomputable def spO (l : List (Int × Int × Int)) : Option PyData := by classical exact if GoodS l then some .none else none
theorem spO_some {l : List (Int × Int × Int)} (h : GoodS l) : spO l = some .none := if_pos h
theorem spO_none {l : List (Int × Int × Int)} (h : ¬GoodS l) : spO l = none := if_neg h
structure SpPre (l : List (Int × Int × Int)) : Prop where
  fine : (∀ p ∈ l, frOk p = true) → Fine (l.map rawC)
  len : l.length ≤ 1000
theorem first_bad {α : Type} {b : α → Bool} : ∀ {l : List α}, (¬∀ p ∈ l, b p = true) → ∃ (n : Nat) (p : α), l[n]? = some p ∧ b p = false ∧ ∀ (j : Nat) (q : α), j < n → l[j]? = some q → b q = true
  | [], h => absurd (by simp) h
  | p :: l, h => by
    cases hb : b p with
    | false => exact ⟨0, p, rfl, hb, fun j q hj => (by omega)⟩
    | true =>
      have h2 : ¬∀ q ∈ l, b q = true := fun z => h fun q hq => by
        rcases List.mem_cons.mp hq with e | e
        · rw [e]; exact hb
        · exact z q e
      obtain ⟨n, e, h3, h4, h5⟩ := first_bad h2
      refine ⟨n + 1, e, by simpa using h3, h4, fun j q hj hq => ?_⟩
      cases j with
      | zero => simp at hq; rw [← hq]; exact hb
      | succ j => exact h5 j q (by omega) (by simpa using hq)
theorem raw_enc {p : Int × Int × Int} (h : frOk p = true) : encQ (rawC p) = .tuple [.int p.2.1, .int p.2.2] := by
  unfold frOk frB at h
  simp only [Bool.and_eq_true, decide_eq_true_eq] at h
  obtain ⟨⟨h1, h2⟩, _⟩ := h
  obtain ⟨e1, e2⟩ := divInt_parts (t := p.2.1) (l := p.2.2) (by omega)
  have g : sgcd p.2.1 p.2.2 = 1 := by
    unfold sgcd
    rw [if_neg (by omega)]; exact h2
  show PyData.tuple [.int (rawC p).num, .int ((rawC p).den : Int)] = _
  rw [e1, e2, g, Int.fdiv_one, Int.fdiv_one]
/-- not in order at some place -/
def ascB (l : List (Int × Int × Int)) (i : Nat) : Bool := match l[i]?, l[i + 1]? with
  | some p, some q => decide (p.1 < q.1)
  | _, _ => true
theorem sc_check_spread : FnScope ["spread", "_", "chance", "k"] ["spread"] (defScope s_check_spread) := ⟨rfl, rfl, rfl, by decide +kernel, rfl, by decide +kernel, by decide +kernel⟩
def sp_check_spread (K : PySem.W.Frag) (C : Addr) : Sp := SpX K (fun l : List (Int × Int × Int) => [.dat (.list (l.map rawI))]) SpPre (.ref C) spO
theorem ok_check_spreadN {f aONE C : Addr} {fd : FuncData} (F : Fun K "check_spread" "check_spread" s_check_spread f fd) (m_len : mg "len" = none) (m_range : mg "range" = none) (m_ONE : mg "ONE" = some (.ref aONE)) (c_ONE : ∀ G : Hp, Dd K G (.ref aONE) (encQ 1)) (e_BadSpread : ErrC K mg "BadSpread" C) (C_is_fraction : Callee P w K mg base CX0 1 "is_fraction" ["pair"] (sp_is_fraction K)) (C_total : Callee P w K mg base CX0 3 "total" ["fractions"] (sp_total K)) :
    FnOk P w K mg base (L2N.CX P w) 4 f fd ["spread"] (sp_check_spread K C) := by
  have sc := sc_check_spread
  refine fn_T F sc (fun _ => rfl) fun cdv A outer s H E hr => ?_
  refine ⟨_, (pss_cons (ps_for (passes_of rfl) rfl (pi_list (pv 0)) (pg_tup rfl (pgs_cons (pg_name (i := 1) sc.nd rfl (by first | exact Or.inl rfl | exact Or.inr rfl)) (pgs_cons (pg_name (i := 2) sc.nd rfl (by first | exact Or.inl rfl | exact Or.inr rfl)) pgs_nil))) (pss_one (ps_if (PW.pt (pw_or (pt_not (pt_val (pe_c C_is_fraction (hr.mono (by decide)) pass0 (pa_cons (pv 2) pa_nil)))) (pw_or1 (pt_cmpR op_lt (pe_ix (r := rIxT K) ix_tup (pv 2) pe_int (fun _ _ => rfl)) pe_int (nomark _))))) (pss_one (ps_errT rfl (L2N.takes_of rfl rfl rfl rfl) e_BadSpread rfl)) pss_nil)))
      (pss_cons (ps_for (passes_of rfl) rfl (pi_range2 (by rfl) m_range (pa_cons pe_int (pa_cons (pe_callB (id := "len") (r := rLenS K) call_len_seq (by rfl) m_len PySem.boot_len (pa_cons (pv 0) pa_nil)) pa_nil))) (pg_name (i := 3) sc.nd rfl (by first | exact Or.inl rfl | exact Or.inr rfl)) (pss_one (ps_if (pt_cmpR op_ge (pe_ix (r := rIxT K) ix_tup (pe_ix (r := rIxL K) ix_list (pv 0) (pe_op op_sub (pv 3) pe_int) (fun _ _ => rfl)) pe_int (fun _ _ => rfl)) (pe_ix (r := rIxT K) ix_tup (pe_ix (r := rIxL K) ix_list (pv 0) (pv 3) (fun _ _ => rfl)) pe_int (fun _ _ => rfl)) (nomark _)) (pss_one (ps_errT rfl (L2N.takes_of rfl rfl rfl rfl) e_BadSpread rfl)) pss_nil)))
      (pss_one (ps_if (pt_cmpR (r := rNeD K) (op_neD hr.units) (pe_c C_total (hr.mono (by decide)) pass0 (pa_cons (pe_lc (g := (gTup K 2 (gCons (gName 1) (gCons (gName 2) gNil)))) (own := [("_", 1), ("chance", 2)]) rfl sc.nd (pi_list (pv 0)) (blkOk_by (own := [("_", 1), ("chance", 2)]) (N := ["spread", "_", "chance", "k"]) (sc := defScope s_check_spread) (by decide +kernel)) (fun _ _ _ _ _ => (pg_tup rfl (pgs_cons (pg_name (i := 1) sc.nd rfl (Or.inl rfl)) (pgs_cons (pg_name (i := 2) sc.nd rfl (Or.inl rfl)) pgs_nil)))) (fun _ _ _ _ _ => pts_nil) (fun _ _ _ _ _ => (pv 2))) pa_nil)) (pe_glob (v := .ref aONE) rfl m_ONE rfl) (nomark _)) (pss_one (ps_errT rfl (L2N.takes_of rfl rfl rfl rfl) e_BadSpread rfl)) pss_nil)))), fun l hl => ?_⟩
  have hl : SpPre l := hl
  have hll : l.length ≤ 1000 := hl.len
  have nb : ∀ a b : Bool, (!a || b) = !(a && !b) := by intro a b; cases a <;> cases b <;> rfl
  have tst1 : ∀ p : Int × Int × Int, EvT K (tOr (tNot (tB (tCall (sp_is_fraction K) [] E0 (tCons (tVar 2) tNil)))) (tTest (tOp (rI0 fun i j => .bl (decide (i < j))) (tOp (rIxT K) (tVar 2) (tC (.int 0))) (tC (.int 1))))) [.dat (.list (l.map rawI)), .dat (.int p.1), .dat (.tuple [.int p.2.1, .int p.2.2]), .un] (!frOk p) := fun p =>
    (et_or (et_not (et_B (ed_call (x := (p.2.1, p.2.2)) (ea_d (ed_var 2 rfl) ea_nil) rfl trivial))) (fun _ => et_test (ed_B0 (ed_ixT (ed_var 2 rfl) (ed_int 0) rfl) (ed_int 1)))).is (nb _ _)
  have turn1 : ∀ (i : Nat) (d : PyData), (l.map rawI)[i]? = some d → ∃ p, l[i]? = some p ∧ d = rawI p := fun i d hd => by
    rw [List.getElem?_map] at hd
    obtain ⟨p, h1, h2⟩ := Option.map_eq_some_iff.mp hd
    exact ⟨p, h1, h2.symm⟩
  have l4 : ∀ {a b c d : SD}, Less [a, b, c, d] [a, .un, .un, .un] := .eq (.un (.un (.un .nil)))
  by_cases c1 : ∀ p ∈ l, frOk p = true
  · have fine := hl.fine c1
    have loop1 : ∀ (i : Nat) (d : PyData), i < (l.map rawI).length → (l.map rawI)[i]? = some d → ∃ em, EvG K (gTup K 2 (gCons (gName 1) (gCons (gName 2) gNil))) [1, 2] [.dat (.list (l.map rawI)), .un, .un, .un] d em ∧ Turn1 K E (tIfS (tOr (tNot (tB (tCall (sp_is_fraction K) [] E0 (tCons (tVar 2) tNil)))) (tTest (tOp (rI0 fun i j => .bl (decide (i < j))) (tOp (rIxT K) (tVar 2) (tC (.int 0))) (tC (.int 1))))) (fun _ _ H => E (.ref C) none H) tNext) em [.dat (.list (l.map rawI)), .un, .un, .un] := fun i d hi hd => by
      obtain ⟨p, hp, rfl⟩ := turn1 i d hd
      exact ⟨_, eg_tup (egs_cons (eg_name (by decide)) (egs_cons (eg_name (by decide)) egs_nil)) rfl, .n (run_ifF ((tst1 p).is (by rw [c1 p (List.mem_of_getElem? hp)]; rfl)) run_next) l4⟩
    have tst2 : ∀ (i : Nat) (p q : Int × Int × Int), l[i]? = some p → l[i + 1]? = some q → EvT K (tTest (tOp (rI0 fun i j => .bl (decide (i ≥ j))) (tOp (rIxT K) (tOp (rIxL K) (tVar 0) (tOp (rI0 fun i j => .int (i - j)) (tVar 3) (tC (.int 1)))) (tC (.int 0))) (tOp (rIxT K) (tOp (rIxL K) (tVar 0) (tVar 3)) (tC (.int 0))))) [.dat (.list (l.map rawI)), .un, .un, .dat (.int (1 + (i : Int) * 1))] (!decide (p.1 < q.1)) := fun i p q hp hq => by
      refine (et_test (ed_B0 (ed_ixT (ds := [.int p.1, .tuple [.int p.2.1, .int p.2.2]]) (ed_ixl (ed_var 0 rfl).l (ed_I0 (ed_var 3 rfl) (ed_int 1)) (atI_int (by omega) (by rw [show ((1 + (i : Int) * 1) - 1).toNat = i by omega, List.getElem?_map, hp]; rfl))) (ed_int 0) rfl) (ed_ixT (ds := [.int q.1, .tuple [.int q.2.1, .int q.2.2]]) (ed_ixl (ed_var 0 rfl).l (ed_var 3 rfl) (atI_int (by omega) (by rw [show (1 + (i : Int) * 1).toNat = i + 1 by omega, List.getElem?_map, hq]; rfl))) (ed_int 0) rfl))).is ?_
      by_cases h : p.1 < q.1
      · rw [decide_eq_true h, decide_eq_false (by omega)]; rfl
      · rw [decide_eq_false h, decide_eq_true (by omega)]; rfl
    have pair : ∀ i : Nat, i < l.length - 1 → ∃ p q, l[i]? = some p ∧ l[i + 1]? = some q ∧ ascB l i = decide (p.1 < q.1) := fun i hi => by
      have h1 := List.getElem?_eq_getElem (show i < l.length by omega)
      have h2 := List.getElem?_eq_getElem (show i + 1 < l.length by omega)
      exact ⟨_, _, h1, h2, by unfold ascB; rw [h1, h2]⟩
    have eI : EvI K (iRng2 (tCons (tC (.int 1)) (tCons (tCB (rLenS K) (tCons (tVar 0) tNil)) tNil))) [.dat (.list (l.map rawI)), .un, .un, .un] (rngD 1 1 (l.length - 1)) := by
      have h := ei_rng2 (K := K) (env := [.dat (.list (l.map rawI)), .un, .un, .un]) (ed_int 1) (ed_lenl (ed_var 0 rfl).l) (by rw [List.length_map]; omega)
      rw [List.length_map, show ((l.length : Int) - 1).toNat = l.length - 1 by omega] at h
      exact h
    by_cases c2 : ∀ i ∈ List.range (l.length - 1), ascB l i = true
    · have asc : ∀ (i : Nat) (p q : Int × Int × Int), l[i]? = some p → l[i + 1]? = some q → p.1 < q.1 := fun i p q hp hq => by
        have hi := (List.getElem?_eq_some_iff.mp hq).1
        have h := c2 i (List.mem_range.mpr (by omega))
        unfold ascB at h
        rw [hp, hq] at h
        exact of_decide_eq_true h
      have loop2 : ∀ (i : Nat) (d : PyData), i < (rngD 1 1 (l.length - 1)).length → (rngD 1 1 (l.length - 1))[i]? = some d → ∃ em, EvG K (gName 3) [3] [.dat (.list (l.map rawI)), .un, .un, .un] d em ∧ Turn1 K E (tIfS (tTest (tOp (rI0 fun i j => .bl (decide (i ≥ j))) (tOp (rIxT K) (tOp (rIxL K) (tVar 0) (tOp (rI0 fun i j => .int (i - j)) (tVar 3) (tC (.int 1)))) (tC (.int 0))) (tOp (rIxT K) (tOp (rIxL K) (tVar 0) (tVar 3)) (tC (.int 0))))) (fun _ _ H => E (.ref C) none H) tNext) em [.dat (.list (l.map rawI)), .un, .un, .un] := fun i d hi hd => by
        obtain ⟨hi2, rfl⟩ := rngD_get hd
        obtain ⟨p, q, hp, hq, _⟩ := pair i hi2
        exact ⟨_, eg_name (by decide), .n (run_ifF ((tst2 i p q hp hq).is (by rw [decide_eq_true (asc i p q hp hq)]; rfl)) run_next) l4⟩
      have tot : EvD K (tCall (sp_total K) [] E0 (tCons (tLc (iList K (tVar 0)) (gTup K 2 (gCons (gName 1) (gCons (gName 2) gNil))) tYes (tVar 2) [1, 2]) tNil)) [.dat (.list (l.map rawI)), .un, .un, .un] (encQ (l.map rawC).sum) := ed_call (x := l.map rawC) (ea_d (en_lc (ei_list (ed_var 0 rfl)) (ts := [1, 2]) (by decide) (lc_map rawI (fun p => PyData.tuple [.int p.2.1, .int p.2.2]) fun p hp => ⟨_, eg_tup (egs_cons (eg_name (by decide)) (egs_cons (eg_name (by decide)) egs_nil)) rfl, et_yes, ed_var 2 rfl⟩) (by rw [List.length_map]; omega)).d ea_nil) (by
        show _ = [SD.dat (.list ((l.map rawC).map encQ))]
        rw [List.map_map, List.map_congr_left (g := encQ ∘ rawC) fun p hp => (raw_enc (c1 p hp)).symm]) fine
      have tst3 : EvT K (tTest (tOp (rNeD K) (tCall (sp_total K) [] E0 (tCons (tLc (iList K (tVar 0)) (gTup K 2 (gCons (gName 1) (gCons (gName 2) gNil))) tYes (tVar 2) [1, 2]) tNil)) (tC (.ref aONE)))) [.dat (.list (l.map rawI)), .un, .un, .un] (!decide ((l.map rawC).sum = 1)) := (et_test (ed_neD tot.p (ed_con c_ONE).p rfl rfl)).is (by rw [eqvQ])
      by_cases c3 : (l.map rawC).sum = 1
      · refine ⟨fun d hd => .inr ⟨?_, [.dat (.list (l.map rawI)), .un, .un, .un], ?_⟩, fun z => ?_⟩
        · rw [spO_some ⟨c1, asc, c3⟩] at hd; cases hd; rfl
        · exact run_seq (run_for (ts := [1, 2]) (fun _ => [.dat (.list (l.map rawI)), .un, .un, .un]) (ei_list (ed_var 0 rfl)) l4 loop1) (run_seq (run_for (ts := [3]) (fun _ => [.dat (.list (l.map rawI)), .un, .un, .un]) eI l4 loop2) (run_ifF (tst3.is (by rw [decide_eq_true c3]; rfl)) run_next))
        · rw [spO_some ⟨c1, asc, c3⟩] at z; cases z
      · refine ⟨fun d hd => ?_, fun _ => ?_⟩
        · rw [spO_none (fun z => c3 z.sum)] at hd; cases hd
        · exact run_seq (run_for (ts := [1, 2]) (fun _ => [.dat (.list (l.map rawI)), .un, .un, .un]) (ei_list (ed_var 0 rfl)) l4 loop1) (run_seq (run_for (ts := [3]) (fun _ => [.dat (.list (l.map rawI)), .un, .un, .un]) eI l4 loop2) (run_ifT (tst3.is (by rw [decide_eq_false c3]; rfl)) run_err))
    · obtain ⟨n, m, e1, e2, e3⟩ := first_bad (b := ascB l) c2
      have hn := (List.getElem?_eq_some_iff.mp e1).1
      rw [List.length_range] at hn
      obtain rfl : n = m := by rw [List.getElem?_range hn] at e1; exact Option.some.inj e1
      obtain ⟨p, q, hp, hq, ea⟩ := pair n hn
      rw [ea] at e2
      refine ⟨fun d hd => ?_, fun _ => ?_⟩
      · rw [spO_none (fun z => absurd (z.asc n p q hp hq) (of_decide_eq_false e2))] at hd; cases hd
      · refine run_seq (run_for (ts := [1, 2]) (fun _ => [.dat (.list (l.map rawI)), .un, .un, .un]) (ei_list (ed_var 0 rfl)) l4 loop1) (run_seqE (run_forE (ts := [3]) (fun _ => [.dat (.list (l.map rawI)), .un, .un, .un]) n eI l4 (fun i d hi hd => ?_) (rngD_at hn) (eg_name (by decide)) (run_ifT ((tst2 n p q hp hq).is (by rw [e2]; rfl)) run_err)))
        obtain ⟨hi2, rfl⟩ := rngD_get hd
        obtain ⟨p', q', hp', hq', ea'⟩ := pair i hi2
        have h := e3 i i hi (List.getElem?_range hi2)
        rw [ea'] at h
        exact ⟨_, eg_name (by decide), .n (run_ifF ((tst2 i p' q' hp' hq').is (by rw [h]; rfl)) run_next) l4⟩
  · obtain ⟨n, p, e1, e2, e3⟩ := first_bad (b := frOk) c1
    refine ⟨fun d hd => ?_, fun _ => ?_⟩
    · rw [spO_none (fun z => c1 z.fr)] at hd; cases hd
    · refine run_seqE (run_forE (ts := [1, 2]) (fun _ => [.dat (.list (l.map rawI)), .un, .un, .un]) n (ei_list (ed_var 0 rfl)) l4 (fun i d hi hd => ?_) (d := rawI p) (by rw [List.getElem?_map, e1]; rfl) (eg_tup (egs_cons (eg_name (by decide)) (egs_cons (eg_name (by decide)) egs_nil)) rfl) (run_ifT ((tst1 p).is (by rw [e2]; rfl)) run_err))
      obtain ⟨q, hq, rfl⟩ := turn1 i d hd
      exact ⟨_, eg_tup (egs_cons (eg_name (by decide)) (egs_cons (eg_name (by decide)) egs_nil)) rfl, .n (run_ifF ((tst1 q).is (by rw [e3 i q hi hq]; rfl)) run_next) l4⟩

/-! ### amounts, shares, damages, treaties -/
theorem sc_is_amount : FnScope ["part"] ["part"] (defScope s_is_amount) := ⟨rfl, rfl, rfl, by decide +kernel, rfl, by decide +kernel, by decide +kernel⟩
def sp_is_amount (K : PySem.W.Frag) : Sp := SpD K (fun p : Pt => [.dat (encP p)]) (fun _ => True) (fun p => .bool (amB p))
theorem ok_is_amount {f : Addr} {fd : FuncData} {tM : _} (F : Fun K "is_amount" "is_amount" s_is_amount f fd) (m_isinstance : mg "isinstance" = none) (m_int : mg "int" = none) (m_MOST_AMOUNT : mg "MOST_AMOUNT" = some (.int 1000 tM)) : FnOk P w K mg base CX0 1 f fd ["part"] (sp_is_amount K) := by
  have sc := sc_is_amount
  refine fn_D F sc (fun _ => rfl) fun cdv A outer s H E hr => ?_
  refine ⟨_, (pss_one (ps_ret (pe_and (pe_callB (id := "isinstance") (r := rIsi K) call_isi (by rfl) m_isinstance (by decide +kernel) (pa_cons (pv 0) (pa_cons (pe_bltn (v := .ty "int") (by rfl) m_int (by decide +kernel) rfl) pa_nil))) (pe_one (pe_chain op_le op_le pe_int (pv 0) (pe_glob (v := .int 1000) rfl m_MOST_AMOUNT ⟨_, rfl⟩)))))), fun p _ => ?_⟩
  cases p with
  | i x => exact run_ret ((ed_andV (ed_isi (d := .int x) (ed_var 0 rfl).p (by exact kit_ii)) fun _ => ed_chain (ed_int 0) (ed_var 0 rfl) (ed_int 1000)).is (congrArg PyData.bool (Bool.true_and _)))
  | f t l => exact run_ret (ed_andV (b := false) (c := false) (ed_isi (d := .tuple [.int t, .int l]) (ed_var 0 rfl).p (by exact kit_ti)) fun z => nomatch z)
theorem sc_is_share : FnScope ["part"] ["part"] (defScope s_is_share) := ⟨rfl, rfl, rfl, by decide +kernel, rfl, by decide +kernel, by decide +kernel⟩
def sp_is_share (K : PySem.W.Frag) : Sp := SpD K (fun p : Pt => [.dat (encP p)]) (fun _ => True) (fun p => .bool (shB p))
theorem ok_is_share {f : Addr} {fd : FuncData} (F : Fun K "is_share" "is_share" s_is_share f fd) (m_isinstance : mg "isinstance" = none) (m_tuple : mg "tuple" = none) (C_is_fraction : Callee P w K mg base CX0 1 "is_fraction" ["pair"] (sp_is_fraction K)) : FnOk P w K mg base CX0 2 f fd ["part"] (sp_is_share K) := by
  have sc := sc_is_share
  refine fn_D F sc (fun _ => rfl) fun cdv A outer s H E hr => ?_
  refine ⟨_, (pss_one (ps_ret (pe_and (pe_callB (id := "isinstance") (r := rIsi K) call_isi (by rfl) m_isinstance (by decide +kernel) (pa_cons (pv 0) (pa_cons (pe_bltn (v := .ty "tuple") (by rfl) m_tuple (by decide +kernel) rfl) pa_nil))) (pe_and (pe_c C_is_fraction (hr.mono (by decide)) pass0 (pa_cons (pv 0) pa_nil)) (pe_one (pe_chain op_le op_le pe_int (pe_ix (r := rIxT K) ix_tup (pv 0) pe_int (fun _ _ => rfl)) (pe_ix (r := rIxT K) ix_tup (pv 0) pe_int (fun _ _ => rfl)))))))), fun p _ => ?_⟩
  cases p with
  | i x => exact run_ret (ed_andV (b := false) (c := false) (ed_isi (d := .int x) (ed_var 0 rfl).p (by exact kit_it)) fun z => nomatch z)
  | f t l => exact run_ret ((ed_andV (ed_isi (d := .tuple [.int t, .int l]) (ed_var 0 rfl).p (by exact kit_tt)) fun _ => ed_andV (ed_call (x := (t, l)) (ea_d (ed_var 0 rfl) ea_nil) rfl trivial) fun _ => ed_chain (ed_int 0) (ed_ixT (ed_var 0 rfl) (ed_int 0) rfl) (ed_ixT (ed_var 0 rfl) (ed_int 1) rfl)).is (congrArg PyData.bool (Bool.true_and _)))
def dmOk (l : List (Int × Int × Int)) : Prop := GoodS l ∧ l.length ≤ 30 ∧ ∀ p ∈ l, amB (Pt.i p.1) = true
noncomputable def dmO (l : List (Int × Int × Int)) : Option PyData := by classical exact if dmOk l then some .none else none
theorem dmO_some {l : List (Int × Int × Int)} (h : dmOk l) : dmO l = some .none := if_pos h
theorem dmO_none {l : List (Int × Int × Int)} (h : ¬dmOk l) : dmO l = none := if_neg h
theorem sc_check_damage : FnScope ["spread", "value", "_"] ["spread"] (defScope s_check_damage) := ⟨rfl, rfl, rfl, by decide +kernel, rfl, by decide +kernel, by decide +kernel⟩
def sp_check_damage (K : PySem.W.Frag) (C : Addr) : Sp := SpX K (fun l : List (Int × Int × Int) => [.dat (.list (l.map rawI))]) SpPre (.ref C) dmO
theorem ok_check_damage {f C C2 : Addr} {fd : FuncData} {tM : _} (F : Fun K "check_damage" "check_damage" s_check_damage f fd) (m_len : mg "len" = none) (m_MOST_VALUES : mg "MOST_VALUES" = some (.int 30 tM)) (e_BadHouse : ErrC K mg "BadHouse" C) (e_BadSpread : ErrC K mg "BadSpread" C2) (C_check_spread : Callee P w K mg base (L2N.CX P w) 4 "check_spread" ["spread"] (sp_check_spread K C2)) (C_is_amount : Callee P w K mg base CX0 1 "is_amount" ["part"] (sp_is_amount K)) :
    FnOk P w K mg base (L2.CX P w) 5 f fd ["spread"] (sp_check_damage K C) := by
  have sc := sc_check_damage
  refine fn_X F sc (fun _ => rfl) fun cdv A outer s H E hr => ?_
  refine ⟨_, (pss_cons (L2H.ps_try_onlyX rfl rfl ⟨rfl, by decide, .inl e_BadSpread.g⟩ (fun _ => PassesOwnAt.leaving) (takes_of rfl rfl rfl rfl) (fun W pn xe tk _ _ => pss_one (ps_expr (pe_cS C_check_spread (hr.mono (by decide)) (fun σ => L2N.passAt tk σ) (pa_cons (pv 0) pa_nil)))) (fun a oe cls d pn _ _ tk hot => pss_one (ps_errHN hot tk e_BadHouse rfl)))
      (pss_cons (ps_if (pt_cmpR op_gt (pe_callB (id := "len") (r := rLenS K) call_len_seq (by rfl) m_len PySem.boot_len (pa_cons (pv 0) pa_nil)) (pe_glob (v := .int 30) rfl m_MOST_VALUES ⟨_, rfl⟩) (nomark _)) (pss_one (ps_err rfl (takes_of rfl rfl rfl rfl) e_BadHouse rfl)) pss_nil)
      (pss_one (ps_for (passes_of rfl) rfl (pi_list (pv 0)) (pg_tup rfl (pgs_cons (pg_name (i := 1) sc.nd rfl (by first | exact Or.inl rfl | exact Or.inr rfl)) (pgs_cons (pg_name (i := 2) sc.nd rfl (by first | exact Or.inl rfl | exact Or.inr rfl)) pgs_nil))) (pss_one (ps_if (pt_not (pt_val (pe_c C_is_amount (hr.mono (by decide)) pass0 (pa_cons (pv 1) pa_nil)))) (pss_one (ps_err rfl (takes_of rfl rfl rfl rfl) e_BadHouse rfl)) pss_nil)))))), fun l hl => ?_⟩
  have hl : SpPre l := hl
  have hll := hl.len
  have l3 : ∀ {a b c : SD}, Less [a, b, c] [a, .un, .un] := .eq (.un (.un .nil))
  by_cases c0 : GoodS l
  · have tst : EvT K (tTest (tOp (rI0 fun i j => .bl (decide (i > j))) (tCB (rLenS K) (tCons (tVar 0) tNil)) (tC (.int 30)))) [.dat (.list (l.map rawI)), .un, .un] (decide (l.length > 30)) := (et_test (ed_B0 (ed_lenl (ed_var 0 rfl).l) (ed_int 30))).is (by rw [List.length_map]; exact decide_eq_decide.mpr (by omega))
    have tst2 : ∀ p : Int × Int × Int, EvT K (tNot (tB (tCall (sp_is_amount K) [] E0 (tCons (tVar 1) tNil)))) [.dat (.list (l.map rawI)), .dat (.int p.1), .dat (.tuple [.int p.2.1, .int p.2.2])] (!amB (Pt.i p.1)) := fun p => et_not (et_B (ed_call (x := Pt.i p.1) (ea_d (ed_var 1 rfl) ea_nil) rfl trivial))
    have turn : ∀ (i : Nat) (d : PyData), (l.map rawI)[i]? = some d → ∃ p, l[i]? = some p ∧ d = rawI p := fun i d hd => by
      rw [List.getElem?_map] at hd
      obtain ⟨p, h1, h2⟩ := Option.map_eq_some_iff.mp hd
      exact ⟨p, h1, h2.symm⟩
    by_cases c1 : l.length ≤ 30
    · by_cases c2 : ∀ p ∈ l, amB (Pt.i p.1) = true
      · refine ⟨fun d hd => .inr ⟨?_, [.dat (.list (l.map rawI)), .un, .un], ?_⟩, fun z => ?_⟩
        · rw [dmO_some ⟨c0, c1, c2⟩] at hd; cases hd; rfl
        · refine run_seq (run_onlyN (x := l) (ea_d (ed_var 0 rfl) ea_nil) rfl hl (spO_some c0)) (run_seq (run_ifF (tst.is (decide_eq_false (by omega))) run_next) (run_for (ts := [1, 2]) (fun _ => [.dat (.list (l.map rawI)), .un, .un]) (ei_list (ed_var 0 rfl)) l3 fun i d hi hd => ?_))
          obtain ⟨p, hp, rfl⟩ := turn i d hd
          exact ⟨_, eg_tup (egs_cons (eg_name (by decide)) (egs_cons (eg_name (by decide)) egs_nil)) rfl, .n (run_ifF ((tst2 p).is (by rw [c2 p (List.mem_of_getElem? hp)]; rfl)) run_next) l3⟩
        · rw [dmO_some ⟨c0, c1, c2⟩] at z; cases z
      · obtain ⟨n, p, e1, e2, e3⟩ := first_bad (b := fun p : Int × Int × Int => amB (Pt.i p.1)) c2
        refine ⟨fun d hd => ?_, fun _ => ?_⟩
        · rw [dmO_none (fun z => c2 z.2.2)] at hd; cases hd
        · refine run_seq (run_onlyN (x := l) (ea_d (ed_var 0 rfl) ea_nil) rfl hl (spO_some c0)) (run_seq (run_ifF (tst.is (decide_eq_false (by omega))) run_next) (run_forE (ts := [1, 2]) (fun _ => [.dat (.list (l.map rawI)), .un, .un]) n (ei_list (ed_var 0 rfl)) l3 (fun i d hi hd => ?_) (d := rawI p) (by rw [List.getElem?_map, e1]; rfl) (eg_tup (egs_cons (eg_name (by decide)) (egs_cons (eg_name (by decide)) egs_nil)) rfl) (run_ifT ((tst2 p).is (by rw [e2]; rfl)) run_err)))
          obtain ⟨q, hq, rfl⟩ := turn i d hd
          exact ⟨_, eg_tup (egs_cons (eg_name (by decide)) (egs_cons (eg_name (by decide)) egs_nil)) rfl, .n (run_ifF ((tst2 q).is (by rw [e3 i q hi hq]; rfl)) run_next) l3⟩
    · refine ⟨fun d hd => ?_, fun _ => ?_⟩
      · rw [dmO_none (fun z => c1 z.2.1)] at hd; cases hd
      · exact run_seq (run_onlyN (x := l) (ea_d (ed_var 0 rfl) ea_nil) rfl hl (spO_some c0)) (run_seqE (run_ifT (tst.is (decide_eq_true (by omega))) run_err))
  · refine ⟨fun d hd => ?_, fun _ => ?_⟩
    · rw [dmO_none (fun z => c0 z.1)] at hd; cases hd
    · exact run_seqE (run_onlyR (x := l) (ea_d (ed_var 0 rfl) ea_nil) rfl hl (spO_none c0) e_BadSpread.exm fun _ => rfl)
theorem sc_is_layer : FnScope ["layer", "word", "parts"] ["layer"] (defScope s_is_layer) := ⟨rfl, rfl, rfl, by decide +kernel, rfl, by decide +kernel, by decide +kernel⟩
def sp_is_layer (K : PySem.W.Frag) : Sp := SpD K (fun l : RL => [.dat (encR l)]) (fun l => l.ps.length ≤ 100) (fun l => .bool (lyB l))
theorem ok_is_layer {f : Addr} {fd : FuncData} (F : Fun K "is_layer" "is_layer" s_is_layer f fd) (m_len : mg "len" = none) (C_is_amount : Callee P w K mg base CX0 1 "is_amount" ["part"] (sp_is_amount K)) (C_is_share : Callee P w K mg base CX0 2 "is_share" ["part"] (sp_is_share K)) : FnOk P w K mg base CX0 3 f fd ["layer"] (sp_is_layer K) := by
  have sc := sc_is_layer
  refine fn_D F sc (fun _ => rfl) fun cdv A outer s H E hr => ?_
  refine ⟨_, (pss_cons (ps_set (i := 1) sc.nd rfl (by first | exact Or.inl rfl | exact Or.inr rfl) (pe_ix (r := rIxT K) ix_tup (pv 0) pe_int (fun _ _ => rfl)))
      (pss_cons (ps_set (i := 2) sc.nd rfl (by first | exact Or.inl rfl | exact Or.inr rfl) (pe_slice (r := rSlT K) sl_tup (pv 0) (po_some pe_int) po_none))
      (pss_cons (ps_if (pt_cmpR op_eq (pv 1) pe_str (nomark _)) (pss_one (ps_ret (pe_and (pe_cmpR op_eq (pe_callB (id := "len") (r := rLenS K) call_len_seq (by rfl) m_len PySem.boot_len (pa_cons (pv 2) pa_nil)) pe_int (nomark _)) (pe_one (pe_c C_is_share (hr.mono (by decide)) pass0 (pa_cons (pe_ix (r := rIxT K) ix_tup (pv 2) pe_int (fun _ _ => rfl)) pa_nil)))))) pss_nil)
      (pss_cons (ps_if (pt_cmpR op_eq (pv 1) pe_str (nomark _)) (pss_one (ps_ret (pe_and (pe_cmpR op_eq (pe_callB (id := "len") (r := rLenS K) call_len_seq (by rfl) m_len PySem.boot_len (pa_cons (pv 2) pa_nil)) pe_int (nomark _)) (pe_one (pe_c C_is_amount (hr.mono (by decide)) pass0 (pa_cons (pe_ix (r := rIxT K) ix_tup (pv 2) pe_int (fun _ _ => rfl)) pa_nil)))))) pss_nil)
      (pss_cons (ps_if (pt_cmpR op_eq (pv 1) pe_str (nomark _)) (pss_one (ps_ret (pe_and (pe_cmpR op_eq (pe_callB (id := "len") (r := rLenS K) call_len_seq (by rfl) m_len PySem.boot_len (pa_cons (pv 2) pa_nil)) pe_int (nomark _)) (pe_and (pe_c C_is_amount (hr.mono (by decide)) pass0 (pa_cons (pe_ix (r := rIxT K) ix_tup (pv 2) pe_int (fun _ _ => rfl)) pa_nil)) (pe_and (pe_c C_is_amount (hr.mono (by decide)) pass0 (pa_cons (pe_ix (r := rIxT K) ix_tup (pv 2) pe_int (fun _ _ => rfl)) pa_nil)) (pe_one (pe_cmpR op_le (pe_ix (r := rIxT K) ix_tup (pv 2) pe_int (fun _ _ => rfl)) (pe_ix (r := rIxT K) ix_tup (pv 2) pe_int (fun _ _ => rfl)) (nomark _)))))))) pss_nil)
      (pss_one (ps_ret pe_bl))))))), fun l hl => ?_⟩
  obtain ⟨wd, ps⟩ := l
  refine run_seq (run_set (d := .str wd) (ed_ixT (ed_var 0 rfl) (ed_int 0) (atI_int (by decide) rfl))) ?_
  have e1 : cutD (PyData.str wd :: ps.map encP) (some 1) none = ps.map encP := by
    show (List.drop (HT.sIx (ps.map encP).length.succ 0 (some 1)) (PyData.str wd :: ps.map encP)).take _ = _
    rw [show HT.sIx (ps.map encP).length.succ 0 (some 1) = 1 from by rw [show (1 : Int) = ((1 : Nat) : Int) from rfl, HT.sIx_nat]; omega]
    rw [List.drop_succ_cons, List.drop_zero]
    exact List.take_of_length_le (by show _ ≤ (ps.map encP).length + 1 - 1; omega)
  refine run_seq (run_set ((ed_sliceT (ed_var 0 rfl) (eo_some (ed_int 1)) eo_none (by
    rw [show (1 : Int) = ((1 : Nat) : Int) from rfl, HT.sIx_nat]
    show ¬(min 1 ((ps.map encP).length + 1) = 0 ∧ _)
    omega)).is (d' := .tuple (ps.map encP)) (congrArg PyData.tuple e1))) ?_
  show Run K E _ [.dat (encR ⟨wd, ps⟩), .dat (.str wd), .dat (.tuple (ps.map encP))] _
  have len : ∀ n : Int, EvD K (tOp rEq (tCB (rLenS K) (tCons (tVar 2) tNil)) (tC (.int n))) [.dat (encR ⟨wd, ps⟩), .dat (.str wd), .dat (.tuple (ps.map encP))] (.bool (decide ((ps.length : Int) = n))) := fun n => (ed_eqI (ed_lenT (ed_var 2 rfl).p) (ed_int n)).is (by rw [List.length_map])
  by_cases c1 : wd = "share"
  · subst c1
    refine run_seqR (run_ifT ((et_test (ed_eqS (ed_var 1 rfl) (ed_str _))).is (decide_eq_true rfl)) ?_)
    match ps, len with
    | [p], len => exact run_ret ((ed_andV (len 1) fun _ => ed_call (x := p) (ea_d (ed_ixT (ed_var 2 rfl) (ed_int 0) rfl) ea_nil) rfl trivial).is (by rfl))
    | [], len => exact run_ret ((ed_andV (c := false) (len 1) fun z => nomatch z).is (by rfl))
    | p :: q :: r, len => exact run_ret ((ed_andV (c := false) ((len 1).is (congrArg PyData.bool (decide_eq_false (by rw [List.length_cons, List.length_cons]; omega)))) fun z => nomatch z).is (by rfl))
  · refine run_seq (run_ifF ((et_test (ed_eqS (ed_var 1 rfl) (ed_str _))).is (decide_eq_false c1)) run_next) ?_
    by_cases c2 : wd = "limit"
    · subst c2
      refine run_seqR (run_ifT ((et_test (ed_eqS (ed_var 1 rfl) (ed_str _))).is (decide_eq_true rfl)) ?_)
      have e0 : ∀ ps : List Pt, lyB ⟨"limit", ps⟩ = match ps with
        | [p] => amB p
        | _ => false := fun ps => by unfold lyB; rw [if_neg c1, if_pos rfl]; try rfl
      show Run K E _ _ (.rt (.bool (lyB ⟨"limit", ps⟩)))
      rw [e0]
      match ps, len with
      | [p], len => exact run_ret ((ed_andV (len 1) fun _ => ed_call (x := p) (ea_d (ed_ixT (ed_var 2 rfl) (ed_int 0) rfl) ea_nil) rfl trivial).is (by rfl))
      | [], len => exact run_ret ((ed_andV (c := false) (len 1) fun z => nomatch z).is (by rfl))
      | p :: q :: r, len => exact run_ret ((ed_andV (c := false) ((len 1).is (congrArg PyData.bool (decide_eq_false (by rw [List.length_cons, List.length_cons]; omega)))) fun z => nomatch z).is (by rfl))
    · refine run_seq (run_ifF ((et_test (ed_eqS (ed_var 1 rfl) (ed_str _))).is (decide_eq_false c2)) run_next) ?_
      by_cases c3 : wd = "band"
      · subst c3
        refine run_seqR (run_ifT ((et_test (ed_eqS (ed_var 1 rfl) (ed_str _))).is (decide_eq_true rfl)) ?_)
        have e0 : ∀ ps : List Pt, lyB ⟨"band", ps⟩ = match ps with
          | [p, q] => amB p && (amB q && leB p q)
          | _ => false := fun ps => by unfold lyB; rw [if_neg c1, if_neg c2, if_pos rfl]; try rfl
        show Run K E _ _ (.rt (.bool (lyB ⟨"band", ps⟩)))
        rw [e0]
        match ps, len with
        | [p, q], len =>
          have pI : ∀ p : Pt, amB p = true → ∃ x, p = .i x := fun p h => by
            cases p with
            | i x => exact ⟨x, rfl⟩
            | f t l => cases h
          refine run_ret ((ed_andV (len 2) fun _ => ed_andV (ed_call (x := p) (ea_d (ed_ixT (ed_var 2 rfl) (ed_int 0) rfl) ea_nil) rfl trivial) fun hp => ed_andV (ed_call (x := q) (ea_d (ed_ixT (ed_var 2 rfl) (ed_int 1) rfl) ea_nil) rfl trivial) (c := leB p q) fun hq => ?_).is (by rfl))
          obtain ⟨x, rfl⟩ := pI p hp
          obtain ⟨y, rfl⟩ := pI q hq
          exact ed_B0 (ed_ixT (ed_var 2 rfl) (ed_int 0) rfl) (ed_ixT (ed_var 2 rfl) (ed_int 1) rfl)
        | [p], len => exact run_ret ((ed_andV (c := false) (len 2) fun z => nomatch z).is (by rfl))
        | [], len => exact run_ret ((ed_andV (c := false) (len 2) fun z => nomatch z).is (by rfl))
        | p :: q :: r :: t, len => exact run_ret ((ed_andV (c := false) ((len 2).is (congrArg PyData.bool (decide_eq_false (by rw [List.length_cons, List.length_cons, List.length_cons]; omega)))) fun z => nomatch z).is (by rfl))
      · refine run_seq (run_ifF ((et_test (ed_eqS (ed_var 1 rfl) (ed_str _))).is (decide_eq_false c3)) run_next) ?_
        exact run_ret ((ed_bl false).is (congrArg PyData.bool (by unfold lyB; rw [if_neg c1, if_neg c2, if_neg c3])))
def trO (t : RT) : Option PyData := if trB t = true then some .none else none
theorem sc_check_treaty : FnScope ["treaty", "price", "layers", "layer"] ["treaty"] (defScope s_check_treaty) := ⟨rfl, rfl, rfl, by decide +kernel, rfl, by decide +kernel, by decide +kernel⟩
def sp_check_treaty (K : PySem.W.Frag) (C : Addr) : Sp := SpX K (fun t : RT => [.dat (encRT t)]) (fun t => ∀ l ∈ t.ls, l.ps.length ≤ 100) (.ref C) trO
theorem ok_check_treaty {f C : Addr} {fd : FuncData} {tM : _} (F : Fun K "check_treaty" "check_treaty" s_check_treaty f fd) (m_len : mg "len" = none) (m_MOST_LAYERS : mg "MOST_LAYERS" = some (.int 4 tM)) (e_BadHouse : ErrC K mg "BadHouse" C) (C_is_amount : Callee P w K mg base CX0 1 "is_amount" ["part"] (sp_is_amount K)) (C_is_layer : Callee P w K mg base CX0 3 "is_layer" ["layer"] (sp_is_layer K)) :
    FnOk P w K mg base (L2.CX P w) 4 f fd ["treaty"] (sp_check_treaty K C) := by
  have sc := sc_check_treaty
  refine fn_X F sc (fun _ => rfl) fun cdv A outer s H E hr => ?_
  refine ⟨_, (pss_cons (ps_asg (pv 0) (pg_tup rfl (pgs_cons (pg_name (i := 1) sc.nd rfl (by first | exact Or.inl rfl | exact Or.inr rfl)) (pgs_cons (pg_name (i := 2) sc.nd rfl (by first | exact Or.inl rfl | exact Or.inr rfl)) pgs_nil))))
      (pss_cons (ps_if (pt_not (pt_val (pe_c C_is_amount (hr.mono (by decide)) pass0 (pa_cons (pv 1) pa_nil)))) (pss_one (ps_err rfl (takes_of rfl rfl rfl rfl) e_BadHouse rfl)) pss_nil)
      (pss_cons (ps_if (pt_cmpR op_gt (pe_callB (id := "len") (r := rLenS K) call_len_seq (by rfl) m_len PySem.boot_len (pa_cons (pv 2) pa_nil)) (pe_glob (v := .int 4) rfl m_MOST_LAYERS ⟨_, rfl⟩) (nomark _)) (pss_one (ps_err rfl (takes_of rfl rfl rfl rfl) e_BadHouse rfl)) pss_nil)
      (pss_one (ps_for (passes_of rfl) rfl (pi_list (pv 2)) (pg_name (i := 3) sc.nd rfl (by first | exact Or.inl rfl | exact Or.inr rfl)) (pss_one (ps_if (pt_not (pt_val (pe_c C_is_layer (hr.mono (by decide)) pass0 (pa_cons (pv 3) pa_nil)))) (pss_one (ps_err rfl (takes_of rfl rfl rfl rfl) e_BadHouse rfl)) pss_nil))))))), fun t ht => ?_⟩
  obtain ⟨pr, ls⟩ := t
  have ht : ∀ l ∈ ls, l.ps.length ≤ 100 := ht
  have eE : ∀ d, trO ⟨pr, ls⟩ = some d → d = .none := fun d hd => by unfold trO at hd; split at hd <;> cases hd; rfl
  have hd1 : Run K E (tAsg (tVar 0) (gTup K 2 (gCons (gName 1) (gCons (gName 2) gNil)))) [.dat (encRT ⟨pr, ls⟩), .un, .un, .un] (.nx [.dat (encRT ⟨pr, ls⟩), .dat (.int pr), .dat (.list (ls.map encR)), .un]) := run_asg (ts := [1, 2]) (ed_var 0 rfl) (eg_tup (egs_cons (eg_name (by decide)) (egs_cons (eg_name (by decide)) egs_nil)) rfl)
  have tst1 : EvT K (tNot (tB (tCall (sp_is_amount K) [] E0 (tCons (tVar 1) tNil)))) [.dat (encRT ⟨pr, ls⟩), .dat (.int pr), .dat (.list (ls.map encR)), .un] (!amB (Pt.i pr)) := et_not (et_B (ed_call (x := Pt.i pr) (ea_d (ed_var 1 rfl) ea_nil) rfl trivial))
  have tst2 : EvT K (tTest (tOp (rI0 fun i j => .bl (decide (i > j))) (tCB (rLenS K) (tCons (tVar 2) tNil)) (tC (.int 4)))) [.dat (encRT ⟨pr, ls⟩), .dat (.int pr), .dat (.list (ls.map encR)), .un] (decide (ls.length > 4)) := (et_test (ed_B0 (ed_lenl (ed_var 2 rfl).l) (ed_int 4))).is (by rw [List.length_map]; exact decide_eq_decide.mpr (by omega))
  have tst3 : ∀ l ∈ ls, EvT K (tNot (tB (tCall (sp_is_layer K) [] E0 (tCons (tVar 3) tNil)))) [.dat (encRT ⟨pr, ls⟩), .dat (.int pr), .dat (.list (ls.map encR)), .dat (encR l)] (!lyB l) := fun l hl => et_not (et_B (ed_call (x := l) (ea_d (ed_var 3 rfl) ea_nil) rfl (ht l hl)))
  have turn : ∀ (i : Nat) (d : PyData), (ls.map encR)[i]? = some d → ∃ p, ls[i]? = some p ∧ d = encR p := fun i d hd => by
    rw [List.getElem?_map] at hd
    obtain ⟨p, h1, h2⟩ := Option.map_eq_some_iff.mp hd
    exact ⟨p, h1, h2.symm⟩
  have l4 : ∀ {a b c d : SD}, Less [a, b, c, d] [a, b, c, .un] := .eq (.eq (.eq (.un .nil)))
  have eT : trB ⟨pr, ls⟩ = (amB (Pt.i pr) && (decide (ls.length ≤ 4) && ls.all lyB)) := rfl
  cases c1 : amB (Pt.i pr) with
  | false =>
    have hn : trO ⟨pr, ls⟩ = none := by unfold trO; rw [eT, c1]; rfl
    refine ⟨fun d hd => (by rw [hn] at hd; cases hd), fun _ => ?_⟩
    exact run_seq hd1 (run_seqE (run_ifT (tst1.is (by rw [c1]; rfl)) run_err))
  | true =>
    by_cases c2 : ls.length ≤ 4
    · cases c3 : ls.all lyB with
      | true =>
        have hn : trO ⟨pr, ls⟩ = some .none := by unfold trO; rw [eT, c1, c3, decide_eq_true c2]; rfl
        refine ⟨fun d hd => .inr ⟨eE d hd, [.dat (encRT ⟨pr, ls⟩), .dat (.int pr), .dat (.list (ls.map encR)), .un], ?_⟩, fun z => (by rw [hn] at z; cases z)⟩
        refine run_seq hd1 (run_seq (run_ifF (tst1.is (by rw [c1]; rfl)) run_next) (run_seq (run_ifF (tst2.is (decide_eq_false (by omega))) run_next) (run_for (ts := [3]) (fun _ => [.dat (encRT ⟨pr, ls⟩), .dat (.int pr), .dat (.list (ls.map encR)), .un]) (ei_list (ed_var 2 rfl)) l4 fun i d hi hd => ?_)))
        obtain ⟨p, hp, rfl⟩ := turn i d hd
        exact ⟨_, eg_name (by decide), .n (run_ifF ((tst3 p (List.mem_of_getElem? hp)).is (by rw [List.all_eq_true.mp c3 p (List.mem_of_getElem? hp)]; rfl)) run_next) l4⟩
      | false =>
        have hn : trO ⟨pr, ls⟩ = none := by unfold trO; rw [eT, c1, c3, decide_eq_true c2]; rfl
        obtain ⟨n, p, e1, e2, e3⟩ := first_bad (b := lyB) (l := ls) (fun z => by rw [List.all_eq_true.mpr z] at c3; cases c3)
        refine ⟨fun d hd => (by rw [hn] at hd; cases hd), fun _ => ?_⟩
        refine run_seq hd1 (run_seq (run_ifF (tst1.is (by rw [c1]; rfl)) run_next) (run_seq (run_ifF (tst2.is (decide_eq_false (by omega))) run_next) (run_forE (ts := [3]) (fun _ => [.dat (encRT ⟨pr, ls⟩), .dat (.int pr), .dat (.list (ls.map encR)), .un]) n (ei_list (ed_var 2 rfl)) l4 (fun i d hi hd => ?_) (d := encR p) (by rw [List.getElem?_map, e1]; rfl) (eg_name (by decide)) (run_ifT ((tst3 p (List.mem_of_getElem? e1)).is (by rw [e2]; rfl)) run_err))))
        obtain ⟨q, hq, rfl⟩ := turn i d hd
        exact ⟨_, eg_name (by decide), .n (run_ifF ((tst3 q (List.mem_of_getElem? hq)).is (by rw [e3 i q hi hq]; rfl)) run_next) l4⟩
    · have hn : trO ⟨pr, ls⟩ = none := by unfold trO; rw [eT, c1, decide_eq_false c2]; rfl
      refine ⟨fun d hd => (by rw [hn] at hd; cases hd), fun _ => ?_⟩
      exact run_seq hd1 (run_seq (run_ifF (tst1.is (by rw [c1]; rfl)) run_next) (run_seqE (run_ifT (tst2.is (decide_eq_true (by omega))) run_err)))

end
end KP

namespace KP
open PySem L2 DL MX
section
variable {P : Program} {w : World} {K : PySem.W.Frag} {mg : Str → Option Value} {base : Heap}
/-! ### turns, weathers, houses -/
structure RWt where
  prem : Int
  lines : List (List (Int × Int × Int))
  turns : List (Int × Int × Int)
structure RHs where
  ws : List RWt
  ts : List RT
abbrev encSp (l : List (Int × Int × Int)) : PyData := .list (l.map rawI)
abbrev encRW (w : RWt) : PyData := .tuple [.int w.prem, .list (w.lines.map encSp), encSp w.turns]
abbrev encRH (h : RHs) : PyData := .tuple [.list (h.ws.map encRW), .list (h.ts.map encRT)]
def tuOk (l : List (Int × Int × Int)) (n : Int) : Prop := GoodS l ∧ ∀ p ∈ l, 0 ≤ p.1 ∧ p.1 < n
noncomputable def okO (p : Prop) : Option PyData := by classical exact if p then some .none else none
theorem okO_some {p : Prop} (h : p) : okO p = some .none := if_pos h
theorem okO_none {p : Prop} (h : ¬p) : okO p = none := if_neg h
theorem sc_check_turns : FnScope ["turns", "many", "value", "_"] ["turns", "many"] (defScope s_check_turns) := ⟨rfl, rfl, rfl, by decide +kernel, rfl, by decide +kernel, by decide +kernel⟩
def sp_check_turns (K : PySem.W.Frag) (C : Addr) : Sp := SpX K (fun a : List (Int × Int × Int) × Int => [.dat (encSp a.1), .dat (.int a.2)]) (fun a => SpPre a.1) (.ref C) (fun a => okO (tuOk a.1 a.2))
theorem ok_check_turns {f C C2 : Addr} {fd : FuncData} (F : Fun K "check_turns" "check_turns" s_check_turns f fd) (e_BadHouse : ErrC K mg "BadHouse" C) (e_BadSpread : ErrC K mg "BadSpread" C2) (C_check_spread : Callee P w K mg base (L2N.CX P w) 4 "check_spread" ["spread"] (sp_check_spread K C2)) :
    FnOk P w K mg base (L2.CX P w) 5 f fd ["turns", "many"] (sp_check_turns K C) := by
  have sc := sc_check_turns
  refine fn_X F sc (fun _ => rfl) fun cdv A outer s H E hr => ?_
  refine ⟨_, (pss_cons (L2H.ps_try_onlyX rfl rfl ⟨rfl, by decide, .inl e_BadSpread.g⟩ (fun _ => PassesOwnAt.leaving) (takes_of rfl rfl rfl rfl) (fun W pn xe tk _ _ => pss_one (ps_expr (pe_cS C_check_spread (hr.mono (by decide)) (fun σ => L2N.passAt tk σ) (pa_cons (pv 0) pa_nil)))) (fun a oe cls d pn _ _ tk hot => pss_one (ps_errHN hot tk e_BadHouse rfl)))
      (pss_one (ps_for (passes_of rfl) rfl (pi_list (pv 0)) (pg_tup rfl (pgs_cons (pg_name (i := 2) sc.nd rfl (by first | exact Or.inl rfl | exact Or.inr rfl)) (pgs_cons (pg_name (i := 3) sc.nd rfl (by first | exact Or.inl rfl | exact Or.inr rfl)) pgs_nil))) (pss_one (ps_if (pt_not (pt_chain op_le op_lt pe_int (pv 2) (pv 1))) (pss_one (ps_err rfl (takes_of rfl rfl rfl rfl) e_BadHouse rfl)) pss_nil))))), fun a hl => ?_⟩
  obtain ⟨l, n⟩ := a
  have hl : SpPre l := hl
  have hll := hl.len
  have l4 : ∀ {a b c d : SD}, Less [a, b, c, d] [a, b, .un, .un] := .eq (.eq (.un (.un .nil)))
  have hOk : tuOk l n ↔ GoodS l ∧ ∀ p ∈ l, 0 ≤ p.1 ∧ p.1 < n := Iff.rfl
  have tst2 : ∀ p : Int × Int × Int, EvT K (tNot (tTest (tChain (rI0 fun i j => .bl (decide (i ≤ j))) (rI0 fun i j => .bl (decide (i < j))) (tC (.int 0)) (tVar 2) (tVar 1)))) [.dat (.list (l.map rawI)), .dat (.int n), .dat (.int p.1), .dat (.tuple [.int p.2.1, .int p.2.2])] (!(decide (0 ≤ p.1) && decide (p.1 < n))) := fun p => et_not (et_test (ed_chain (ed_int 0) (ed_var 2 rfl) (ed_var 1 rfl)))
  have turn : ∀ (i : Nat) (d : PyData), (l.map rawI)[i]? = some d → ∃ p, l[i]? = some p ∧ d = rawI p := fun i d hd => by
    rw [List.getElem?_map] at hd
    obtain ⟨p, h1, h2⟩ := Option.map_eq_some_iff.mp hd
    exact ⟨p, h1, h2.symm⟩
  have b2 : ∀ p : Int × Int × Int, (decide (0 ≤ p.1) && decide (p.1 < n)) = true ↔ 0 ≤ p.1 ∧ p.1 < n := fun p => by rw [Bool.and_eq_true, decide_eq_true_eq, decide_eq_true_eq]
  by_cases c0 : GoodS l
  · by_cases c2 : ∀ p ∈ l, (decide (0 ≤ p.1) && decide (p.1 < n)) = true
    · have hn : okO (tuOk l n) = some .none := okO_some ⟨c0, fun p hp => (b2 p).mp (c2 p hp)⟩
      refine ⟨fun d hd => .inr ⟨?_, [.dat (.list (l.map rawI)), .dat (.int n), .un, .un], ?_⟩, fun z => (by rw [hn] at z; cases z)⟩
      · rw [hn] at hd; cases hd; rfl
      · refine run_seq (run_onlyN (x := l) (ea_d (ed_var 0 rfl) ea_nil) rfl hl (spO_some c0)) (run_for (ts := [2, 3]) (fun _ => [.dat (.list (l.map rawI)), .dat (.int n), .un, .un]) (ei_list (ed_var 0 rfl)) l4 fun i d hi hd => ?_)
        obtain ⟨p, hp, rfl⟩ := turn i d hd
        exact ⟨_, eg_tup (egs_cons (eg_name (by decide)) (egs_cons (eg_name (by decide)) egs_nil)) rfl, .n (run_ifF ((tst2 p).is (by rw [c2 p (List.mem_of_getElem? hp)]; rfl)) run_next) l4⟩
    · have hn : okO (tuOk l n) = none := okO_none fun z => c2 fun p hp => (b2 p).mpr (z.2 p hp)
      obtain ⟨m, p, e1, e2, e3⟩ := first_bad (b := fun p : Int × Int × Int => decide (0 ≤ p.1) && decide (p.1 < n)) c2
      refine ⟨fun d hd => (by rw [hn] at hd; cases hd), fun _ => ?_⟩
      refine run_seq (run_onlyN (x := l) (ea_d (ed_var 0 rfl) ea_nil) rfl hl (spO_some c0)) (run_forE (ts := [2, 3]) (fun _ => [.dat (.list (l.map rawI)), .dat (.int n), .un, .un]) m (ei_list (ed_var 0 rfl)) l4 (fun i d hi hd => ?_) (d := rawI p) (by rw [List.getElem?_map, e1]; rfl) (eg_tup (egs_cons (eg_name (by decide)) (egs_cons (eg_name (by decide)) egs_nil)) rfl) (run_ifT ((tst2 p).is (by rw [e2]; rfl)) run_err))
      obtain ⟨q, hq, rfl⟩ := turn i d hd
      exact ⟨_, eg_tup (egs_cons (eg_name (by decide)) (egs_cons (eg_name (by decide)) egs_nil)) rfl, .n (run_ifF ((tst2 q).is (by rw [e3 i q hi hq]; rfl)) run_next) l4⟩
  · have hn : okO (tuOk l n) = none := okO_none fun z => c0 z.1
    refine ⟨fun d hd => (by rw [hn] at hd; cases hd), fun _ => ?_⟩
    exact run_seqE (run_onlyR (x := l) (ea_d (ed_var 0 rfl) ea_nil) rfl hl (spO_none c0) e_BadSpread.exm fun _ => rfl)
structure wtR (w : RWt) (n : Int) : Prop where
  prem : amB (.i w.prem) = true
  few : w.lines.length ≤ 3
  lines : ∀ l ∈ w.lines, dmOk l
  turns : tuOk w.turns n
structure wtPre (w : RWt) : Prop where
  lines : ∀ l ∈ w.lines, SpPre l
  turns : SpPre w.turns
theorem first_no {α : Type} {p : α → Prop} {l : List α} (h : ¬∀ x ∈ l, p x) : ∃ (n : Nat) (x : α), l[n]? = some x ∧ ¬p x ∧ ∀ (j : Nat) (q : α), j < n → l[j]? = some q → p q := by
  classical
  obtain ⟨n, x, h1, h2, h3⟩ := first_bad (b := fun x => decide (p x)) (l := l) (fun z => h fun x hx => of_decide_eq_true (z x hx))
  exact ⟨n, x, h1, of_decide_eq_false h2, fun j q hj hq => of_decide_eq_true (h3 j q hj hq)⟩
theorem sc_check_weather : FnScope ["weather", "many", "premium", "lines", "turns", "line"] ["weather", "many"] (defScope s_check_weather) := ⟨rfl, rfl, rfl, by decide +kernel, rfl, by decide +kernel, by decide +kernel⟩
def sp_check_weather (K : PySem.W.Frag) (C : Addr) : Sp := SpX K (fun a : RWt × Int => [.dat (encRW a.1), .dat (.int a.2)]) (fun a => wtPre a.1) (.ref C) (fun a => okO (wtR a.1 a.2))
theorem ok_check_weather {f C : Addr} {fd : FuncData} {tM : _} (F : Fun K "check_weather" "check_weather" s_check_weather f fd) (m_len : mg "len" = none) (m_MOST_LINES : mg "MOST_LINES" = some (.int 3 tM)) (e_BadHouse : ErrC K mg "BadHouse" C) (C_is_amount : Callee P w K mg base CX0 1 "is_amount" ["part"] (sp_is_amount K)) (C_check_damage : Callee P w K mg base (L2.CX P w) 5 "check_damage" ["spread"] (sp_check_damage K C)) (C_check_turns : Callee P w K mg base (L2.CX P w) 5 "check_turns" ["turns", "many"] (sp_check_turns K C)) :
    FnOk P w K mg base (L2.CX P w) 6 f fd ["weather", "many"] (sp_check_weather K C) := by
  have sc := sc_check_weather
  refine fn_X F sc (fun _ => rfl) fun cdv A outer s H E hr => ?_
  refine ⟨_, (pss_cons (ps_asg (pv 0) (pg_tup rfl (pgs_cons (pg_name (i := 2) sc.nd rfl (by first | exact Or.inl rfl | exact Or.inr rfl)) (pgs_cons (pg_name (i := 3) sc.nd rfl (by first | exact Or.inl rfl | exact Or.inr rfl)) (pgs_cons (pg_name (i := 4) sc.nd rfl (by first | exact Or.inl rfl | exact Or.inr rfl)) pgs_nil)))))
      (pss_cons (ps_if (pt_not (pt_val (pe_c C_is_amount (hr.mono (by decide)) pass0 (pa_cons (pv 2) pa_nil)))) (pss_one (ps_err rfl (takes_of rfl rfl rfl rfl) e_BadHouse rfl)) pss_nil)
      (pss_cons (ps_if (pt_cmpR op_gt (pe_callB (id := "len") (r := rLenS K) call_len_seq (by rfl) m_len PySem.boot_len (pa_cons (pv 3) pa_nil)) (pe_glob (v := .int 3) rfl m_MOST_LINES ⟨_, rfl⟩) (nomark _)) (pss_one (ps_err rfl (takes_of rfl rfl rfl rfl) e_BadHouse rfl)) pss_nil)
      (pss_cons (ps_for (passes_of rfl) rfl (pi_list (pv 3)) (pg_name (i := 5) sc.nd rfl (by first | exact Or.inl rfl | exact Or.inr rfl)) (pss_one (ps_expr (pe_c C_check_damage (hr.mono (by decide)) pass_up (pa_cons (pv 5) pa_nil)))))
      (pss_one (ps_expr (pe_c C_check_turns (hr.mono (by decide)) pass_up (pa_cons (pv 4) (pa_cons (pv 1) pa_nil))))))))), fun a ha => ?_⟩
  obtain ⟨⟨pr, ls, tu⟩, n⟩ := a
  have hls : ∀ l ∈ ls, SpPre l := ha.lines
  have htu : SpPre tu := ha.turns
  have eE : ∀ d, okO (wtR ⟨pr, ls, tu⟩ n) = some d → d = .none := fun d hd => by
    by_cases c : wtR ⟨pr, ls, tu⟩ n
    · rw [okO_some c] at hd; cases hd; rfl
    · rw [okO_none c] at hd; cases hd
  have hd1 : Run K E (tAsg (tVar 0) (gTup K 3 (gCons (gName 2) (gCons (gName 3) (gCons (gName 4) gNil))))) [.dat (encRW ⟨pr, ls, tu⟩), .dat (.int n), .un, .un, .un, .un] (.nx [.dat (encRW ⟨pr, ls, tu⟩), .dat (.int n), .dat (.int pr), .dat (.list (ls.map encSp)), .dat (encSp tu), .un]) := run_asg (ts := [2, 3, 4]) (ed_var 0 rfl) (eg_tup (egs_cons (eg_name (by decide)) (egs_cons (eg_name (by decide)) (egs_cons (eg_name (by decide)) egs_nil))) rfl)
  have tst1 : EvT K (tNot (tB (tCall (sp_is_amount K) [] E0 (tCons (tVar 2) tNil)))) [.dat (encRW ⟨pr, ls, tu⟩), .dat (.int n), .dat (.int pr), .dat (.list (ls.map encSp)), .dat (encSp tu), .un] (!amB (Pt.i pr)) := et_not (et_B (ed_call (x := Pt.i pr) (ea_d (ed_var 2 rfl) ea_nil) rfl trivial))
  have tst2 : EvT K (tTest (tOp (rI0 fun i j => .bl (decide (i > j))) (tCB (rLenS K) (tCons (tVar 3) tNil)) (tC (.int 3)))) [.dat (encRW ⟨pr, ls, tu⟩), .dat (.int n), .dat (.int pr), .dat (.list (ls.map encSp)), .dat (encSp tu), .un] (decide (ls.length > 3)) := (et_test (ed_B0 (ed_lenl (ed_var 3 rfl).l) (ed_int 3))).is (by rw [List.length_map]; exact decide_eq_decide.mpr (by omega))
  have turn : ∀ (i : Nat) (d : PyData), (ls.map encSp)[i]? = some d → ∃ p, ls[i]? = some p ∧ d = encSp p := fun i d hd => by
    rw [List.getElem?_map] at hd
    obtain ⟨p, h1, h2⟩ := Option.map_eq_some_iff.mp hd
    exact ⟨p, h1, h2.symm⟩
  by_cases c1 : amB (Pt.i pr) = true
  · by_cases c2 : ls.length ≤ 3
    · by_cases c3 : ∀ l ∈ ls, dmOk l
      · have loop : ∀ (i : Nat) (d : PyData), i < (ls.map encSp).length → (ls.map encSp)[i]? = some d → ∃ em, EvG K (gName 5) [5] [.dat (encRW ⟨pr, ls, tu⟩), .dat (.int n), .dat (.int pr), .dat (.list (ls.map encSp)), .dat (encSp tu), .un] d em ∧ Turn1 K E (tDrop (tCall (sp_check_damage K C) [] E (tCons (tVar 5) tNil))) em [.dat (encRW ⟨pr, ls, tu⟩), .dat (.int n), .dat (.int pr), .dat (.list (ls.map encSp)), .dat (encSp tu), .un] := fun i d hi hd => by
          obtain ⟨l, hl, rfl⟩ := turn i d hd
          exact ⟨_, eg_name (by decide), .n (run_drop (ed_callX (x := l) (d := .none) (ea_d (ed_var 5 rfl) ea_nil) rfl (hls l (List.mem_of_getElem? hl)) (dmO_some (c3 l (List.mem_of_getElem? hl)))).v) (.eq (.eq (.eq (.eq (.eq (.un .nil))))))⟩
        by_cases c4 : tuOk tu n
        · have hn : okO (wtR ⟨pr, ls, tu⟩ n) = some .none := okO_some ⟨c1, c2, c3, c4⟩
          refine ⟨fun d hd => .inr ⟨eE d hd, [.dat (encRW ⟨pr, ls, tu⟩), .dat (.int n), .dat (.int pr), .dat (.list (ls.map encSp)), .dat (encSp tu), .un], ?_⟩, fun z => (by rw [hn] at z; cases z)⟩
          exact run_seq hd1 (run_seq (run_ifF (tst1.is (by rw [c1]; rfl)) run_next) (run_seq (run_ifF (tst2.is (decide_eq_false (by omega))) run_next) (run_seq (run_for (ts := [5]) (fun _ => [.dat (encRW ⟨pr, ls, tu⟩), .dat (.int n), .dat (.int pr), .dat (.list (ls.map encSp)), .dat (encSp tu), .un]) (ei_list (ed_var 3 rfl)) (Less.refl _) loop) (run_drop (ed_callX (x := (tu, n)) (d := .none) (ea_d (ed_var 4 rfl) (ea_d (ed_var 1 rfl) ea_nil)) rfl htu (okO_some c4)).v))))
        · have hn : okO (wtR ⟨pr, ls, tu⟩ n) = none := okO_none fun z => c4 z.turns
          refine ⟨fun d hd => (by rw [hn] at hd; cases hd), fun _ => ?_⟩
          exact run_seq hd1 (run_seq (run_ifF (tst1.is (by rw [c1]; rfl)) run_next) (run_seq (run_ifF (tst2.is (decide_eq_false (by omega))) run_next) (run_seq (run_for (ts := [5]) (fun _ => [.dat (encRW ⟨pr, ls, tu⟩), .dat (.int n), .dat (.int pr), .dat (.list (ls.map encSp)), .dat (encSp tu), .un]) (ei_list (ed_var 3 rfl)) (Less.refl _) loop) (run_dropX (x := (tu, n)) (ea_d (ed_var 4 rfl) (ea_d (ed_var 1 rfl) ea_nil)) rfl htu (okO_none c4)))))
      · have hn : okO (wtR ⟨pr, ls, tu⟩ n) = none := okO_none fun z => c3 z.lines
        obtain ⟨m, l, e1, e2, e3⟩ := first_no c3
        refine ⟨fun d hd => (by rw [hn] at hd; cases hd), fun _ => ?_⟩
        refine run_seq hd1 (run_seq (run_ifF (tst1.is (by rw [c1]; rfl)) run_next) (run_seq (run_ifF (tst2.is (decide_eq_false (by omega))) run_next) (run_seqE (run_forE (ts := [5]) (fun _ => [.dat (encRW ⟨pr, ls, tu⟩), .dat (.int n), .dat (.int pr), .dat (.list (ls.map encSp)), .dat (encSp tu), .un]) m (ei_list (ed_var 3 rfl)) (Less.refl _) (fun i d hi hd => ?_) (d := encSp l) (by rw [List.getElem?_map, e1]; rfl) (eg_name (by decide)) (run_dropX (x := l) (ea_d (ed_var 5 rfl) ea_nil) rfl (hls l (List.mem_of_getElem? e1)) (dmO_none e2))))))
        obtain ⟨q, hq, rfl⟩ := turn i d hd
        exact ⟨_, eg_name (by decide), .n (run_drop (ed_callX (x := q) (d := .none) (ea_d (ed_var 5 rfl) ea_nil) rfl (hls q (List.mem_of_getElem? hq)) (dmO_some (e3 i q hi hq))).v) (.eq (.eq (.eq (.eq (.eq (.un .nil))))))⟩
    · have hn : okO (wtR ⟨pr, ls, tu⟩ n) = none := okO_none fun z => c2 z.few
      refine ⟨fun d hd => (by rw [hn] at hd; cases hd), fun _ => ?_⟩
      exact run_seq hd1 (run_seq (run_ifF (tst1.is (by rw [c1]; rfl)) run_next) (run_seqE (run_ifT (tst2.is (decide_eq_true (by omega))) run_err)))
  · have hn : okO (wtR ⟨pr, ls, tu⟩ n) = none := okO_none fun z => c1 z.prem
    have c1' : amB (Pt.i pr) = false := by cases e : amB (Pt.i pr) with
      | true => exact absurd e c1
      | false => rfl
    refine ⟨fun d hd => (by rw [hn] at hd; cases hd), fun _ => ?_⟩
    exact run_seq hd1 (run_seqE (run_ifT (tst1.is (by rw [c1']; rfl)) run_err))
structure hsR (h : RHs) : Prop where
  nw : 1 ≤ h.ws.length ∧ h.ws.length ≤ 4
  nt : 1 ≤ h.ts.length ∧ h.ts.length ≤ 4
  ws : ∀ w ∈ h.ws, wtR w h.ws.length
  ts : ∀ t ∈ h.ts, trB t = true
structure hsPre (h : RHs) : Prop where
  ws : ∀ w ∈ h.ws, wtPre w
  ts : ∀ t ∈ h.ts, ∀ l ∈ t.ls, l.ps.length ≤ 100
theorem sc_check_house : FnScope ["house", "weathers", "treaties", "weather", "treaty"] ["house"] (defScope s_check_house) := ⟨rfl, rfl, rfl, by decide +kernel, rfl, by decide +kernel, by decide +kernel⟩
def sp_check_house (K : PySem.W.Frag) (C : Addr) : Sp := SpX K (fun h : RHs => [.dat (encRH h)]) hsPre (.ref C) (fun h => okO (hsR h))
theorem ok_check_house {f C : Addr} {fd : FuncData} {tM tN : _} (F : Fun K "check_house" "check_house" s_check_house f fd) (m_len : mg "len" = none) (m_MOST_WEATHERS : mg "MOST_WEATHERS" = some (.int 4 tM)) (m_MOST_TREATIES : mg "MOST_TREATIES" = some (.int 4 tN)) (e_BadHouse : ErrC K mg "BadHouse" C) (C_check_weather : Callee P w K mg base (L2.CX P w) 6 "check_weather" ["weather", "many"] (sp_check_weather K C)) (C_check_treaty : Callee P w K mg base (L2.CX P w) 4 "check_treaty" ["treaty"] (sp_check_treaty K C)) :
    FnOk P w K mg base (L2.CX P w) 7 f fd ["house"] (sp_check_house K C) := by
  have sc := sc_check_house
  refine fn_X F sc (fun _ => rfl) fun cdv A outer s H E hr => ?_
  refine ⟨_, (pss_cons (ps_asg (pv 0) (pg_tup rfl (pgs_cons (pg_name (i := 1) sc.nd rfl (by first | exact Or.inl rfl | exact Or.inr rfl)) (pgs_cons (pg_name (i := 2) sc.nd rfl (by first | exact Or.inl rfl | exact Or.inr rfl)) pgs_nil))))
      (pss_cons (ps_if (pt_not (pt_chain op_le op_le pe_int (pe_callB (id := "len") (r := rLenS K) call_len_seq (by rfl) m_len PySem.boot_len (pa_cons (pv 1) pa_nil)) (pe_glob (v := .int 4) rfl m_MOST_WEATHERS ⟨_, rfl⟩))) (pss_one (ps_err rfl (takes_of rfl rfl rfl rfl) e_BadHouse rfl)) pss_nil)
      (pss_cons (ps_if (pt_not (pt_chain op_le op_le pe_int (pe_callB (id := "len") (r := rLenS K) call_len_seq (by rfl) m_len PySem.boot_len (pa_cons (pv 2) pa_nil)) (pe_glob (v := .int 4) rfl m_MOST_TREATIES ⟨_, rfl⟩))) (pss_one (ps_err rfl (takes_of rfl rfl rfl rfl) e_BadHouse rfl)) pss_nil)
      (pss_cons (ps_for (passes_of rfl) rfl (pi_list (pv 1)) (pg_name (i := 3) sc.nd rfl (by first | exact Or.inl rfl | exact Or.inr rfl)) (pss_one (ps_expr (pe_c C_check_weather (hr.mono (by decide)) pass_up (pa_cons (pv 3) (pa_cons (pe_callB (id := "len") (r := rLenS K) call_len_seq (by rfl) m_len PySem.boot_len (pa_cons (pv 1) pa_nil)) pa_nil))))))
      (pss_one (ps_for (passes_of rfl) rfl (pi_list (pv 2)) (pg_name (i := 4) sc.nd rfl (by first | exact Or.inl rfl | exact Or.inr rfl)) (pss_one (ps_expr (pe_c C_check_treaty (hr.mono (by decide)) pass_up (pa_cons (pv 4) pa_nil)))))))))), fun a ha => ?_⟩
  obtain ⟨ws, ts⟩ := a
  have hws : ∀ w ∈ ws, wtPre w := ha.ws
  have hts : ∀ t ∈ ts, ∀ l ∈ t.ls, l.ps.length ≤ 100 := ha.ts
  have eE : ∀ d, okO (hsR ⟨ws, ts⟩) = some d → d = .none := fun d hd => by
    by_cases c : hsR ⟨ws, ts⟩
    · rw [okO_some c] at hd; cases hd; rfl
    · rw [okO_none c] at hd; cases hd
  have hd1 : Run K E (tAsg (tVar 0) (gTup K 2 (gCons (gName 1) (gCons (gName 2) gNil)))) [.dat (encRH ⟨ws, ts⟩), .un, .un, .un, .un] (.nx [.dat (encRH ⟨ws, ts⟩), .dat (.list (ws.map encRW)), .dat (.list (ts.map encRT)), .un, .un]) := run_asg (ts := [1, 2]) (ed_var 0 rfl) (eg_tup (egs_cons (eg_name (by decide)) (egs_cons (eg_name (by decide)) egs_nil)) rfl)
  have tst1 : EvT K (tNot (tTest (tChain (rI0 fun i j => .bl (decide (i ≤ j))) (rI0 fun i j => .bl (decide (i ≤ j))) (tC (.int 1)) (tCB (rLenS K) (tCons (tVar 1) tNil)) (tC (.int 4))))) [.dat (encRH ⟨ws, ts⟩), .dat (.list (ws.map encRW)), .dat (.list (ts.map encRT)), .un, .un] (!(decide (1 ≤ ws.length) && decide (ws.length ≤ 4))) := (et_not (et_test (ed_chain (ed_int 1) (ed_lenl (ed_var 1 rfl).l) (ed_int 4)))).is (by rw [List.length_map]; congr 1; congr 1 <;> exact decide_eq_decide.mpr (by omega))
  have tst2 : EvT K (tNot (tTest (tChain (rI0 fun i j => .bl (decide (i ≤ j))) (rI0 fun i j => .bl (decide (i ≤ j))) (tC (.int 1)) (tCB (rLenS K) (tCons (tVar 2) tNil)) (tC (.int 4))))) [.dat (encRH ⟨ws, ts⟩), .dat (.list (ws.map encRW)), .dat (.list (ts.map encRT)), .un, .un] (!(decide (1 ≤ ts.length) && decide (ts.length ≤ 4))) := (et_not (et_test (ed_chain (ed_int 1) (ed_lenl (ed_var 2 rfl).l) (ed_int 4)))).is (by rw [List.length_map]; congr 1; congr 1 <;> exact decide_eq_decide.mpr (by omega))
  have no : ∀ n : Nat, ¬(1 ≤ n ∧ n ≤ 4) → (!(decide (1 ≤ n) && decide (n ≤ 4))) = true := fun n h => by
    by_cases c : 1 ≤ n
    · rw [decide_eq_false (show ¬n ≤ 4 from fun z => h ⟨c, z⟩), Bool.and_false]; rfl
    · rw [decide_eq_false c]; rfl
  have turn : ∀ (i : Nat) (d : PyData), (ws.map encRW)[i]? = some d → ∃ p, ws[i]? = some p ∧ d = encRW p := fun i d hd => by
    rw [List.getElem?_map] at hd
    obtain ⟨p, h1, h2⟩ := Option.map_eq_some_iff.mp hd
    exact ⟨p, h1, h2.symm⟩
  have turn2 : ∀ (i : Nat) (d : PyData), (ts.map encRT)[i]? = some d → ∃ p, ts[i]? = some p ∧ d = encRT p := fun i d hd => by
    rw [List.getElem?_map] at hd
    obtain ⟨p, h1, h2⟩ := Option.map_eq_some_iff.mp hd
    exact ⟨p, h1, h2.symm⟩
  have lenW : ∀ ev : EnvD, ev[1]? = some (.dat (.list (ws.map encRW))) → EvD K (tCB (rLenS K) (tCons (tVar 1) tNil)) ev (.int (ws.length : Int)) := fun ev h1 => (ed_lenl (ed_var 1 h1).l).is (by rw [List.length_map])
  have l5 : ∀ {a b c d e : SD}, Less [a, b, c, d, e] [a, b, c, .un, .un] := .eq (.eq (.eq (.un (.un .nil))))
  by_cases c1 : 1 ≤ ws.length ∧ ws.length ≤ 4
  · by_cases c2 : 1 ≤ ts.length ∧ ts.length ≤ 4
    · by_cases c3 : ∀ w ∈ ws, wtR w ws.length
      · have loop : ∀ (i : Nat) (d : PyData), i < (ws.map encRW).length → (ws.map encRW)[i]? = some d → ∃ em, EvG K (gName 3) [3] [.dat (encRH ⟨ws, ts⟩), .dat (.list (ws.map encRW)), .dat (.list (ts.map encRT)), .un, .un] d em ∧ Turn1 K E (tDrop (tCall (sp_check_weather K C) [] E (tCons (tVar 3) (tCons (tCB (rLenS K) (tCons (tVar 1) tNil)) tNil)))) em [.dat (encRH ⟨ws, ts⟩), .dat (.list (ws.map encRW)), .dat (.list (ts.map encRT)), .un, .un] := fun i d hi hd => by
          obtain ⟨l, hl, rfl⟩ := turn i d hd
          exact ⟨_, eg_name (by decide), .n (run_drop (ed_callX (x := (l, (ws.length : Int))) (d := .none) (ea_d (ed_var 3 rfl) (ea_d (lenW _ rfl) ea_nil)) rfl (hws l (List.mem_of_getElem? hl)) (okO_some (c3 l (List.mem_of_getElem? hl)))).v) l5⟩
        by_cases c4 : ∀ t ∈ ts, trB t = true
        · have hn : okO (hsR ⟨ws, ts⟩) = some .none := okO_some ⟨c1, c2, c3, c4⟩
          refine ⟨fun d hd => .inr ⟨eE d hd, [.dat (encRH ⟨ws, ts⟩), .dat (.list (ws.map encRW)), .dat (.list (ts.map encRT)), .un, .un], ?_⟩, fun z => (by rw [hn] at z; cases z)⟩
          refine run_seq hd1 (run_seq (run_ifF (tst1.is (by rw [decide_eq_true c1.1, decide_eq_true c1.2]; rfl)) run_next) (run_seq (run_ifF (tst2.is (by rw [decide_eq_true c2.1, decide_eq_true c2.2]; rfl)) run_next) (run_seq (run_for (ts := [3]) (fun _ => [.dat (encRH ⟨ws, ts⟩), .dat (.list (ws.map encRW)), .dat (.list (ts.map encRT)), .un, .un]) (ei_list (ed_var 1 rfl)) (Less.refl _) loop) (run_for (ts := [4]) (fun _ => [.dat (encRH ⟨ws, ts⟩), .dat (.list (ws.map encRW)), .dat (.list (ts.map encRT)), .un, .un]) (ei_list (ed_var 2 rfl)) (Less.refl _) fun i d hi hd => ?_))))
          obtain ⟨t, ht, rfl⟩ := turn2 i d hd
          exact ⟨_, eg_name (by decide), .n (run_drop (ed_callX (x := t) (d := .none) (ea_d (ed_var 4 rfl) ea_nil) rfl (hts t (List.mem_of_getElem? ht)) (show trO t = some .none by unfold trO; rw [c4 t (List.mem_of_getElem? ht)]; rfl)).v) l5⟩
        · have hn : okO (hsR ⟨ws, ts⟩) = none := okO_none fun z => c4 z.ts
          obtain ⟨m, t, e1, e2, e3⟩ := first_no c4
          have e2' : trO t = none := if_neg e2
          refine ⟨fun d hd => (by rw [hn] at hd; cases hd), fun _ => ?_⟩
          refine run_seq hd1 (run_seq (run_ifF (tst1.is (by rw [decide_eq_true c1.1, decide_eq_true c1.2]; rfl)) run_next) (run_seq (run_ifF (tst2.is (by rw [decide_eq_true c2.1, decide_eq_true c2.2]; rfl)) run_next) (run_seq (run_for (ts := [3]) (fun _ => [.dat (encRH ⟨ws, ts⟩), .dat (.list (ws.map encRW)), .dat (.list (ts.map encRT)), .un, .un]) (ei_list (ed_var 1 rfl)) (Less.refl _) loop) (run_forE (ts := [4]) (fun _ => [.dat (encRH ⟨ws, ts⟩), .dat (.list (ws.map encRW)), .dat (.list (ts.map encRT)), .un, .un]) m (ei_list (ed_var 2 rfl)) (Less.refl _) (fun i d hi hd => ?_) (d := encRT t) (by rw [List.getElem?_map, e1]; rfl) (eg_name (by decide)) (run_dropX (x := t) (ea_d (ed_var 4 rfl) ea_nil) rfl (hts t (List.mem_of_getElem? e1)) e2')))))
          obtain ⟨q, hq, rfl⟩ := turn2 i d hd
          exact ⟨_, eg_name (by decide), .n (run_drop (ed_callX (x := q) (d := .none) (ea_d (ed_var 4 rfl) ea_nil) rfl (hts q (List.mem_of_getElem? hq)) (show trO q = some .none by unfold trO; rw [e3 i q hi hq]; rfl)).v) l5⟩
      · have hn : okO (hsR ⟨ws, ts⟩) = none := okO_none fun z => c3 z.ws
        obtain ⟨m, w1, e1, e2, e3⟩ := first_no c3
        refine ⟨fun d hd => (by rw [hn] at hd; cases hd), fun _ => ?_⟩
        refine run_seq hd1 (run_seq (run_ifF (tst1.is (by rw [decide_eq_true c1.1, decide_eq_true c1.2]; rfl)) run_next) (run_seq (run_ifF (tst2.is (by rw [decide_eq_true c2.1, decide_eq_true c2.2]; rfl)) run_next) (run_seqE (run_forE (ts := [3]) (fun _ => [.dat (encRH ⟨ws, ts⟩), .dat (.list (ws.map encRW)), .dat (.list (ts.map encRT)), .un, .un]) m (ei_list (ed_var 1 rfl)) (Less.refl _) (fun i d hi hd => ?_) (d := encRW w1) (by rw [List.getElem?_map, e1]; rfl) (eg_name (by decide)) (run_dropX (x := (w1, (ws.length : Int))) (ea_d (ed_var 3 rfl) (ea_d (lenW _ rfl) ea_nil)) rfl (hws w1 (List.mem_of_getElem? e1)) (okO_none e2))))))
        obtain ⟨q, hq, rfl⟩ := turn i d hd
        exact ⟨_, eg_name (by decide), .n (run_drop (ed_callX (x := (q, (ws.length : Int))) (d := .none) (ea_d (ed_var 3 rfl) (ea_d (lenW _ rfl) ea_nil)) rfl (hws q (List.mem_of_getElem? hq)) (okO_some (e3 i q hi hq))).v) l5⟩
    · have hn : okO (hsR ⟨ws, ts⟩) = none := okO_none fun z => c2 z.nt
      refine ⟨fun d hd => (by rw [hn] at hd; cases hd), fun _ => ?_⟩
      exact run_seq hd1 (run_seq (run_ifF (tst1.is (by rw [decide_eq_true c1.1, decide_eq_true c1.2]; rfl)) run_next) (run_seqE (run_ifT (tst2.is (no _ c2)) run_err)))
  · have hn : okO (hsR ⟨ws, ts⟩) = none := okO_none fun z => c1 z.nw
    refine ⟨fun d hd => (by rw [hn] at hd; cases hd), fun _ => ?_⟩
    exact run_seq hd1 (run_seqE (run_ifT (tst1.is (no _ c1)) run_err))

end
end KP

namespace KP
open PySem L2 DL MX
section
variable {P : Program} {w : World} {K : PySem.W.Frag} {mg : Str → Option Value} {base : Heap}
/-! ### the law's helpers -/
theorem sc__law_cell : FnScope ["script", "k"] ["script", "k"] (defScope s__law_cell) := ⟨rfl, rfl, rfl, by decide +kernel, rfl, by decide +kernel, by decide +kernel⟩
def sp__law_cell (K : PySem.W.Frag) : Sp := SpD K (fun a : List Int × Int => [.scr a.1, .dat (.int a.2)]) (fun a => 0 ≤ a.2) (fun a => .int (cellF a.1 a.2))
theorem ok__law_cell {f : Addr} {fd : FuncData} (F : Fun K "_law_cell" "_law_cell" s__law_cell f fd) (m_len : mg "len" = none) (m_int : mg "int" = none) : FnOk P w K mg base CX0 1 f fd ["script", "k"] (sp__law_cell K) := by
  have sc := sc__law_cell
  refine fn_D F sc (fun _ => rfl) fun cdv A outer s H E hr => ?_
  refine ⟨_, (pss_cons (ps_if (pt_cmpR op_lt (pv 1) (pe_callB call_len_seq (by rfl) m_len PySem.boot_len (pa_cons (pv 0) pa_nil)) (nomark _)) (pss_one (ps_ret (pe_callTy call_int1 (by rfl) m_int (by decide +kernel) (pa_cons (pe_ix ix_list (pv 0) (pv 1) (fun _ _ => rfl)) pa_nil)))) pss_nil)
      (pss_one (ps_ret pe_int))), fun a ha => ?_⟩
  obtain ⟨ns, k⟩ := a
  have h0 : 0 ≤ k := ha
  by_cases hk : k < (ns.length : Int)
  · exact run_seqR (run_ifT ((et_test (ed_B0 (ed_var 1 rfl) (ed_lenR 0 rfl))).is (decide_eq_true hk)) (run_ret (ed_int1 (ed_ixR 0 rfl (ed_var 1 rfl) (cell_at h0 hk)))))
  · refine run_seq (run_ifF ((et_test (ed_B0 (ed_var 1 rfl) (ed_lenR 0 rfl))).is (decide_eq_false hk)) run_next) ?_
    show Run K E _ _ (.rt (.int (cellF ns k)))
    rw [show cellF ns k = 0 by unfold cellF; rw [if_neg hk]]
    exact run_ret (ed_int 0)
theorem sc__law_draws : FnScope ["cell", "limits", "found", "rest", "state", "free", "limit"] ["cell", "limits"] (defScope s__law_draws) := ⟨rfl, rfl, rfl, by decide +kernel, rfl, by decide +kernel, by decide +kernel⟩
structure DrawOk (ls : List Int) : Prop where
  pos : ∀ l ∈ ls, 0 < l
  few : ∀ l ∈ ls, Bt 9000 l
  len : ls.length ≤ 100000
def sp__law_draws (K : PySem.W.Frag) : Sp := SpN K (fun a : Int × List Int => [.dat (.int a.1), .dat (.list (a.2.map PyData.int))]) (fun a => DrawOk a.2) (fun a => (drawsF a.1 a.2).map PyData.int)
theorem ok__law_draws {f : Addr} {fd : FuncData} (F : Fun K "_law_draws" "_law_draws" s__law_draws f fd) (m_abs : mg "abs" = none) (m_int : mg "int" = none) : FnOk P w K mg base CX0 1 f fd ["cell", "limits"] (sp__law_draws K) := by
  have sc := sc__law_draws
  refine fn_N F sc (fun _ => rfl) fun cdv A outer s H E hr => ?_
  refine ⟨_, (pss_cons (ps_set (i := 2) sc.nd rfl (by first | exact Or.inl rfl | exact Or.inr rfl) (pe_lst pa_nil))
      (pss_cons (ps_set (i := 3) sc.nd rfl (by first | exact Or.inl rfl | exact Or.inr rfl) (pe_callB call_abs (by rfl) m_abs (by decide +kernel) (pa_cons (pe_callTy call_int1 (by rfl) m_int (by decide +kernel) (pa_cons (pv 0) pa_nil)) pa_nil)))
      (pss_cons (ps_set (i := 4) sc.nd rfl (by first | exact Or.inl rfl | exact Or.inr rfl) (pe_op op_modN (pe_callTy call_int1 (by rfl) m_int (by decide +kernel) (pa_cons (pv 3) pa_nil)) pe_int))
      (pss_cons (ps_set (i := 5) sc.nd rfl (by first | exact Or.inl rfl | exact Or.inr rfl) (pe_or (pe_cmpR op_lt (pv 0) pe_int (nomark _)) (pe_one (pe_cmpR op_ge (pv 0) (pe_op op_pow pe_int pe_int) (nomark _)))))
      (pss_cons (ps_for PassesOwn.never rfl (pi_list (pv 1)) (pg_name (i := 6) sc.nd rfl (by first | exact Or.inl rfl | exact Or.inr rfl)) (pss_one (ps_if (PW.pt (pw_and (pt_val (pv 5)) (pw_and1 (pt_cmpR op_gt (pv 3) pe_int (nomark _))))) (pss_cons (ps_expr (pe_bm PySem.F.plainAttrs_list PySem.F.slot_list_append PySem.F.type_list_append mt_append (pv 2) (pa_cons (pe_op op_modN (pe_callTy call_int1 (by rfl) m_int (by decide +kernel) (pa_cons (pv 3) pa_nil)) (pv 6)) pa_nil)))
      (pss_one (ps_set (i := 3) sc.nd rfl (by first | exact Or.inl rfl | exact Or.inr rfl) (pe_op op_fdivZ (pv 3) (pv 6))))) (pss_cons (ps_set (i := 4) sc.nd rfl (by first | exact Or.inl rfl | exact Or.inr rfl) (pe_op op_modN (pe_callTy call_int1 (by rfl) m_int (by decide +kernel) (pa_cons (pe_op op_add (pe_op op_mulX (pv 4) pe_int) pe_int) pa_nil)) pe_int))
      (pss_cons (ps_set (i := 4) sc.nd rfl (by first | exact Or.inl rfl | exact Or.inr rfl) (pe_op op_modN (pe_callTy call_int1 (by rfl) m_int (by decide +kernel) (pa_cons (pe_op op_add (pe_op op_mulX (pv 4) pe_int) pe_int) pa_nil)) pe_int))
      (pss_one (ps_expr (pe_bm PySem.F.plainAttrs_list PySem.F.slot_list_append PySem.F.type_list_append mt_append (pv 2) (pa_cons (pe_op op_modN (pe_callTy call_int1 (by rfl) m_int (by decide +kernel) (pa_cons (pe_op op_fdivZ (pv 4) pe_int) pa_nil)) (pv 6)) pa_nil)))))))))
      (pss_one (ps_ret (pv 2)))))))), fun a ha => ?_⟩
  obtain ⟨cell, ls⟩ := a
  have hpos : ∀ l ∈ ls, 0 < l := ha.pos
  have hfew : ∀ l ∈ ls, Bt 9000 l := ha.few
  have hlen : ls.length ≤ 100000 := ha.len
  refine run_seq (run_setN (en_lst (ds := []) ea_nil)) ?_
  refine run_seq (run_set (ed_abs (ed_int1 (ed_var 0 rfl)))) ?_
  refine run_seq (run_set (ed_I (ed_int1 (ed_var 3 rfl)) (ed_int 2147483647) (by decide))) ?_
  refine run_seq (run_set (ed_orV (ed_B0 (ed_var 0 rfl) (ed_int 0)) (fun _ => (ed_B0 (ed_var 0 rfl) (ed_I (ed_int 10) (ed_int 18) ⟨by decide, by decide, by decide⟩))))) ?_
  have s0 : 0 ≤ (absI cell).fmod 2147483647 ∧ (absI cell).fmod 2147483647 < 2147483647 := fmod_bd (by decide)
  refine run_seq (run_for (ts := [6]) (fun i => [.dat (.int cell), .dat (.list (ls.map PyData.int)), .ml ((drun (freeF cell) (absI cell, (absI cell).fmod 2147483647) (ls.take i)).map PyData.int), .dat (.int (dst (freeF cell) (absI cell, (absI cell).fmod 2147483647) (ls.take i)).1), .dat (.int (dst (freeF cell) (absI cell, (absI cell).fmod 2147483647) (ls.take i)).2), .dat (.bool (freeF cell)), .un])
    (ei_list (ed_var 1 rfl)) (.eq (.eq (.eq (.eq (.eq (.eq (.un .nil))))))) (fun i d hi hd => ⟨_, (eg_name (by decide)), ?_⟩)) ?_
  · rw [List.length_map] at hi
    have hl := List.getElem?_eq_getElem hi
    obtain rfl : d = .int ls[i] := by
      rw [List.getElem?_map, hl] at hd
      exact (Option.some.inj hd).symm
    have hp : 0 < ls[i] := hpos _ (List.getElem_mem hi)
    have hf : Bt 9000 ls[i] := hfew _ (List.getElem_mem hi)
    have hdiv : ∀ x : Int, CDivZ x ls[i] := fun x => ⟨by omega, PySem.Flt.log2_lt_of (by decide) hf⟩
    have et : ls.take (i + 1) = ls.take i ++ [ls[i]] := by rw [List.take_add_one, hl]; rfl
    have hst := dst_bd (freeF cell) (ls.take i) (absI cell, (absI cell).fmod 2147483647) s0.1 s0.2
    rw [et, drun_snoc, dst_snoc, List.map_append]
    generalize hS : dst (freeF cell) (absI cell, (absI cell).fmod 2147483647) (ls.take i) = S at *
    generalize hR : (drun (freeF cell) (absI cell, (absI cell).fmod 2147483647) (ls.take i)) = R at *
    have hRl : R.length ≤ 100000 := by rw [← hR, drun_len, List.length_take]; omega
    obtain ⟨rest, state⟩ := S
    have b4 : Bt 31 state := by show state.natAbs < 2147483648; omega
    by_cases hc : (freeF cell && decide (1 < rest)) = true
    · have e : dstep (freeF cell) (rest, state) ls[i] = ((rest.fdiv ls[i], state), rest.fmod ls[i]) := if_pos hc
      rw [e]
      refine .n (run_ifT ((et_and (et_B (ed_var 5 rfl)) (fun _ => (et_test (ed_B0 (ed_var 3 rfl) (ed_int 1))))).is hc) (run_seq (run_append (i := 2) rfl (ed_I (ed_int1 (ed_var 3 rfl)) (ed_var 6 rfl) (by omega)) (by rw [List.length_map]; omega)) (run_set (ed_I (ed_var 3 rfl) (ed_var 6 rfl) (hdiv _))))) (.eq (.eq (.eq (.eq (.eq (.eq (.un .nil)))))))
    · have e : dstep (freeF cell) (rest, state) ls[i] = _ := if_neg hc
      rw [e]
      have s1 := fmod_bd (x := state * 48271 + 11) (y := 2147483647) (by decide)
      have b1 : Bt 31 ((state * 48271 + 11).fmod 2147483647) := by show Int.natAbs _ < 2147483648; omega
      refine .n (run_ifF ((et_and (et_B (ed_var 5 rfl)) (fun _ => (et_test (ed_B0 (ed_var 3 rfl) (ed_int 1))))).is (by simpa using hc)) (run_seq (run_set (ed_I (ed_int1 (ed_I0 (ed_I (ed_var 4 rfl) (ed_int 48271) (b4.mulx (m := 20) (by decide) (by decide))) (ed_int 11))) (ed_int 2147483647) (by decide)))
        (run_seq (run_set (ed_I (ed_int1 (ed_I0 (ed_I (ed_var 4 rfl) (ed_int 69621) (b1.mulx (m := 20) (by decide) (by decide))) (ed_int 7))) (ed_int 2147483647) (by decide))) (run_append (i := 2) rfl (ed_I (ed_int1 (ed_I (ed_var 4 rfl) (ed_int 13) ⟨by decide, by decide⟩)) (ed_var 6 rfl) (by omega)) (by rw [List.length_map]; omega))))) (.eq (.eq (.eq (.eq (.eq (.eq (.un .nil)))))))
  · rw [List.length_map, List.take_length]
    exact run_retM 2 rfl
theorem sc__law_gcd : FnScope ["a", "b", "k", "rest"] ["a", "b"] (defScope s__law_gcd) := ⟨rfl, rfl, rfl, by decide +kernel, rfl, by decide +kernel, by decide +kernel⟩
def sp__law_gcd (K : PySem.W.Frag) : Sp := SpD K (fun a : Int × Int => [.dat (.int a.1), .dat (.int a.2)]) (fun a => Bt 100000000 a.1 ∧ Bt 100000000 a.2) (fun a => .int ((Nat.gcd a.1.natAbs a.2.natAbs : Nat) : Int))
theorem absI_eq (x : Int) : (if x < 0 then -x else x) = (x.natAbs : Int) := by split <;> omega
theorem ok__law_gcd {f : Addr} {fd : FuncData} (F : Fun K "_law_gcd" "_law_gcd" s__law_gcd f fd) (m_abs : mg "abs" = none) (m_int : mg "int" = none) (m_range : mg "range" = none) : FnOk P w K mg base CX0 1 f fd ["a", "b"] (sp__law_gcd K) := by
  have sc := sc__law_gcd
  refine fn_D F sc (fun _ => rfl) fun cdv A outer s H E hr => ?_
  refine ⟨_, (pss_cons (ps_set (i := 0) sc.nd rfl (by first | exact Or.inl rfl | exact Or.inr rfl) (pe_callB call_abs (by rfl) m_abs (by decide +kernel) (pa_cons (pv 0) pa_nil)))
      (pss_cons (ps_set (i := 1) sc.nd rfl (by first | exact Or.inl rfl | exact Or.inr rfl) (pe_callB call_abs (by rfl) m_abs (by decide +kernel) (pa_cons (pv 1) pa_nil)))
      (pss_cons (ps_for PassesOwn.never rfl (pi_range1 (by rfl) m_range (pa_cons (pe_op op_add (pe_op op_add (pe_bits (pv 0)) (pe_bits (pv 1))) pe_int) pa_nil)) (pg_name (i := 2) sc.nd rfl (by first | exact Or.inl rfl | exact Or.inr rfl)) (pss_cons (ps_if (pt_cmpR op_eq (pv 1) pe_int (nomark _)) (pss_one (ps_ret (pv 0))) pss_nil)
      (pss_cons (ps_set (i := 3) sc.nd rfl (by first | exact Or.inl rfl | exact Or.inr rfl) (pe_op op_modN (pe_callTy call_int1 (by rfl) m_int (by decide +kernel) (pa_cons (pv 0) pa_nil)) (pv 1)))
      (pss_cons (ps_set (i := 0) sc.nd rfl (by first | exact Or.inl rfl | exact Or.inr rfl) (pv 1))
      (pss_one (ps_set (i := 1) sc.nd rfl (by first | exact Or.inl rfl | exact Or.inr rfl) (pv 3)))))))
      (pss_one (ps_ret (pv 0)))))), fun a ha => ?_⟩
  obtain ⟨x, y⟩ := a
  obtain ⟨hx, hy⟩ := ha
  have hx : Bt 100000000 x := hx
  have hy : Bt 100000000 y := hy
  have sx : sz x.natAbs ≤ 100000000 := by rw [← bits_sz]; exact PyProof.Rows.intBits_le hx
  have sy : sz y.natAbs ≤ 100000000 := by rw [← bits_sz]; exact PyProof.Rows.intBits_le hy
  refine run_seq (run_set ((ed_abs (ed_var 0 rfl)).is (congrArg PyData.int (absI_eq x)))) ?_
  refine run_seq (run_set ((ed_abs (ed_var 1 rfl)).is (congrArg PyData.int (absI_eq y)))) ?_
  obtain ⟨k, h1, h2, h3, h4⟩ := eu_first x.natAbs y.natAbs
  show Run K E _ _ (.rt (.int ((Nat.gcd x.natAbs y.natAbs : Nat) : Int)))
  rw [← h4]
  have bits : (Builtin.Int.intBits ((x.natAbs : Nat) : Int) : Int) + (Builtin.Int.intBits ((y.natAbs : Nat) : Int) : Int) + 4 = ((sz x.natAbs + sz y.natAbs + 4 : Nat) : Int) := by
    rw [bits_sz, bits_sz, Int.natAbs_natCast, Int.natAbs_natCast]; omega
  refine run_seqR (run_forR (ts := [2]) (ds := rngD 0 1 (sz x.natAbs + sz y.natAbs + 4)) (fun i => [.dat (.int ((eu x.natAbs y.natAbs i).1 : Int)), .dat (.int ((eu x.natAbs y.natAbs i).2 : Int)), .un, .un]) k ?_ (.eq (.eq (.un (.un .nil)))) (fun i d hi hd => ⟨_, (eg_name (by decide)), ?_⟩) (rngD_at (by omega)) (eg_name (by decide)) ?_)
  · have hI := ei_rng1 (K := K) (env := [.dat (.int ((x.natAbs : Nat) : Int)), .dat (.int ((y.natAbs : Nat) : Int)), .un, .un]) (ed_I0 (g := fun i j => i + j) (ed_I0 (g := fun i j => i + j) (ed_bits (ed_var 0 rfl)) (ed_bits (ed_var 1 rfl))) (ed_int 4)) (by rw [bits]; omega)
    rw [bits, Int.toNat_natCast] at hI
    exact hI
  · refine .n (run_seq (run_ifF ((et_test (ed_eqI (ed_var 1 rfl) (ed_int 0))).is (decide_eq_false (by have := h3 i hi; omega))) run_next) (run_seq (run_set (ed_I (ed_int1 (ed_var 0 rfl)) (ed_var 1 rfl) (by have := h3 i hi; omega))) (run_seq (run_set (ed_var 1 rfl)) (run_set (ed_var 3 rfl))))) ?_
    have e : ((eu x.natAbs y.natAbs i).1 : Int).fmod ((eu x.natAbs y.natAbs i).2 : Int) = (((eu x.natAbs y.natAbs i).1 % (eu x.natAbs y.natAbs i).2 : Nat) : Int) := by
      rw [Int.fmod_eq_emod_of_nonneg _ (by omega)]; rfl
    rw [e]
    exact .eq (.eq (.un (.un .nil)))
  · exact run_seqR (run_ifT ((et_test (ed_eqI (ed_var 1 rfl) (ed_int 0))).is (decide_eq_true (by rw [h2]; rfl))) (run_ret (ed_var 0 rfl)))
theorem sc__law_fraction : FnScope ["top", "low", "common"] ["top", "low"] (defScope s__law_fraction) := ⟨rfl, rfl, rfl, by decide +kernel, rfl, by decide +kernel, by decide +kernel⟩
def sp__law_fraction (K : PySem.W.Frag) : Sp := SpD K (fun a : Int × Int => [.dat (.int a.1), .dat (.int a.2)]) (fun a => a.2 ≠ 0 ∧ Bt 9000 a.2 ∧ Bt 100000000 a.1) (fun a => encQ (Rat.divInt a.1 a.2))
theorem ok__law_fraction {f : Addr} {fd : FuncData} (F : Fun K "_law_fraction" "_law_fraction" s__law_fraction f fd) (C__law_gcd : Callee P w K mg base CX0 1 "_law_gcd" ["a", "b"] (sp__law_gcd K)) : FnOk P w K mg base CX0 2 f fd ["top", "low"] (sp__law_fraction K) := by
  have sc := sc__law_fraction
  refine fn_D F sc (fun _ => rfl) fun cdv A outer s H E hr => ?_
  refine ⟨_, (pss_cons (ps_set (i := 2) sc.nd rfl (by first | exact Or.inl rfl | exact Or.inr rfl) (pe_c C__law_gcd (hr.mono (by decide)) pass0 (pa_cons (pv 0) (pa_cons (pv 1) pa_nil))))
      (pss_cons (ps_if (pt_cmpR op_lt (pv 1) pe_int (nomark _)) (pss_one (ps_set (i := 2) sc.nd rfl (by first | exact Or.inl rfl | exact Or.inr rfl) (pe_un un_neg (pv 2)))) pss_nil)
      (pss_one (ps_ret (pe_tup (pa_cons (pe_op op_fdivZ (pv 0) (pv 2)) (pa_cons (pe_op op_fdivZ (pv 1) (pv 2)) pa_nil))))))), fun a ha => ?_⟩
  obtain ⟨t, l⟩ := a
  obtain ⟨h0, hl9, ht⟩ := ha
  have h0 : l ≠ 0 := h0
  have hl9 : Bt 9000 l := hl9
  have ht : Bt 100000000 t := ht
  refine run_seq (run_set (ed_call (x := (t, l)) (ea_d (ed_var 0 rfl) (ea_d (ed_var 1 rfl) ea_nil)) rfl ⟨ht, hl9.mono (by decide)⟩)) ?_
  have key : Run K E (tIfS (tTest (tOp (rI0 fun i j => .bl (decide (i < j))) (tVar 1) (tC (.int 0)))) (tAsg (tUn (rU fun i => .int (-i)) (tVar 2)) (gName 2)) tNext) [.dat (.int t), .dat (.int l), .dat (.int ((Nat.gcd t.natAbs l.natAbs : Nat) : Int))] (.nx [.dat (.int t), .dat (.int l), .dat (.int (sgcd t l))]) := by
    by_cases hn : l < 0
    · have e : sgcd t l = -((Nat.gcd t.natAbs l.natAbs : Nat) : Int) := by unfold sgcd; rw [if_pos hn]
      rw [e]
      exact run_ifT ((et_test (ed_B0 (ed_var 1 rfl) (ed_int 0))).is (decide_eq_true hn)) (run_set (ed_neg (ed_var 2 rfl)))
    · have e : sgcd t l = ((Nat.gcd t.natAbs l.natAbs : Nat) : Int) := by unfold sgcd; rw [if_neg hn]
      rw [e]
      exact run_ifF ((et_test (ed_B0 (ed_var 1 rfl) (ed_int 0))).is (decide_eq_false hn)) run_next
  refine run_seq key ?_
  obtain ⟨e1, e2⟩ := divInt_parts (t := t) h0
  show Run K E _ _ (.rt (.tuple [.int (Rat.divInt t l).num, .int ((Rat.divInt t l).den : Int)]))
  rw [e1, e2]
  exact run_ret (ed_tup (ds := [.int _, .int _]) (ea_d (ed_I (ed_var 0 rfl) (ed_var 2 rfl) (sgcd_div h0 hl9)) (ea_d (ed_I (ed_var 1 rfl) (ed_var 2 rfl) (sgcd_div h0 hl9)) ea_nil)))

/-! ### the law's own sums -/
theorem sc__law_plus : FnScope ["first", "second"] ["first", "second"] (defScope s__law_plus) := ⟨rfl, rfl, rfl, by decide +kernel, rfl, by decide +kernel, by decide +kernel⟩
def sp__law_plus (K : PySem.W.Frag) : Sp := SpD K fsQQ preQQ (fun a => encQ (a.1 + a.2))
theorem ok__law_plus {f : Addr} {fd : FuncData} (F : Fun K "_law_plus" "_law_plus" s__law_plus f fd) (C__law_fraction : Callee P w K mg base CX0 2 "_law_fraction" ["top", "low"] (sp__law_fraction K)) :
    FnOk P w K mg base CX0 3 f fd ["first", "second"] (sp__law_plus K) := by
  have sc := sc__law_plus
  refine fn_D F sc (fun _ => rfl) fun cdv A outer s H E hr => ?_
  refine ⟨_, (pss_one (ps_ret (pe_c C__law_fraction (hr.mono (by decide)) pass0 (pa_cons (pe_op op_add (pe_op op_mulX (pe_ix (r := rIxT K) ix_tup (pv 0) pe_int (fun _ _ => rfl)) (pe_ix (r := rIxT K) ix_tup (pv 1) pe_int (fun _ _ => rfl))) (pe_op op_mulX (pe_ix (r := rIxT K) ix_tup (pv 1) pe_int (fun _ _ => rfl)) (pe_ix (r := rIxT K) ix_tup (pv 0) pe_int (fun _ _ => rfl)))) (pa_cons (pe_op op_mulX (pe_ix (r := rIxT K) ix_tup (pv 0) pe_int (fun _ _ => rfl)) (pe_ix (r := rIxT K) ix_tup (pv 1) pe_int (fun _ _ => rfl))) pa_nil))))), fun a ha => ?_⟩
  obtain ⟨p, q⟩ := a
  obtain ⟨hp, hq⟩ := ha
  have hp : Qb 4000 p := hp
  have hq : Qb 4000 q := hq
  rw [← add_is]
  exact run_ret (ed_call (x := (p.num * q.den + q.num * p.den, (p.den : Int) * q.den)) (ea_d (ed_I0 (ed_I (ed_ixT (ed_var 0 rfl) (ed_int 0) rfl) (ed_ixT (ed_var 1 rfl) (ed_int 1) rfl) (hp.num.mulx hq.den (by decide))) (ed_I (ed_ixT (ed_var 1 rfl) (ed_int 0) rfl) (ed_ixT (ed_var 0 rfl) (ed_int 1) rfl) (hq.num.mulx hp.den (by decide)))) (ea_d (ed_I (ed_ixT (ed_var 0 rfl) (ed_int 1) rfl) (ed_ixT (ed_var 1 rfl) (ed_int 1) rfl) (hp.den.mulx hq.den (by decide))) ea_nil)) rfl ⟨Int.mul_ne_zero (den_ne p) (den_ne q), (hp.den.mul hq.den).mono (by decide), ((hp.num.mul hq.den).add (hq.num.mul hp.den)).mono (by decide)⟩)
theorem sc__law_times : FnScope ["first", "second"] ["first", "second"] (defScope s__law_times) := ⟨rfl, rfl, rfl, by decide +kernel, rfl, by decide +kernel, by decide +kernel⟩
def sp__law_times (K : PySem.W.Frag) : Sp := SpD K fsQQ preQQ (fun a => encQ (a.1 * a.2))
theorem ok__law_times {f : Addr} {fd : FuncData} (F : Fun K "_law_times" "_law_times" s__law_times f fd) (C__law_fraction : Callee P w K mg base CX0 2 "_law_fraction" ["top", "low"] (sp__law_fraction K)) :
    FnOk P w K mg base CX0 3 f fd ["first", "second"] (sp__law_times K) := by
  have sc := sc__law_times
  refine fn_D F sc (fun _ => rfl) fun cdv A outer s H E hr => ?_
  refine ⟨_, (pss_one (ps_ret (pe_c C__law_fraction (hr.mono (by decide)) pass0 (pa_cons (pe_op op_mulX (pe_ix (r := rIxT K) ix_tup (pv 0) pe_int (fun _ _ => rfl)) (pe_ix (r := rIxT K) ix_tup (pv 1) pe_int (fun _ _ => rfl))) (pa_cons (pe_op op_mulX (pe_ix (r := rIxT K) ix_tup (pv 0) pe_int (fun _ _ => rfl)) (pe_ix (r := rIxT K) ix_tup (pv 1) pe_int (fun _ _ => rfl))) pa_nil))))), fun a ha => ?_⟩
  obtain ⟨p, q⟩ := a
  obtain ⟨hp, hq⟩ := ha
  have hp : Qb 4000 p := hp
  have hq : Qb 4000 q := hq
  rw [← mul_is]
  exact run_ret (ed_call (x := (p.num * q.num, (p.den : Int) * q.den)) (ea_d (ed_I (ed_ixT (ed_var 0 rfl) (ed_int 0) rfl) (ed_ixT (ed_var 1 rfl) (ed_int 0) rfl) (hp.num.mulx hq.num (by decide))) (ea_d (ed_I (ed_ixT (ed_var 0 rfl) (ed_int 1) rfl) (ed_ixT (ed_var 1 rfl) (ed_int 1) rfl) (hp.den.mulx hq.den (by decide))) ea_nil)) rfl ⟨Int.mul_ne_zero (den_ne p) (den_ne q), (hp.den.mul hq.den).mono (by decide), (hp.num.mul hq.num).mono (by decide)⟩)
theorem sc__law_total : FnScope ["fractions", "found", "one"] ["fractions"] (defScope s__law_total) := ⟨rfl, rfl, rfl, by decide +kernel, rfl, by decide +kernel, by decide +kernel⟩
def sp__law_total (K : PySem.W.Frag) : Sp := SpD K (fun l : List Rat => [.dat (.list (l.map encQ))]) Fine (fun l => encQ l.sum)
theorem ok__law_total {f : Addr} {fd : FuncData} (F : Fun K "_law_total" "_law_total" s__law_total f fd) (C__law_plus : Callee P w K mg base CX0 3 "_law_plus" ["first", "second"] (sp__law_plus K)) :
    FnOk P w K mg base CX0 4 f fd ["fractions"] (sp__law_total K) := by
  have sc := sc__law_total
  refine fn_D F sc (fun _ => rfl) fun cdv A outer s H E hr => ?_
  refine ⟨_, (pss_cons (ps_set (i := 1) sc.nd rfl (by first | exact Or.inl rfl | exact Or.inr rfl) (pe_tup (pa_cons pe_int (pa_cons pe_int pa_nil))))
      (pss_cons (ps_for PassesOwn.never rfl (pi_list (pv 0)) (pg_name (i := 2) sc.nd rfl (by first | exact Or.inl rfl | exact Or.inr rfl)) (pss_one (ps_set (i := 1) sc.nd rfl (by first | exact Or.inl rfl | exact Or.inr rfl) (pe_c C__law_plus (hr.mono (by decide)) pass0 (pa_cons (pv 1) (pa_cons (pv 2) pa_nil))))))
      (pss_one (ps_ret (pv 1))))), fun l hl => ?_⟩
  have hl : Fine l := hl
  refine run_seq (run_set ((ed_tup (ds := [.int 0, .int 1]) (ea_d (ed_int 0) (ea_d (ed_int 1) ea_nil))).is (show _ = encQ 0 from rfl))) ?_
  refine run_seq (run_for (ts := [2]) (fun i => [.dat (.list (l.map encQ)), .dat (encQ (l.take i).sum), .un]) (ei_list (ed_var 0 rfl)) (.eq (.eq (.un .nil))) (fun i d hi hd => ⟨_, eg_name (by decide), ?_⟩)) ?_
  · rw [List.length_map] at hi
    obtain rfl : d = encQ l[i] := by rw [List.getElem?_map, List.getElem?_eq_getElem hi] at hd; exact (Option.some.inj hd).symm
    rw [sum_step hi]
    exact .n (run_set (ed_call (x := ((l.take i).sum, l[i])) (ea_d (ed_var 1 rfl) (ea_d (ed_var 2 rfl) ea_nil)) rfl ⟨fine_sum hl i, fine_mem hl (List.getElem_mem hi)⟩)) (.eq (.eq (.un .nil)))
  · rw [List.length_map, List.take_length]
    exact run_ret (ed_var 1 rfl)
theorem sc__law_gathered : FnScope ["items", "found", "item", "value"] ["items"] (defScope s__law_gathered) := ⟨rfl, rfl, rfl, by decide +kernel, rfl, by decide +kernel, by decide +kernel⟩
def sp__law_gathered (K : PySem.W.Frag) : Sp := SpN K (fun s : Spr => [.dat (encS s)]) Gd (fun s => (gatF s).map encI)
theorem ok__law_gathered {f : Addr} {fd : FuncData} (F : Fun K "_law_gathered" "_law_gathered" s__law_gathered f fd) (m_sorted : mg "sorted" = none) (C__law_plus : Callee P w K mg base CX0 3 "_law_plus" ["first", "second"] (sp__law_plus K)) :
    FnOk P w K mg base CX0 4 f fd ["items"] (sp__law_gathered K) := by
  have sc := sc__law_gathered
  refine fn_N F sc (fun _ => rfl) fun cdv A outer s H E hr => ?_
  refine ⟨_, (pss_cons (ps_set (i := 1) sc.nd rfl (by first | exact Or.inl rfl | exact Or.inr rfl) pe_dnewK)
      (pss_cons (ps_for PassesOwn.never rfl (pi_list (pv 0)) (pg_name (i := 2) sc.nd rfl (by first | exact Or.inl rfl | exact Or.inr rfl)) (pss_one (ps_dput (hu_of hr) (pv 1) (pe_ix (r := rIxT K) ix_tup (pv 2) pe_int (fun _ _ => rfl)) (pe_c C__law_plus (hr.mono (by decide)) pass0 (pa_cons (pe_dget2 (hu_of hr) (pv 1) (pe_ix (r := rIxT K) ix_tup (pv 2) pe_int (fun _ _ => rfl)) (pe_tup (pa_cons pe_int (pa_cons pe_int pa_nil))) ⟨rfl, rfl, rfl, rfl⟩) (pa_cons (pe_ix (r := rIxT K) ix_tup (pv 2) pe_int (fun _ _ => rfl)) pa_nil))) rfl)))
      (pss_one (ps_ret (pe_lc (own := [("value", 3)]) rfl sc.nd (pi_list (pe_callB (id := "sorted") (call_sortedDI rfl) (by rfl) m_sorted (by decide +kernel) (pa_cons (pv 1) pa_nil))) (blkOk_by (own := [("value", 3)]) (N := ["items", "found", "item", "value"]) (sc := defScope s__law_gathered) (by decide +kernel)) (fun _ _ _ _ _ => (pg_name (i := 3) sc.nd rfl (Or.inl rfl))) (fun _ _ _ _ _ => (pts_one (pt_cmpR op_ne (pe_ix (r := rIxT K) ix_tup (pe_dget (hu_of hr) (pv 1) (pv 3) (fun _ _ => rfl)) pe_int (fun _ _ => rfl)) pe_int (nomark _)))) (fun _ _ _ _ _ => (pe_tup (pa_cons (pv 3) (pa_cons (pe_dget (hu_of hr) (pv 1) (pv 3) (fun _ _ => rfl)) pa_nil))))))))), fun l hl => ?_⟩
  obtain ⟨hf, hlen, hfew⟩ := hl
  have look : ∀ (i : Nat) (v : Int), (lkD (encA (acc (l.take i))) (.inl v)).getD (encQ 0) = encQ (wt (l.take i) v) := fun i v => by
    rw [encA_lk, ← acc_getD]
    cases lkA (acc (l.take i)) v <;> rfl
  refine run_seq run_setD ?_
  refine run_seq (run_for (ts := [2]) (fun i => [.dat (encS l), .md (encA (acc (l.take i))), .un, .un]) (ei_list (ed_var 0 rfl)) (.eq (.eq (.un (.un .nil)))) (fun i d hi hd => ⟨_, eg_name (by decide), ?_⟩)) ?_
  · rw [List.length_map] at hi
    obtain rfl : d = encI l[i] := by rw [List.getElem?_map, List.getElem?_eq_getElem hi] at hd; exact (Option.some.inj hd).symm
    have e : putD (encA (acc (l.take i))) (.inl (l[i]).1) (encQ (wt (l.take i) (l[i]).1 + (l[i]).2)) = encA (acc (l.take (i + 1))) := by
      rw [encA_put, acc_step hi]
      unfold stepA
      rw [acc_getD]
    refine .n (run_dput (i := 1) rfl (ed_call (x := (wt (l.take i) (l[i]).1, (l[i]).2)) (ea_d ((ed_dget2 (i := 1) rfl (ed_ixT (ed_var 2 rfl) (ed_int 0) rfl) ((ed_tup (ds := [.int 0, .int 1]) (ea_d (ed_int 0) (ea_d (ed_int 1) ea_nil))).is (show _ = encQ 0 from rfl))).is (look i _)) (ea_d (ed_ixT (ed_var 2 rfl) (ed_int 1) rfl) ea_nil)) rfl ⟨fine_wt hf i _, fine_mem hf (List.mem_map.mpr ⟨_, List.getElem_mem hi, rfl⟩)⟩) (ed_ixT (ed_var 2 rfl) (ed_int 0) rfl) ?_) ?_
    · rw [encA_len]
      have := acc_len (l.take i)
      rw [List.length_take] at this
      omega
    · show Less [_, .md (putD (encA (acc (l.take i))) (.inl (l[i]).1) (encQ (wt (l.take i) (l[i]).1 + (l[i]).2))), _, _] _
      rw [e]
      exact .eq (.eq (.un (.un .nil)))
  · rw [List.length_map, List.take_length, gat_list]
    have lk : ∀ v ∈ srt ((acc l).map (·.1)), lkD (encA (acc l)) (.inl v) = some (encQ (wt l v)) := fun v hv => by
      rw [encA_lk, acc_lk ((acc_mem l v).mp ((srt_perm _).mem_iff.mp hv))]; rfl
    refine run_retN (en_lc (ei_list (en_sortedD (i := 1) rfl (encA_keys _) (by rw [List.length_map]; exact hfew) (fun ys hp hs => srt_only (acc_nodup l) hp hs)).d) (ts := [3]) (by decide) (lc_filter PyData.int (fun v => if wt l v = 0 then none else some (encI (v, wt l v))) fun v hv => ⟨_, eg_name (by decide), ?_⟩) ?_)
    · by_cases h0 : wt l v = 0
      · exact .inr ⟨if_pos h0, (et_test (ed_neI (ed_ixT (ed_dget (i := 1) rfl (ed_var 3 rfl) (lk v hv)) (ed_int 0) rfl) (ed_int 0))).is (by rw [decide_eq_true (Rat.num_eq_zero.mpr h0)]; rfl)⟩
      · exact .inl ⟨_, if_neg h0, (et_test (ed_neI (ed_ixT (ed_dget (i := 1) rfl (ed_var 3 rfl) (lk v hv)) (ed_int 0) rfl) (ed_int 0))).is (by rw [decide_eq_false (fun z => h0 (Rat.num_eq_zero.mp z))]; rfl), ed_tup (ds := [.int v, encQ (wt l v)]) (ea_d (ed_var 3 rfl) (ea_d (ed_dget (i := 1) rfl (ed_var 3 rfl) (lk v hv)) ea_nil))⟩
    · rw [List.length_map, (srt_perm _).length_eq, List.length_map]; omega
theorem sc__law_mean : FnScope ["spread", "item"] ["spread"] (defScope s__law_mean) := ⟨rfl, rfl, rfl, by decide +kernel, rfl, by decide +kernel, by decide +kernel⟩
def sp__law_mean (K : PySem.W.Frag) : Sp := SpD K (fun s : Spr => [.dat (encS s)]) Mn (fun s => encQ (Ex s fun x => (x : Rat)))
theorem ok__law_mean {f : Addr} {fd : FuncData} (F : Fun K "_law_mean" "_law_mean" s__law_mean f fd) (C__law_times : Callee P w K mg base CX0 3 "_law_times" ["first", "second"] (sp__law_times K)) (C__law_total : Callee P w K mg base CX0 4 "_law_total" ["fractions"] (sp__law_total K)) :
    FnOk P w K mg base CX0 5 f fd ["spread"] (sp__law_mean K) := by
  have sc := sc__law_mean
  refine fn_D F sc (fun _ => rfl) fun cdv A outer s H E hr => ?_
  refine ⟨_, (pss_one (ps_ret (pe_c C__law_total (hr.mono (by decide)) pass0 (pa_cons (pe_lc (own := [("item", 1)]) rfl sc.nd (pi_list (pv 0)) (blkOk_by (own := [("item", 1)]) (N := ["spread", "item"]) (sc := defScope s__law_mean) (by decide +kernel)) (fun _ _ _ _ _ => (pg_name (i := 1) sc.nd rfl (Or.inl rfl))) (fun _ _ _ _ _ => pts_nil) (fun _ _ _ _ _ => (pe_c C__law_times (hr.mono (by decide)) pass0 (pa_cons (pe_tup (pa_cons (pe_ix (r := rIxT K) ix_tup (pv 1) pe_int (fun _ _ => rfl)) (pa_cons pe_int pa_nil))) (pa_cons (pe_ix (r := rIxT K) ix_tup (pv 1) pe_int (fun _ _ => rfl)) pa_nil))))) pa_nil)))), fun l hl => ?_⟩
  obtain ⟨hf, hv, hlen⟩ := hl
  rw [← sum_ex]
  refine run_ret (ed_call (x := l.map fun p => (p.1 : Rat) * p.2) (ea_d (en_lc (zs := l.map fun p => encQ ((p.1 : Rat) * p.2)) (ei_list (ed_var 0 rfl)) (ts := [1]) (by decide) (lc_map encI _ fun p hp => ⟨_, eg_name (by decide), et_yes, ?_⟩) (by rw [List.length_map]; omega)).d ea_nil) (by rw [List.map_map]; rfl) hf)
  exact ed_call (x := ((p.1 : Rat), p.2)) (ea_d (ed_tup (ds := [.int p.1, .int 1]) (ea_d (ed_ixT (ed_var 1 rfl) (ed_int 0) rfl) (ea_d (ed_int 1) ea_nil))) (ea_d (ed_ixT (ed_var 1 rfl) (ed_int 1) rfl) ea_nil)) rfl ⟨qb_int (hv p hp).1 (by decide), (hv p hp).2⟩

/-! ### the law's own spreads -/
theorem rng_map (n : Nat) : rngD 0 1 n = (List.range n).map fun k : Nat => PyData.int (k : Int) := by
  unfold rngD
  exact List.map_congr_left fun (k : Nat) _ => by rw [show (0 : Int) + (k : Int) * 1 = (k : Int) by omega]
theorem sc__law_weighted : FnScope ["values", "weights", "total_v", "k"] ["values", "weights"] (defScope s__law_weighted) := ⟨rfl, rfl, rfl, by decide +kernel, rfl, by decide +kernel, by decide +kernel⟩
def sp__law_weighted (K : PySem.W.Frag) : Sp := SpN K (fun a : List Int × List Int => [.dat (.list (a.1.map PyData.int)), .dat (.list (a.2.map PyData.int))]) (fun a => Wd a.1 a.2) (fun a => (gatF (wtd a.1 a.2)).map encI)
theorem ok__law_weighted {f : Addr} {fd : FuncData} (F : Fun K "_law_weighted" "_law_weighted" s__law_weighted f fd) (m_len : mg "len" = none) (m_range : mg "range" = none) (m_sum : mg "sum" = none) (C__law_fraction : Callee P w K mg base CX0 2 "_law_fraction" ["top", "low"] (sp__law_fraction K)) (C__law_gathered : Callee P w K mg base CX0 4 "_law_gathered" ["items"] (sp__law_gathered K)) :
    FnOk P w K mg base CX0 5 f fd ["values", "weights"] (sp__law_weighted K) := by
  have sc := sc__law_weighted
  refine fn_N F sc (fun _ => rfl) fun cdv A outer s H E hr => ?_
  refine ⟨_, (pss_cons (ps_set (i := 2) sc.nd rfl (by first | exact Or.inl rfl | exact Or.inr rfl) (pe_callB (id := "sum") (r := rSum K) (cr_sum rfl) (by rfl) m_sum (by decide +kernel) (pa_cons (pv 1) pa_nil)))
      (pss_one (ps_ret (pe_c C__law_gathered (hr.mono (by decide)) pass0 (pa_cons (pe_lc (own := [("k", 3)]) rfl sc.nd (pi_range1 (by rfl) m_range (pa_cons (pe_callB (id := "len") (r := rLenS K) call_len_seq (by rfl) m_len PySem.boot_len (pa_cons (pv 0) pa_nil)) pa_nil)) (blkOk_by (own := [("k", 3)]) (N := ["values", "weights", "total_v", "k"]) (sc := defScope s__law_weighted) (by decide +kernel)) (fun _ _ _ _ _ => (pg_name (i := 3) sc.nd rfl (Or.inl rfl))) (fun _ _ _ _ _ => pts_nil) (fun _ _ _ _ _ => (pe_tup (pa_cons (pe_ix (r := rIxL K) ix_list (pv 0) (pv 3) (fun _ _ => rfl)) (pa_cons (pe_c C__law_fraction (hr.mono (by decide)) pass0 (pa_cons (pe_ix (r := rIxL K) ix_list (pv 1) (pv 3) (fun _ _ => rfl)) (pa_cons (pv 2) pa_nil))) pa_nil))))) pa_nil))))), fun a ha => ?_⟩
  obtain ⟨vs, ws⟩ := a
  have h : Wd vs ws := ha
  obtain ⟨s1, s2⟩ := h.sum
  refine run_seq (run_set (ed_sum (ed_var 1 rfl).l)) ?_
  have hI : EvI K (iRng1 (tCons (tCB (rLenS K) (tCons (tVar 0) tNil)) tNil)) [.dat (.list (vs.map PyData.int)), .dat (.list (ws.map PyData.int)), .dat (.int ws.sum), .un] ((List.range vs.length).map fun k : Nat => PyData.int (k : Int)) := by
    have hI := ei_rng1 (K := K) (env := [.dat (.list (vs.map PyData.int)), .dat (.list (ws.map PyData.int)), .dat (.int ws.sum), .un]) (ed_lenl (ed_var 0 rfl).l) (by rw [List.length_map]; have := h.few; omega)
    rw [List.length_map, Int.toNat_natCast, rng_map] at hI
    exact hI
  refine run_retN (en_call (x := wtd vs ws) (ea_d (en_lc hI (ts := [3]) (by decide) (lc_map (xs := List.range vs.length) (fun k : Nat => PyData.int (k : Int)) (fun k : Nat => encI (vs.getD k 0, Rat.divInt (ws.getD k 0) ws.sum)) fun k hk => ⟨_, eg_name (by decide), et_yes, ?_⟩) (by rw [List.length_map, List.length_range]; have := h.few; omega)).d ea_nil) (by unfold wtd; show _ = [SD.dat (.list (((List.range vs.length).map _).map encI))]; rw [List.map_map]; rfl) (wtd_gd h))
  rw [List.mem_range] at hk
  have hk2 : k < ws.length := by rw [← h.len]; exact hk
  have g1 : vs[k]? = some (vs.getD k 0) := by rw [List.getD_eq_getElem?_getD, List.getElem?_eq_getElem hk, Option.getD_some]
  have g2 : ws[k]? = some (ws.getD k 0) := by rw [List.getD_eq_getElem?_getD, List.getElem?_eq_getElem hk2, Option.getD_some]
  have hw := h.pos _ (List.mem_of_getElem? g2)
  have p40 : (2 : Int) ^ 40 = 1099511627776 := by decide
  exact ed_tup (ds := [.int (vs.getD k 0), encQ (Rat.divInt (ws.getD k 0) ws.sum)]) (ea_d (ed_ixl (ed_var 0 rfl).l (ed_var 3 rfl) (atI_map g1)) (ea_d (ed_call (x := (ws.getD k 0, ws.sum)) (ea_d (ed_ixl (ed_var 1 rfl).l (ed_var 3 rfl) (atI_map g2)) (ea_d (ed_var 2 rfl) ea_nil)) rfl ⟨by show ws.sum ≠ 0; omega, Bt.mono (n := 40) (bt_range (by omega) s2) (by decide), Bt.mono (n := 40) (bt_range (by omega) (by omega)) (by decide)⟩) ea_nil))
theorem sc__law_spread : FnScope ["cell", "count", "low", "width", "draws", "size", "value", "weight"] ["cell", "count", "low", "width"] (defScope s__law_spread) := ⟨rfl, rfl, rfl, by decide +kernel, rfl, by decide +kernel, by decide +kernel⟩
structure SprA where
  cell : Int
  n : Nat
  low : Int
  width : Int
def sp__law_spread (K : PySem.W.Frag) : Sp := SpN K (fun a : SprA => [.dat (.int a.cell), .dat (.int (a.n : Int)), .dat (.int a.low), .dat (.int a.width)]) (fun a => SprOk a.n a.width) (fun a => (sprF a.cell a.n a.low a.width).map encI)
theorem ok__law_spread {f : Addr} {fd : FuncData} (F : Fun K "_law_spread" "_law_spread" s__law_spread f fd) (C__law_draws : Callee P w K mg base CX0 1 "_law_draws" ["cell", "limits"] (sp__law_draws K)) (C__law_weighted : Callee P w K mg base CX0 5 "_law_weighted" ["values", "weights"] (sp__law_weighted K)) :
    FnOk P w K mg base CX0 6 f fd ["cell", "count", "low", "width"] (sp__law_spread K) := by
  have sc := sc__law_spread
  refine fn_N F sc (fun _ => rfl) fun cdv A outer s H E hr => ?_
  refine ⟨_, (pss_cons (ps_set (i := 4) sc.nd rfl (by first | exact Or.inl rfl | exact Or.inr rfl) (pe_c C__law_draws (hr.mono (by decide)) pass0 (pa_cons (pv 0) (pa_cons (pe_op op_cat (pe_op op_cat (pe_lst (pa_cons (pv 1) pa_nil)) (pe_op op_rep (pe_lst (pa_cons (pv 3) pa_nil)) (pv 1))) (pe_op op_rep (pe_lst (pa_cons pe_int pa_nil)) (pv 1))) pa_nil))))
      (pss_cons (ps_set (i := 5) sc.nd rfl (by first | exact Or.inl rfl | exact Or.inr rfl) (pe_op op_add pe_int (pe_ix (r := rIxL K) ix_list (pv 4) pe_int (fun _ _ => rfl))))
      (pss_one (ps_ret (pe_c C__law_weighted (hr.mono (by decide)) pass0 (pa_cons (pe_lc (own := [("value", 6)]) rfl sc.nd (pi_list (pe_slice (r := rSlL K) sl_list (pv 4) (po_some pe_int) (po_some (pe_op op_add pe_int (pv 5))))) (blkOk_by (own := [("value", 6)]) (N := ["cell", "count", "low", "width", "draws", "size", "value", "weight"]) (sc := defScope s__law_spread) (by decide +kernel)) (fun _ _ _ _ _ => (pg_name (i := 6) sc.nd rfl (Or.inl rfl))) (fun _ _ _ _ _ => pts_nil) (fun _ _ _ _ _ => (pe_op op_add (pv 2) (pv 6)))) (pa_cons (pe_lc (own := [("weight", 7)]) rfl sc.nd (pi_list (pe_slice (r := rSlL K) sl_list (pv 4) (po_some (pe_op op_add pe_int (pv 1))) (po_some (pe_op op_add (pe_op op_add pe_int (pv 1)) (pv 5))))) (blkOk_by (own := [("weight", 7)]) (N := ["cell", "count", "low", "width", "draws", "size", "value", "weight"]) (sc := defScope s__law_spread) (by decide +kernel)) (fun _ _ _ _ _ => (pg_name (i := 7) sc.nd rfl (Or.inl rfl))) (fun _ _ _ _ _ => pts_nil) (fun _ _ _ _ _ => (pe_op op_add pe_int (pv 7)))) pa_nil))))))), fun a ha => ?_⟩
  obtain ⟨cell, n, low, width⟩ := a
  have h : SprOk n width := ha
  obtain ⟨x, x1, x2, x3, x4, x5, x6⟩ := spr_size h cell
  obtain ⟨l1, l2, l3⟩ := sprLims_ok h
  have hn := h.n2
  refine run_seq (run_setN (en_call (x := (cell, sprLims n width)) (ea_d (ed_var 0 rfl) (ea_d (en_cat (en_cat (en_lst (ds := [.int (n : Int)]) (ea_d (ed_var 1 rfl) ea_nil)).l (en_rep (en_lst (ds := [.int width]) (ea_d (ed_var 3 rfl) ea_nil)).l (ed_var 1 rfl) (by simp only [List.length_cons, List.length_nil, Int.toNat_natCast]; omega)).l (by simp only [List.length_cons, List.length_nil, Int.toNat_natCast, List.flatten_replicate_singleton, List.length_replicate]; omega)).l (en_rep (en_lst (ds := [.int 9]) (ea_d (ed_int 9) ea_nil)).l (ed_var 1 rfl) (by simp only [List.length_cons, List.length_nil, Int.toNat_natCast]; omega)).l (by simp only [List.length_append, List.length_cons, List.length_nil, Int.toNat_natCast, List.flatten_replicate_singleton, List.length_replicate]; omega)).d ea_nil)) (by
    show _ = [SD.dat _, SD.dat (.list ((sprLims n width).map PyData.int))]
    unfold sprLims
    rw [List.map_cons, List.map_append, List.map_replicate, List.map_replicate, Int.toNat_natCast, List.flatten_replicate_singleton, List.flatten_replicate_singleton]
    rfl) ⟨l1, fun l hl => (l2 l hl).mono (by decide), by show (sprLims n width).length ≤ 100000; rw [l3]; omega⟩)) ?_
  refine run_seq (run_set (d := .int (sprSize cell n width : Int)) ((ed_I0 (ed_int 1) (ed_ixl (el_var 4 rfl) (ed_int 0) (atI_map (i := 0) x1))).is (congrArg PyData.int (by show 1 + x = (sprSize cell n width : Int); omega)))) ?_
  have dl : ((drawsF cell (sprLims n width)).map PyData.int).length = 1 + 2 * n := by rw [List.length_map, drawsF_len, l3]
  have c1 : cutD ((drawsF cell (sprLims n width)).map PyData.int) (some 1) (some (1 + (sprSize cell n width : Int))) = (((drawsF cell (sprLims n width)).drop 1).take (sprSize cell n width)).map PyData.int := by
    have e := cutD_nat (xs := (drawsF cell (sprLims n width)).map PyData.int) (a := 1) (b := 1 + sprSize cell n width) (by omega) (by omega)
    rw [show (1 : Int) + (sprSize cell n width : Int) = ((1 + sprSize cell n width : Nat) : Int) by omega]
    refine e.trans ?_
    rw [Nat.add_sub_cancel_left, List.map_take, List.map_drop]
  have c2 : cutD ((drawsF cell (sprLims n width)).map PyData.int) (some (1 + (n : Int))) (some (1 + (n : Int) + (sprSize cell n width : Int))) = (((drawsF cell (sprLims n width)).drop (1 + n)).take (sprSize cell n width)).map PyData.int := by
    have e := cutD_nat (xs := (drawsF cell (sprLims n width)).map PyData.int) (a := 1 + n) (b := 1 + n + sprSize cell n width) (by omega) (by omega)
    rw [show (1 : Int) + (n : Int) = ((1 + n : Nat) : Int) by omega, show ((1 + n : Nat) : Int) + (sprSize cell n width : Int) = ((1 + n + sprSize cell n width : Nat) : Int) by omega]
    refine e.trans ?_
    rw [Nat.add_sub_cancel_left, List.map_take, List.map_drop]
  refine run_retN (en_call (x := (sprV cell n low width, sprW cell n width)) (ea_d (en_lc (ei_list ((en_slice (el_var 4 rfl) (eo_some (ed_int 1)) (eo_some (ed_I0 (ed_int 1) (ed_var 5 rfl)))).is c1).d) (ts := [6]) (by decide) (lc_map PyData.int (fun v : Int => PyData.int (low + v)) fun v hv => ⟨_, eg_name (by decide), et_yes, ed_I0 (ed_var 2 rfl) (ed_var 6 rfl)⟩) (by rw [List.length_map, List.length_take]; omega)).d
    (ea_d (en_lc (ei_list ((en_slice (el_var 4 rfl) (eo_some (ed_I0 (ed_int 1) (ed_var 1 rfl))) (eo_some (ed_I0 (ed_I0 (ed_int 1) (ed_var 1 rfl)) (ed_var 5 rfl)))).is c2).d) (ts := [7]) (by decide) (lc_map PyData.int (fun v : Int => PyData.int (1 + v)) fun v hv => ⟨_, eg_name (by decide), et_yes, ed_I0 (ed_int 1) (ed_var 7 rfl)⟩) (by rw [List.length_map, List.length_take]; omega)).d ea_nil)) (by
    show _ = [SD.dat (.list ((sprV cell n low width).map PyData.int)), SD.dat (.list ((sprW cell n width).map PyData.int))]
    unfold sprV sprW
    rw [List.map_map, List.map_map]; rfl) (spr_wd h cell))

/-! ### common -/
theorem ei_is {wi : TI} {env : EnvD} {ds ds' : List D} (h : EvI K wi env ds) (e : ds = ds') : EvI K wi env ds' := e ▸ h
theorem et_sameS {ta tb : TE} {env : EnvD} {x : Str} (h1 : EvD K ta env (.str x)) (h2 : EvD K tb env (.str x)) : EvT K (tTest (tOp rNe ta tb)) env false :=
  (et_test (ed_neS h1 h2)).is (by rw [decide_eq_true rfl]; rfl)
theorem et_same {ta tb : TE} {env : EnvD} {x : D} (h1 : EvP K ta env x) (h2 : EvP K tb env x) (hx : SeqAt.shaped x = true) : EvT K (tTest (tOp (rNeD K) ta tb)) env false :=
  (et_test (ed_neD h1 h2 hx hx)).is (by
    have h := hx
    unfold SeqAt.shaped at h
    rw [Bool.and_eq_true] at h
    rw [SeqAt.eqv_refl _ h.1]; rfl)
theorem atI_at {ns : List Int} {i : Int} {n : Nat} {x : Int} (e : i = (n : Int)) (h : ns[n]? = some x) : atI (ns.map PyData.int) i = some (.int x) := by subst e; exact atI_map h
theorem atI_getD {ns : List Int} {i : Int} {n : Nat} {x : Int} (e : i = (n : Int)) (h : ns[n]? = some x) : atI (ns.map PyData.int) i = some (.int (ns.getD n 0)) := by
  rw [List.getD_eq_getElem?_getD, h, Option.getD_some]; exact atI_at e h
theorem cutD_min {xs : List D} {a b : Nat} (hab : a ≤ b) : cutD xs (some (a : Int)) (some (b : Int)) = (xs.drop a).take (b - a) := by
  by_cases hb : b ≤ xs.length
  · exact cutD_nat hb hab
  · unfold cutD
    rw [HT.sIx_nat, HT.sIx_nat, Nat.min_eq_right (by omega : xs.length ≤ b)]
    by_cases ha : a ≤ xs.length
    · rw [Nat.min_eq_left ha, List.take_of_length_le (by rw [List.length_drop]; omega), List.take_of_length_le (by rw [List.length_drop]; omega)]
    · rw [Nat.min_eq_right (by omega), List.drop_eq_nil_of_le (Nat.le_refl _), List.drop_eq_nil_of_le (by omega), List.take_nil, List.take_nil]
theorem cutD_first {xs : List D} {b : Nat} : cutD xs none (some (b : Int)) = xs.take b := cutD_min (xs := xs) (a := 0) (b := b) (Nat.zero_le _)
/-- the chance of a value -/
theorem lk_wt {s : Spr} (h : Can s) (v : Int) : (lkA s v).getD 0 = wt s v := by
  have hn : (s.map (·.1)).Nodup := h.asc.imp fun h => by omega
  cases e : lkA s v with
  | none => rw [wt_none (lk_none.mp e)]; rfl
  | some c => rw [wt_nodup hn (lk_mem e)]; rfl
def flt (s : Spr) (v : Int) : List Rat := s.filterMap fun p => if p.1 = v then some p.2 else none
theorem flt_sum (v : Int) : ∀ s : Spr, (flt s v).sum = wt s v
  | [] => rfl
  | p :: s => by
    have ih := flt_sum v s
    unfold flt at *
    rw [wt_cons, List.filterMap_cons]
    by_cases e : p.1 = v
    · rw [if_pos e, if_pos e, List.sum_cons, ih]
    · rw [if_neg e, if_neg e, ih]; grind
theorem flt_enc (s : Spr) (v : Int) : (flt s v).map encQ = s.filterMap fun p => if p.1 = v then some (encQ p.2) else none := by
  unfold flt
  rw [List.map_filterMap]
  congr 1
  funext p
  split <;> rfl
theorem sprOk8 : SprOk 8 21 := ⟨by decide, by decide, by decide, by decide⟩
theorem ty_flt {n : Nat} {s : Spr} (h : Ty n s) (hn : n ≤ 3000) (v : Int) : Fine (flt s v) := by
  obtain ⟨⟨N, b, h1, h2, h3, h4⟩, h5, h6⟩ := h
  refine ⟨N, b, fin_of h1 h2 h3 (Nat.lt_of_le_of_lt (List.length_filterMap_le _ _) h6) (by omega) (by omega), fun r hr => ?_⟩
  obtain ⟨p, hp, e⟩ := List.mem_filterMap.mp hr
  split at e
  · cases e; exact h4 p hp
  · cases e

/-! ### the law's treaties -/
theorem sc__law_remaining : FnScope ["treaty", "amount", "layer"] ["treaty", "amount"] (defScope s__law_remaining) := ⟨rfl, rfl, rfl, by decide +kernel, rfl, by decide +kernel, by decide +kernel⟩
def sp__law_remaining (K : PySem.W.Frag) : Sp := SpD K (fun a : Tr × Int => [.dat (encT a.1), .dat (.int a.2)]) (fun a => TrOk a.1 ∧ 0 ≤ a.2 ∧ Bt 60 a.2) (fun a => .int (remF a.1.ls a.2))
theorem sub_band (a c b : Int) : a - c + b = a - (c - b) := by omega
theorem ok__law_remaining {f : Addr} {fd : FuncData} (F : Fun K "_law_remaining" "_law_remaining" s__law_remaining f fd) (m_min : mg "min" = none) : FnOk P w K mg base CX0 1 f fd ["treaty", "amount"] (sp__law_remaining K) := by
  have sc := sc__law_remaining
  refine fn_D F sc (fun _ => rfl) fun cdv A outer s H E hr => ?_
  refine ⟨_, (pss_cons (ps_for PassesOwn.never rfl (pi_list (pe_ix (r := rIxT K) ix_tup (pv 0) pe_int (fun _ _ => rfl))) (pg_name (i := 2) sc.nd rfl (by first | exact Or.inl rfl | exact Or.inr rfl)) (pss_one (ps_if (pt_cmpR op_eq (pe_ix (r := rIxT K) ix_tup (pv 2) pe_int (fun _ _ => rfl)) pe_str (nomark _)) (pss_one (ps_set (i := 1) sc.nd rfl (by first | exact Or.inl rfl | exact Or.inr rfl) (pe_un un_neg (pe_op op_fdivZ (pe_un un_neg (pe_op op_mulX (pv 1) (pe_ix (r := rIxT K) ix_tup (pe_ix (r := rIxT K) ix_tup (pv 2) pe_int (fun _ _ => rfl)) pe_int (fun _ _ => rfl)))) (pe_ix (r := rIxT K) ix_tup (pe_ix (r := rIxT K) ix_tup (pv 2) pe_int (fun _ _ => rfl)) pe_int (fun _ _ => rfl)))))) (pss_one (ps_if (pt_cmpR op_eq (pe_ix (r := rIxT K) ix_tup (pv 2) pe_int (fun _ _ => rfl)) pe_str (nomark _)) (pss_one (ps_set (i := 1) sc.nd rfl (by first | exact Or.inl rfl | exact Or.inr rfl) (pe_callB (id := "min") (call_min2 rfl) (by rfl) m_min (by decide +kernel) (pa_cons (pv 1) (pa_cons (pe_ix (r := rIxT K) ix_tup (pv 2) pe_int (fun _ _ => rfl)) pa_nil))))) (pss_one (ps_set (i := 1) sc.nd rfl (by first | exact Or.inl rfl | exact Or.inr rfl) (pe_op op_add (pe_op op_sub (pv 1) (pe_callB (id := "min") (call_min2 rfl) (by rfl) m_min (by decide +kernel) (pa_cons (pv 1) (pa_cons (pe_ix (r := rIxT K) ix_tup (pv 2) pe_int (fun _ _ => rfl)) pa_nil)))) (pe_callB (id := "min") (call_min2 rfl) (by rfl) m_min (by decide +kernel) (pa_cons (pv 1) (pa_cons (pe_ix (r := rIxT K) ix_tup (pv 2) pe_int (fun _ _ => rfl)) pa_nil)))))))))))
      (pss_one (ps_ret (pv 1)))), fun a ha => ?_⟩
  obtain ⟨t, x⟩ := a
  obtain ⟨ht, hx, hb⟩ := ha
  have ht : TrOk t := ht
  have hb : Bt 60 x := hb
  refine run_seq (run_for (ts := [2]) (fun i => [.dat (encT t), .dat (.int (remF (t.ls.take i) x)), .un]) (ei_list (ed_ixT (ed_var 0 rfl) (ed_int 1) rfl)) (.eq (.eq (.un .nil))) (fun i d hi hd => ⟨_, eg_name (by decide), ?_⟩)) ?_
  · rw [List.length_map] at hi
    obtain rfl : d = encL t.ls[i] := by rw [List.getElem?_map, List.getElem?_eq_getElem hi] at hd; exact (Option.some.inj hd).symm
    have h2 := remF_bd (ht.take i) hx
    have hl := ht.ok _ (List.getElem_mem hi)
    have hy := bt_le hb h2.1 h2.2
    rw [remF_snoc hi]
    generalize remF (t.ls.take i) x = y at h2 hy ⊢
    generalize t.ls[i] = l at hl ⊢
    cases l with
    | share r =>
      obtain ⟨h3, h4, hq⟩ := hl
      exact .n (run_ifT ((et_test (ed_eqS (ed_ixT (ed_var 2 rfl) (ed_int 0) rfl) (ed_str _))).is (decide_eq_true rfl)) (run_set (d := .int (layF (.share r) y)) ((ed_neg (ed_I (ed_neg (ed_I (ed_var 1 rfl) (ed_ixT (ed_ixT (ed_var 2 rfl) (ed_int 1) rfl) (ed_int 0) rfl) (hy.mulx hq.num (by decide)))) (ed_ixT (ed_ixT (ed_var 2 rfl) (ed_int 1) rfl) (ed_int 1) rfl) ⟨by have := r.den_nz; omega, PySem.Flt.log2_lt_of (by decide) (hq.den.mono (by decide : 60 ≤ 9000))⟩)).is (by show PyData.int _ = PyData.int (-((-y * r.num).fdiv r.den)); rw [Int.neg_mul])))) (.eq (.eq (.un .nil)))
    | limit c =>
      exact .n (run_ifF ((et_test (ed_eqS (ed_ixT (ed_var 2 rfl) (ed_int 0) rfl) (ed_str _))).is (decide_eq_false (by decide +kernel))) (run_ifT ((et_test (ed_eqS (ed_ixT (ed_var 2 rfl) (ed_int 0) rfl) (ed_str _))).is (decide_eq_true rfl)) (run_set (d := .int (layF (.limit c) y)) (ed_min2 (ed_var 1 rfl) (ed_ixT (ed_var 2 rfl) (ed_int 1) rfl))))) (.eq (.eq (.un .nil)))
    | band b c =>
      exact .n (run_ifF ((et_test (ed_eqS (ed_ixT (ed_var 2 rfl) (ed_int 0) rfl) (ed_str _))).is (decide_eq_false (by decide +kernel))) (run_ifF ((et_test (ed_eqS (ed_ixT (ed_var 2 rfl) (ed_int 0) rfl) (ed_str _))).is (decide_eq_false (by decide +kernel))) (run_set (d := .int (layF (.band b c) y)) ((ed_I0 (ed_I0 (ed_var 1 rfl) (ed_min2 (ed_var 1 rfl) (ed_ixT (ed_var 2 rfl) (ed_int 2) rfl))) (ed_min2 (ed_var 1 rfl) (ed_ixT (ed_var 2 rfl) (ed_int 1) rfl))).is (congrArg PyData.int (sub_band _ _ _)))))) (.eq (.eq (.un .nil)))
  · rw [List.length_map, List.take_length]
    exact run_ret (ed_var 1 rfl)
theorem sc__law_after_treaty : FnScope ["treaty", "spread", "item"] ["treaty", "spread"] (defScope s__law_after_treaty) := ⟨rfl, rfl, rfl, by decide +kernel, rfl, by decide +kernel, by decide +kernel⟩
def sp__law_after_treaty (K : PySem.W.Frag) : Sp := SpN K (fun a : Tr × Spr => [.dat (encT a.1), .dat (encS a.2)]) (fun a => TrOk a.1 ∧ Ty 60 a.2 ∧ ∀ p ∈ a.2, 0 ≤ p.1) (fun a => (gatF (mapT a.1 a.2)).map encI)
theorem ok__law_after_treaty {f : Addr} {fd : FuncData} (F : Fun K "_law_after_treaty" "_law_after_treaty" s__law_after_treaty f fd) (C__law_gathered : Callee P w K mg base CX0 4 "_law_gathered" ["items"] (sp__law_gathered K)) (C__law_remaining : Callee P w K mg base CX0 1 "_law_remaining" ["treaty", "amount"] (sp__law_remaining K)) : FnOk P w K mg base CX0 5 f fd ["treaty", "spread"] (sp__law_after_treaty K) := by
  have sc := sc__law_after_treaty
  refine fn_N F sc (fun _ => rfl) fun cdv A outer s H E hr => ?_
  refine ⟨_, (pss_one (ps_ret (pe_c C__law_gathered (hr.mono (by decide)) pass0 (pa_cons (pe_lc (own := [("item", 2)]) rfl sc.nd (pi_list (pv 1)) (blkOk_by (own := [("item", 2)]) (N := ["treaty", "spread", "item"]) (sc := defScope s__law_after_treaty) (by decide +kernel)) (fun _ _ _ _ _ => (pg_name (i := 2) sc.nd rfl (Or.inl rfl))) (fun _ _ _ _ _ => pts_nil) (fun _ _ _ _ _ => (pe_tup (pa_cons (pe_c C__law_remaining (hr.mono (by decide)) pass0 (pa_cons (pv 0) (pa_cons (pe_ix (r := rIxT K) ix_tup (pv 2) pe_int (fun _ _ => rfl)) pa_nil))) (pa_cons (pe_ix (r := rIxT K) ix_tup (pv 2) pe_int (fun _ _ => rfl)) pa_nil))))) pa_nil)))), fun a ha => ?_⟩
  obtain ⟨t, l⟩ := a
  obtain ⟨ht, hl, h0⟩ := ha
  have ht : TrOk t := ht
  have hl : Ty 60 l := hl
  have hll : l.length ≤ 10000000 := by have := hl.len; omega
  refine run_retN (en_call (x := mapT t l) (ea_d (en_lc (ei_list (ed_var 1 rfl)) (ts := [2]) (by decide) (lc_map encI (fun p : Int × Rat => encI (remF t.ls p.1, p.2)) fun p hp => ⟨_, eg_name (by decide), et_yes, ed_tup (ds := [.int (remF t.ls p.1), encQ p.2]) (ea_d (ed_call (x := (t, p.1)) (ea_d (ed_var 0 rfl) (ea_d (ed_ixT (ed_var 2 rfl) (ed_int 0) rfl) ea_nil)) rfl ⟨ht, h0 p hp, hl.v p hp⟩) (ea_d (ed_ixT (ed_var 2 rfl) (ed_int 1) rfl) ea_nil))⟩) (by rw [List.length_map]; exact hll)).d ea_nil) (by show _ = [SD.dat (.list ((mapT t l).map encI))]; unfold mapT; rw [List.map_map]; rfl) ((ty_mapT hl h0 ht).gd (by decide)))
theorem sc__law_treaty : FnScope ["cell", "most", "draws", "layers", "k", "part", "low", "high", "top", "below"] ["cell", "most"] (defScope s__law_treaty) := ⟨rfl, rfl, rfl, by decide +kernel, rfl, by decide +kernel, by decide +kernel⟩
def sp__law_treaty (K : PySem.W.Frag) : Sp := SpD K (fun a : Int × Int => [.dat (.int a.1), .dat (.int a.2)]) (fun a => 0 < a.2 ∧ a.2 ≤ 1000000) (fun a => encT (trF a.1 a.2))
theorem limsT_ok {most : Int} (h : 0 < most) (h2 : most ≤ 1000000) : DrawOk (limsT most) := by
  refine ⟨limsT_pos h, fun l hl => Bt.mono (n := 50) ?_ (by decide), by rw [limsT_len]; decide⟩
  rcases List.mem_cons.mp hl with e | hl
  · exact bt_range (by omega) (by omega)
  · have key : ∀ l ∈ (5 :: (List.replicate 4 [3, 5, 6, 40, 40, 4, 1001, 1001]).flatten : List Int), Bt 50 l := by intro l; revert l; decide
    exact key l hl
theorem pick_at (lo h : Int) : atI [PyData.int lo, PyData.int 1000] (if decide (h = 5) = true then 1 else 0) = some (.int (if h = 5 then 1000 else lo)) := by
  by_cases e : h = 5
  · rw [if_pos (decide_eq_true e), if_pos e]; rfl
  · rw [if_neg (by rw [decide_eq_false e]; simp), if_neg e]; rfl
theorem ok__law_treaty {f : Addr} {fd : FuncData} (F : Fun K "_law_treaty" "_law_treaty" s__law_treaty f fd) (m_int : mg "int" = none) (m_max : mg "max" = none) (m_min : mg "min" = none) (m_range : mg "range" = none) (C__law_draws : Callee P w K mg base CX0 1 "_law_draws" ["cell", "limits"] (sp__law_draws K)) (C__law_fraction : Callee P w K mg base CX0 2 "_law_fraction" ["top", "low"] (sp__law_fraction K)) : FnOk P w K mg base CX0 3 f fd ["cell", "most"] (sp__law_treaty K) := by
  have sc := sc__law_treaty
  refine fn_D F sc (fun _ => rfl) fun cdv A outer s H E hr => ?_
  refine ⟨_, (pss_cons (ps_set (i := 2) sc.nd rfl (by first | exact Or.inl rfl | exact Or.inr rfl) (pe_c C__law_draws (hr.mono (by decide)) pass0 (pa_cons (pv 0) (pa_cons (pe_op op_cat (pe_lst (pa_cons (pv 1) (pa_cons pe_int pa_nil))) (pe_op op_rep (pe_lst (pa_cons pe_int (pa_cons pe_int (pa_cons pe_int (pa_cons pe_int (pa_cons pe_int (pa_cons pe_int (pa_cons pe_int (pa_cons pe_int pa_nil))))))))) pe_int)) pa_nil))))
      (pss_cons (ps_set (i := 3) sc.nd rfl (by first | exact Or.inl rfl | exact Or.inr rfl) (pe_lst pa_nil))
      (pss_cons (ps_for PassesOwn.never rfl (pi_range1 (by rfl) m_range (pa_cons (pe_ix (r := rIxL K) ix_list (pv 2) pe_int (fun _ _ => rfl)) pa_nil)) (pg_name (i := 4) sc.nd rfl (by first | exact Or.inl rfl | exact Or.inr rfl)) (pss_cons (ps_set (i := 5) sc.nd rfl (by first | exact Or.inl rfl | exact Or.inr rfl) (pe_slice (r := rSlL K) sl_list (pv 2) (po_some (pe_op op_add pe_int (pe_op op_mulX pe_int (pv 4)))) (po_some (pe_op op_add pe_int (pe_op op_mulX pe_int (pv 4))))))
      (pss_cons (ps_asg (pe_lst (pa_cons (pe_ix (r := rIxL K) ix_list (pv 5) pe_int (fun _ _ => rfl)) (pa_cons (pe_ix (r := rIxL K) ix_list (pv 5) pe_int (fun _ _ => rfl)) pa_nil))) (pg_lst rfl (pgs_cons (pg_name (i := 6) sc.nd rfl (by first | exact Or.inl rfl | exact Or.inr rfl)) (pgs_cons (pg_name (i := 7) sc.nd rfl (by first | exact Or.inl rfl | exact Or.inr rfl)) pgs_nil))))
      (pss_cons (ps_asg (pe_lst (pa_cons (pe_ix (r := rIxL K) ix_list (pv 5) pe_int (fun _ _ => rfl)) (pa_cons (pe_ix (r := rIxL K) ix_list (pv 5) pe_int (fun _ _ => rfl)) pa_nil))) (pg_lst rfl (pgs_cons (pg_name (i := 8) sc.nd rfl (by first | exact Or.inl rfl | exact Or.inr rfl)) (pgs_cons (pg_name (i := 9) sc.nd rfl (by first | exact Or.inl rfl | exact Or.inr rfl)) pgs_nil))))
      (pss_cons (ps_if (pt_cmpR op_eq (pe_ix (r := rIxL K) ix_list (pv 5) pe_int (fun _ _ => rfl)) pe_int (nomark _)) (pss_cons (ps_asg (pe_lst (pa_cons (pe_ix (r := rIxL K) ix_list (pv 5) pe_int (fun _ _ => rfl)) (pa_cons (pe_ix (r := rIxL K) ix_list (pv 5) pe_int (fun _ _ => rfl)) pa_nil))) (pg_lst rfl (pgs_cons (pg_name (i := 6) sc.nd rfl (by first | exact Or.inl rfl | exact Or.inr rfl)) (pgs_cons (pg_name (i := 7) sc.nd rfl (by first | exact Or.inl rfl | exact Or.inr rfl)) pgs_nil))))
      (pss_one (ps_asg (pe_lst (pa_cons (pe_ix (r := rIxL K) ix_list (pv 5) pe_int (fun _ _ => rfl)) (pa_cons (pe_ix (r := rIxL K) ix_list (pv 5) pe_int (fun _ _ => rfl)) pa_nil))) (pg_lst rfl (pgs_cons (pg_name (i := 8) sc.nd rfl (by first | exact Or.inl rfl | exact Or.inr rfl)) (pgs_cons (pg_name (i := 9) sc.nd rfl (by first | exact Or.inl rfl | exact Or.inr rfl)) pgs_nil)))))) pss_nil)
      (pss_cons (ps_if (pt_cmpR op_eq (pe_ix (r := rIxL K) ix_list (pv 5) pe_int (fun _ _ => rfl)) pe_int (nomark _)) (pss_one (ps_asg (pe_lst (pa_cons (pe_op op_add pe_int (pe_ix (r := rIxL K) ix_list (pv 5) pe_int (fun _ _ => rfl))) (pa_cons (pe_op op_add (pe_op op_add pe_int (pe_ix (r := rIxL K) ix_list (pv 5) pe_int (fun _ _ => rfl))) (pe_op op_mulX pe_int (pe_ix (r := rIxL K) ix_list (pv 5) pe_int (fun _ _ => rfl)))) pa_nil))) (pg_lst rfl (pgs_cons (pg_name (i := 8) sc.nd rfl (by first | exact Or.inl rfl | exact Or.inr rfl)) (pgs_cons (pg_name (i := 9) sc.nd rfl (by first | exact Or.inl rfl | exact Or.inr rfl)) pgs_nil))))) pss_nil)
      (pss_one (ps_if (pt_cmpR op_eq (pe_ix (r := rIxL K) ix_list (pv 5) pe_int (fun _ _ => rfl)) pe_int (nomark _)) (pss_one (ps_expr (pe_bm PySem.F.plainAttrs_list PySem.F.slot_list_append PySem.F.type_list_append mt_append (pv 3) (pa_cons (pe_tup (pa_cons pe_str (pa_cons (pe_c C__law_fraction (hr.mono (by decide)) pass0 (pa_cons (pe_callB (id := "min") (call_min2 rfl) (by rfl) m_min (by decide +kernel) (pa_cons (pv 8) (pa_cons (pv 9) pa_nil))) (pa_cons (pe_callB (id := "max") (call_max3Nu rfl) (by rfl) m_max (by decide +kernel) (pa_cons pe_int (pa_cons (pv 8) (pa_cons (pv 9) pa_nil)))) pa_nil))) pa_nil))) pa_nil)))) (pss_one (ps_if (pt_cmpR op_eq (pe_ix (r := rIxL K) ix_list (pv 5) pe_int (fun _ _ => rfl)) pe_int (nomark _)) (pss_one (ps_expr (pe_bm PySem.F.plainAttrs_list PySem.F.slot_list_append PySem.F.type_list_append mt_append (pv 3) (pa_cons (pe_tup (pa_cons pe_str (pa_cons (pe_ix (r := rIxL K) ix_list (pe_lst (pa_cons (pv 6) (pa_cons pe_int pa_nil))) (pe_callTy (T := "int") call_int1 (by rfl) m_int (by decide +kernel) (pa_cons (pe_cmpR op_eq (pe_op op_modN (pe_callTy (T := "int") call_int1 (by rfl) m_int (by decide +kernel) (pa_cons (pv 7) pa_nil)) pe_int) pe_int (nomark _)) pa_nil)) (fun _ _ => rfl)) pa_nil))) pa_nil)))) (pss_one (ps_expr (pe_bm PySem.F.plainAttrs_list PySem.F.slot_list_append PySem.F.type_list_append mt_append (pv 3) (pa_cons (pe_tup (pa_cons pe_str (pa_cons (pe_callB (id := "min") (call_min2 rfl) (by rfl) m_min (by decide +kernel) (pa_cons (pv 6) (pa_cons (pv 7) pa_nil))) (pa_cons (pe_callB (id := "max") (call_max2 rfl) (by rfl) m_max (by decide +kernel) (pa_cons (pv 6) (pa_cons (pv 7) pa_nil))) pa_nil)))) pa_nil))))))))))))))
      (pss_one (ps_ret (pe_tup (pa_cons (pe_ix (r := rIxL K) ix_list (pv 2) pe_int (fun _ _ => rfl)) (pa_cons (pv 3) pa_nil)))))))), fun a ha => ?_⟩
  obtain ⟨cell, most⟩ := a
  obtain ⟨h1, h2⟩ := ha
  have h1 : 0 < most := h1
  have h2 : most ≤ 1000000 := h2
  have hD := drT (cell := cell) h1
  have hlen : (drawsF cell (limsT most)).length = 34 := by rw [drawsF_len]; rfl
  refine run_seq (run_setN (en_call (x := (cell, limsT most)) (ea_d (ed_var 0 rfl) (ea_d (en_cat (en_lst (ds := [.int most, .int 5]) (ea_d (ed_var 1 rfl) (ea_d (ed_int 5) ea_nil))).l (en_rep (en_lst (ds := [.int 3, .int 5, .int 6, .int 40, .int 40, .int 4, .int 1001, .int 1001]) (ea_d (ed_int 3) (ea_d (ed_int 5) (ea_d (ed_int 6) (ea_d (ed_int 40) (ea_d (ed_int 40) (ea_d (ed_int 4) (ea_d (ed_int 1001) (ea_d (ed_int 1001) ea_nil))))))))).l (ed_int 4) (by decide)).l (by show 2 + 32 ≤ 1000000; decide)).d ea_nil)) rfl (limsT_ok h1 h2))) (run_pub 2 rfl ?_)
  show Run K E _ [.dat (.int cell), .dat (.int most), .dat (.list ((drawsF cell (limsT most)).map PyData.int)), .un, .un, .un, .un, .un, .un, .un] (.rt (encT ⟨(drawsF cell (limsT most)).getD 0 0, (List.range ((drawsF cell (limsT most)).getD 1 0).toNat).map (layD (drawsF cell (limsT most)))⟩))
  generalize drawsF cell (limsT most) = D at hD hlen ⊢
  obtain ⟨x0, e0, a0, b0⟩ := hD.d0
  obtain ⟨x1, e1, a1, b1⟩ := hD.d1
  have g1 : D.getD 1 0 = x1 := by rw [List.getD_eq_getElem?_getD, e1]; rfl
  rw [g1]
  refine run_seq (run_setN (en_lst (ds := []) ea_nil)) ?_
  refine run_seq (run_for (ts := [4]) (fun i => [.dat (.int cell), .dat (.int most), .dat (.list (D.map PyData.int)), .ml (((List.range i).map (layD D)).map encL), .un, .un, .un, .un, .un, .un]) (ei_is (ei_rng1 (ed_ixl (ed_var 2 rfl).l (ed_int 1) (atI_at (n := 1) rfl e1)) (by omega)) (rng_map x1.toNat)) (.eq (.eq (.eq (.eq (.un (.un (.un (.un (.un (.un .nil)))))))))) (fun i d hi hd => ⟨_, eg_name (by decide), ?_⟩)) ?_
  · rw [List.length_map, List.length_range] at hi
    obtain rfl : d = .int (i : Int) := by rw [List.getElem?_map, List.getElem?_range hi] at hd; exact (Option.some.inj hd).symm
    have hk : i < 4 := by omega
    obtain ⟨p0, p1, p2, p3, p4, p5, p6, p7, pb, hp, hlay⟩ : ∃ p0 p1 p2 p3 p4 p5 p6 p7 : Int, PB p0 p1 p2 p3 p4 p5 p6 p7 ∧ (D.drop (2 + 8 * i)).take 8 = [p0, p1, p2, p3, p4, p5, p6, p7] ∧ layD D i = layP p0 p1 p2 p3 p4 p5 p6 p7 := ⟨_, _, _, _, _, _, _, _, hD.pb hk, hD.part hk, rfl⟩
    rw [List.range_succ, List.map_append, List.map_append]
    show Turn1 K E _ _ [.dat (.int cell), .dat (.int most), .dat (.list (D.map PyData.int)), .ml (((List.range i).map (layD D)).map encL ++ [encL (layD D i)]), .un, .un, .un, .un, .un, .un]
    rw [hlay]
    have hR : (((List.range i).map (layD D)).map encL).length < 10000000 := by rw [List.length_map, List.length_map, List.length_range]; omega
    generalize ((List.range i).map (layD D)).map encL = R at hR ⊢
    refine Turn1.n (e1 := [.dat (.int cell), .dat (.int most), .dat (.list (D.map PyData.int)), .ml (R ++ [encL (layP p0 p1 p2 p3 p4 p5 p6 p7)]), .un, .un, .un, .un, .un, .un]) ?_ (Less.refl _)
    have hc : cutD (D.map PyData.int) (some (2 + 8 * (i : Int))) (some (10 + 8 * (i : Int))) = [.int p0, .int p1, .int p2, .int p3, .int p4, .int p5, .int p6, .int p7] := by
      have e := cutD_nat (xs := D.map PyData.int) (a := 2 + 8 * i) (b := 10 + 8 * i) (by rw [List.length_map]; omega) (by omega)
      rw [show (2 : Int) + 8 * (i : Int) = ((2 + 8 * i : Nat) : Int) by omega, show (10 : Int) + 8 * (i : Int) = ((10 + 8 * i : Nat) : Int) by omega]
      refine e.trans ?_
      rw [show 10 + 8 * i - (2 + 8 * i) = 8 by omega, ← List.map_drop, ← List.map_take, hp]
      rfl
    have m8 : CMulX 8 (i : Int) := Bt.mulx (n := 10) (m := 10) (by decide) (bt_range (by omega) (by omega)) (by decide)
    refine run_seq (run_setN ((en_slice (ed_var 2 rfl).l (eo_some (ed_I0 (ed_int 2) (ed_I (ed_int 8) (ed_var 4 rfl) m8))) (eo_some (ed_I0 (ed_int 10) (ed_I (ed_int 8) (ed_var 4 rfl) m8)))).is hc)) ?_
    refine run_seq (run_asg (ts := [6, 7]) (en_lst (ds := [.int p3, .int p4]) (ea_d (ed_ixl (el_var 5 rfl) (ed_int 3) rfl) (ea_d (ed_ixl (el_var 5 rfl) (ed_int 4) rfl) ea_nil))).d (eg_lst (egs_cons (eg_name (by decide)) (egs_cons (eg_name (by decide)) egs_nil)) rfl)) ?_
    refine run_seq (run_asg (ts := [8, 9]) (en_lst (ds := [.int p1, .int p2]) (ea_d (ed_ixl (el_var 5 rfl) (ed_int 1) rfl) (ea_d (ed_ixl (el_var 5 rfl) (ed_int 2) rfl) ea_nil))).d (eg_lst (egs_cons (eg_name (by decide)) (egs_cons (eg_name (by decide)) egs_nil)) rfl)) ?_
    refine run_seq (e1 := [.dat (.int cell), .dat (.int most), .dat (.list (D.map PyData.int)), .ml R, .dat (.int (i : Int)), .ml [.int p0, .int p1, .int p2, .int p3, .int p4, .int p5, .int p6, .int p7], .dat (.int (if p5 = 0 then p6 else p3)), .dat (.int (if p5 = 0 then p7 else p4)), .dat (.int (if p5 = 0 then p6 else p1)), .dat (.int (if p5 = 0 then p7 else p2))]) ?_ ?_
    · by_cases hb : p5 = 0
      · rw [if_pos hb, if_pos hb, if_pos hb, if_pos hb]
        exact run_ifT ((et_test (ed_eqI (ed_ixl (el_var 5 rfl) (ed_int 5) rfl) (ed_int 0))).is (decide_eq_true hb)) (run_seq (run_asg (ts := [6, 7]) (en_lst (ds := [.int p6, .int p7]) (ea_d (ed_ixl (el_var 5 rfl) (ed_int 6) rfl) (ea_d (ed_ixl (el_var 5 rfl) (ed_int 7) rfl) ea_nil))).d (eg_lst (egs_cons (eg_name (by decide)) (egs_cons (eg_name (by decide)) egs_nil)) rfl)) (run_asg (ts := [8, 9]) (en_lst (ds := [.int p6, .int p7]) (ea_d (ed_ixl (el_var 5 rfl) (ed_int 6) rfl) (ea_d (ed_ixl (el_var 5 rfl) (ed_int 7) rfl) ea_nil))).d (eg_lst (egs_cons (eg_name (by decide)) (egs_cons (eg_name (by decide)) egs_nil)) rfl)))
      · rw [if_neg hb, if_neg hb, if_neg hb, if_neg hb]
        exact run_ifF ((et_test (ed_eqI (ed_ixl (el_var 5 rfl) (ed_int 5) rfl) (ed_int 0))).is (decide_eq_false hb)) run_next
    obtain ⟨t1, t2⟩ := tb_bd pb
    have mm := mm_bd t1 t2
    have b7 := pb.b7
    refine run_seq (e1 := [.dat (.int cell), .dat (.int most), .dat (.list (D.map PyData.int)), .ml R, .dat (.int (i : Int)), .ml [.int p0, .int p1, .int p2, .int p3, .int p4, .int p5, .int p6, .int p7], .dat (.int (if p5 = 0 then p6 else p3)), .dat (.int (if p5 = 0 then p7 else p4)), .dat (.int (if p5 = 1 then 1 + p6 else if p5 = 0 then p6 else p1)), .dat (.int (if p5 = 1 then 1001 + p6 + 1000 * p7 else if p5 = 0 then p7 else p2))]) ?_ ?_
    · by_cases hb : p5 = 1
      · rw [if_pos hb, if_pos hb]
        exact run_ifT ((et_test (ed_eqI (ed_ixl (el_var 5 rfl) (ed_int 5) rfl) (ed_int 1))).is (decide_eq_true hb)) (run_asg (ts := [8, 9]) (en_lst (ds := [.int (1 + p6), .int (1001 + p6 + 1000 * p7)]) (ea_d (ed_I0 (ed_int 1) (ed_ixl (el_var 5 rfl) (ed_int 6) rfl)) (ea_d (ed_I0 (ed_I0 (ed_int 1001) (ed_ixl (el_var 5 rfl) (ed_int 6) rfl)) (ed_I (ed_int 1000) (ed_ixl (el_var 5 rfl) (ed_int 7) rfl) (Bt.mulx (n := 20) (m := 20) (by decide) (bt_range (by omega) (by omega)) (by decide)))) ea_nil))).d (eg_lst (egs_cons (eg_name (by decide)) (egs_cons (eg_name (by decide)) egs_nil)) rfl))
      · rw [if_neg hb, if_neg hb]
        exact run_ifF ((et_test (ed_eqI (ed_ixl (el_var 5 rfl) (ed_int 5) rfl) (ed_int 1))).is (decide_eq_false hb)) run_next
    unfold layP
    generalize (if p5 = 1 then 1 + p6 else if p5 = 0 then p6 else p1) = T at mm ⊢
    generalize (if p5 = 1 then 1001 + p6 + 1000 * p7 else if p5 = 0 then p7 else p2) = B at mm ⊢
    generalize (if p5 = 0 then p6 else p3) = lo
    generalize (if p5 = 0 then p7 else p4) = hi2
    by_cases hb : p0 = 0
    · rw [if_pos hb]
      refine run_less (run_ifT ((et_test (ed_eqI (ed_ixl (el_var 5 rfl) (ed_int 0) rfl) (ed_int 0))).is (decide_eq_true hb)) (run_append (i := 3) rfl (ed_tup (ds := [.str "share", encQ (Rat.divInt (mn T B) (mx3 1 T B))]) (ea_d (ed_str _) (ea_d (ed_call (x := (mn T B, mx3 1 T B)) (ea_d (ed_min2 (ed_var 8 rfl) (ed_var 9 rfl)) (ea_d (ed_max3 (ed_int 1) (ed_var 8 rfl) (ed_var 9 rfl)) ea_nil)) rfl ⟨by show mx3 1 T B ≠ 0; omega, Bt.mono (n := 30) (bt_range (by omega) (by omega)) (by decide), Bt.mono (n := 30) (bt_range (by omega) (by omega)) (by decide)⟩) ea_nil))) hR)) (.eq (.eq (.eq (.eq (.un (.un (.un (.un (.un (.un .nil))))))))))
    · rw [if_neg hb]
      by_cases hb1 : p0 = 1
      · rw [if_pos hb1]
        refine run_less (run_ifF ((et_test (ed_eqI (ed_ixl (el_var 5 rfl) (ed_int 0) rfl) (ed_int 0))).is (decide_eq_false hb)) (run_ifT ((et_test (ed_eqI (ed_ixl (el_var 5 rfl) (ed_int 0) rfl) (ed_int 1))).is (decide_eq_true hb1)) (run_append (i := 3) rfl (ed_tup (ds := [.str "limit", .int (if hi2.fmod 13 = 5 then 1000 else lo)]) (ea_d (ed_str _) (ea_d (ed_ixl (en_lst (ds := [.int lo, .int 1000]) (ea_d (ed_var 6 rfl) (ea_d (ed_int 1000) ea_nil))).l (ed_int1b (ed_eqI (ed_I (ed_int1 (ed_var 7 rfl)) (ed_int 13) (by decide)) (ed_int 5))) (pick_at _ _)) ea_nil))) hR))) (.eq (.eq (.eq (.eq (.un (.un (.un (.un (.un (.un .nil))))))))))
      · rw [if_neg hb1]
        refine run_less (run_ifF ((et_test (ed_eqI (ed_ixl (el_var 5 rfl) (ed_int 0) rfl) (ed_int 0))).is (decide_eq_false hb)) (run_ifF ((et_test (ed_eqI (ed_ixl (el_var 5 rfl) (ed_int 0) rfl) (ed_int 1))).is (decide_eq_false hb1)) (run_append (i := 3) rfl (ed_tup (ds := [.str "band", .int (mn lo hi2), .int (mx lo hi2)]) (ea_d (ed_str _) (ea_d (ed_min2 (ed_var 6 rfl) (ed_var 7 rfl)) (ea_d (ed_max2 (ed_var 6 rfl) (ed_var 7 rfl)) ea_nil)))) hR))) (.eq (.eq (.eq (.eq (.un (.un (.un (.un (.un (.un .nil))))))))))
  · rw [List.length_map, List.length_range]
    refine run_pub 3 rfl ?_
    exact run_ret (ed_tup (ds := [.int (D.getD 0 0), .list (((List.range x1.toNat).map (layD D)).map encL)]) (ea_d (ed_ixl (ed_var 2 rfl).l (ed_int 0) (atI_getD (n := 0) rfl e0)) (ea_d (ed_var 3 rfl) ea_nil)))

theorem ed_pow {env : EnvD} {x n y : Int} (hn : 0 ≤ n ∧ n ≤ 1000000 ∧ x.natAbs < 2 ^ 64) (e : x ^ n.toNat = y) : EvD K (tOp (rI CPow fun i j => .int (i ^ j.toNat)) (tC (.int x)) (tC (.int n))) env (.int y) := (ed_I (ed_int x) (ed_int n) hn).is (congrArg PyData.int e)

/-! ### the law's house -/
theorem sc__law_house : FnScope ["cell", "more", "places", "lines", "wide", "draws", "count", "size", "weathers", "k", "part", "found", "turns", "treaties", "j"] ["cell", "more", "places", "lines", "wide"] (defScope s__law_house) := ⟨rfl, rfl, rfl, by decide +kernel, rfl, by decide +kernel, by decide +kernel⟩
def sp__law_house (K : PySem.W.Frag) : Sp := SpD K (fun a : HA => [.dat (.int a.cell), .dat (.int a.more), .dat (.int a.places), .dat (.int a.lines), .dat (.int a.wide)]) HAOk (fun a => encH (houseF a))
theorem ok__law_house {f : Addr} {fd : FuncData} (F : Fun K "_law_house" "_law_house" s__law_house f fd) (m_int : mg "int" = none) (m_range : mg "range" = none) (C__law_draws : Callee P w K mg base CX0 1 "_law_draws" ["cell", "limits"] (sp__law_draws K)) (C__law_spread : Callee P w K mg base CX0 6 "_law_spread" ["cell", "count", "low", "width"] (sp__law_spread K)) (C__law_treaty : Callee P w K mg base CX0 3 "_law_treaty" ["cell", "most"] (sp__law_treaty K)) :
    FnOk P w K mg base CX0 7 f fd ["cell", "more", "places", "lines", "wide"] (sp__law_house K) := by
  have sc := sc__law_house
  refine fn_D F sc (fun _ => rfl) fun cdv A outer s H E hr => ?_
  refine ⟨_, (pss_cons (ps_set (i := 5) sc.nd rfl (by first | exact Or.inl rfl | exact Or.inr rfl) (pe_c C__law_draws (hr.mono (by decide)) pass0 (pa_cons (pv 0) (pa_cons (pe_op op_cat (pe_lst (pa_cons (pv 2) (pa_cons pe_int pa_nil))) (pe_op op_rep (pe_lst (pa_cons (pe_op op_pow pe_int pe_int) pa_nil)) pe_int)) pa_nil))))
      (pss_cons (ps_set (i := 6) sc.nd rfl (by first | exact Or.inl rfl | exact Or.inr rfl) (pe_op op_add pe_int (pe_ix (r := rIxL K) ix_list (pv 5) pe_int (fun _ _ => rfl))))
      (pss_cons (ps_set (i := 7) sc.nd rfl (by first | exact Or.inl rfl | exact Or.inr rfl) (pe_ix (r := rIxL K) ix_list (pe_lst (pa_cons pe_int (pa_cons pe_int pa_nil))) (pv 4) (fun _ _ => rfl)))
      (pss_cons (ps_set (i := 8) sc.nd rfl (by first | exact Or.inl rfl | exact Or.inr rfl) (pe_lst pa_nil))
      (pss_cons (ps_for PassesOwn.never rfl (pi_range1 (by rfl) m_range (pa_cons (pv 6) pa_nil)) (pg_name (i := 9) sc.nd rfl (by first | exact Or.inl rfl | exact Or.inr rfl)) (pss_cons (ps_set (i := 10) sc.nd rfl (by first | exact Or.inl rfl | exact Or.inr rfl) (pe_c C__law_draws (hr.mono (by decide)) pass0 (pa_cons (pe_op op_add (pe_op op_fdivZ (pe_callTy (T := "int") call_int1 (by rfl) m_int (by decide +kernel) (pa_cons (pv 1) pa_nil)) (pe_op op_add (pv 9) pe_int)) (pe_op op_mulX pe_int (pv 9))) (pa_cons (pe_op op_cat (pe_lst (pa_cons (pe_ix (r := rIxL K) ix_list (pe_lst (pa_cons pe_int (pa_cons pe_int pa_nil))) (pv 4) (fun _ _ => rfl)) (pa_cons (pv 3) pa_nil))) (pe_op op_rep (pe_lst (pa_cons (pe_op op_pow pe_int pe_int) pa_nil)) pe_int)) pa_nil))))
      (pss_cons (ps_setLc (i := 11) (own := [("j", 14)]) rfl sc.nd rfl rfl (sw_true rfl rfl rfl (by decide +kernel)) (pi_range1 (by rfl) m_range (pa_cons (pe_ix (r := rIxL K) ix_list (pv 10) pe_int (fun _ _ => rfl)) pa_nil)) (blkOk_by (own := [("j", 14)]) (N := ["cell", "more", "places", "lines", "wide", "draws", "count", "size", "weathers", "k", "part", "found", "turns", "treaties", "j"]) (sc := defScope s__law_house) (by decide +kernel)) (fun _ _ _ _ _ => (pg_name (i := 14) sc.nd rfl (Or.inl rfl))) (fun _ _ _ _ _ => pts_nil) (fun _ _ _ _ _ => (pe_c C__law_spread (hr.mono (by decide)) pass0 (pa_cons (pe_ix (r := rIxL K) ix_list (pv 10) (pe_op op_add pe_int (pv 14)) (fun _ _ => rfl)) (pa_cons pe_int (pa_cons pe_int (pa_cons (pv 7) pa_nil)))))))
      (pss_cons (ps_set (i := 12) sc.nd rfl (by first | exact Or.inl rfl | exact Or.inr rfl) (pe_c C__law_spread (hr.mono (by decide)) pass0 (pa_cons (pe_ix (r := rIxL K) ix_list (pv 10) pe_int (fun _ _ => rfl)) (pa_cons pe_int (pa_cons pe_int (pa_cons (pv 6) pa_nil))))))
      (pss_one (ps_expr (pe_bm PySem.F.plainAttrs_list PySem.F.slot_list_append PySem.F.type_list_append mt_append (pv 8) (pa_cons (pe_tup (pa_cons (pe_ix (r := rIxL K) ix_list (pv 10) pe_int (fun _ _ => rfl)) (pa_cons (pv 11) (pa_cons (pv 12) pa_nil)))) pa_nil))))))))
      (pss_cons (ps_setLc (i := 13) (own := [("k", 9)]) rfl sc.nd rfl rfl (sw_true rfl rfl rfl (by decide +kernel)) (pi_range1 (by rfl) m_range (pa_cons (pe_op op_add pe_int (pe_ix (r := rIxL K) ix_list (pv 5) pe_int (fun _ _ => rfl))) pa_nil)) (blkOk_by (own := [("k", 9)]) (N := ["cell", "more", "places", "lines", "wide", "draws", "count", "size", "weathers", "k", "part", "found", "turns", "treaties", "j"]) (sc := defScope s__law_house) (by decide +kernel)) (fun _ _ _ _ _ => (pg_name (i := 9) sc.nd rfl (Or.inl rfl))) (fun _ _ _ _ _ => pts_nil) (fun _ _ _ _ _ => (pe_c C__law_treaty (hr.mono (by decide)) pass0 (pa_cons (pe_op op_add (pe_ix (r := rIxL K) ix_list (pv 5) (pe_op op_add pe_int (pv 9)) (fun _ _ => rfl)) (pv 9)) (pa_cons (pe_ix (r := rIxL K) ix_list (pe_lst (pa_cons pe_int (pa_cons pe_int pa_nil))) (pv 4) (fun _ _ => rfl)) pa_nil)))))
      (pss_one (ps_ret (pe_tup (pa_cons (pv 8) (pa_cons (pv 13) pa_nil))))))))))), fun a ha => ?_⟩
  have h : HAOk a := ha
  have hD := hd_ok h
  have hc := count_bd h
  have bil : ∀ ev : EnvD, EvD K (tOp (rI CPow fun i j => .int (i ^ j.toNat)) (tC (.int 10)) (tC (.int 9))) ev (.int 1000000000) := fun ev => ed_pow (by decide) (by decide)
  have four : ∀ ev : EnvD, EvN K (tOp rRep (tLst (tCons (tOp (rI CPow fun i j => .int (i ^ j.toNat)) (tC (.int 10)) (tC (.int 9))) tNil)) (tC (.int 4))) ev ((List.replicate 4 (1000000000 : Int)).map PyData.int) := fun ev => (en_rep (en_lst (ds := [.int 1000000000]) (ea_d (bil ev) ea_nil)).l (ed_int 4) (by decide)).is (by rfl)
  have okH : DrawOk (limsH a.places) := ⟨fun l hl => (limsH_ok h.places l hl).1, fun l hl => by have := limsH_ok h.places l hl; exact Bt.mono (n := 40) (bt_range (by omega) (by omega)) (by decide), by show 6 ≤ 100000; decide⟩
  have okW : DrawOk (limsW a.wide a.lines) := ⟨fun l hl => (limsW_ok h.lines l hl).1, fun l hl => by have := limsW_ok h.lines l hl; exact Bt.mono (n := 40) (bt_range (by omega) (by omega)) (by decide), by show 6 ≤ 100000; decide⟩
  refine run_seq (run_setN (en_call (x := (a.cell, limsH a.places)) (ea_d (ed_var 0 rfl) (ea_d ((en_cat (en_lst (ds := [.int a.places, .int 4]) (ea_d (ed_var 2 rfl) (ea_d (ed_int 4) ea_nil))).l (four _).l (by show 2 + 4 ≤ 1000000; decide)).is (d' := (limsH a.places).map PyData.int) rfl).d ea_nil)) rfl okH)) (run_pub 5 rfl ?_)
  have hcount : 1 + (drawsF a.cell (limsH a.places)).getD 0 0 = countF a := rfl
  have hh : encH (houseF a) = .tuple [.list ((List.range (countF a).toNat).map fun k => encW (wtF a (countF a) k)), .list ((List.range (1 + (drawsF a.cell (limsH a.places)).getD 1 0).toNat).map fun (k : Nat) => encT (trF ((drawsF a.cell (limsH a.places)).getD (2 + k) 0 + (k : Int)) (mxF a.wide)))] := by
    show PyData.tuple [.list (((List.range (countF a).toNat).map (wtF a (countF a))).map encW), .list (((List.range (1 + (drawsF a.cell (limsH a.places)).getD 1 0).toNat).map fun (k : Nat) => trF ((drawsF a.cell (limsH a.places)).getD (2 + k) 0 + (k : Int)) (mxF a.wide)).map encT)] = _
    rw [List.map_map, List.map_map]; rfl
  rw [hh]
  show Run K E _ [.dat (.int a.cell), .dat (.int a.more), .dat (.int a.places), .dat (.int a.lines), .dat (.int a.wide), .dat (.list ((drawsF a.cell (limsH a.places)).map PyData.int)), .un, .un, .un, .un, .un, .un, .un, .un, .un] _
  generalize drawsF a.cell (limsH a.places) = D at hD hcount ⊢
  refine run_seq (run_set ((ed_I0 (ed_int 1) (ed_ixl (ed_var 5 rfl).l (ed_int 0) (atI_at (n := 0) rfl hD.d0.1))).is (congrArg PyData.int hcount))) ?_
  refine run_seq (run_set (ed_ixl (en_lst (ds := [.int 9, .int 1001]) (ea_d (ed_int 9) (ea_d (ed_int 1001) ea_nil))).l (ed_var 4 rfl) (hpick_at h.wide))) ?_
  refine run_seq (run_setN (en_lst (ds := []) ea_nil)) ?_
  obtain ⟨N, hN, hN1⟩ : ∃ N : Nat, countF a = (N : Int) ∧ (countF a).toNat = N := ⟨(countF a).toNat, by omega, rfl⟩
  rw [hN1]
  refine run_seq (run_for (ts := [9]) (ds := (List.range N).map fun k : Nat => PyData.int (k : Int)) (fun i => [.dat (.int a.cell), .dat (.int a.more), .dat (.int a.places), .dat (.int a.lines), .dat (.int a.wide), .dat (.list (D.map PyData.int)), .dat (.int (countF a)), .dat (.int (szF a.wide)), .ml ((List.range i).map fun k => encW (wtF a (countF a) k)), .un, .un, .un, .un, .un, .un]) (ei_is (ei_rng1 (ed_var 6 rfl) (by omega)) (by rw [hN, Int.toNat_natCast]; exact rng_map N)) (Less.refl _) (fun i d hi hd => ⟨_, eg_name (by decide), ?_⟩)) ?_
  · rw [List.length_map, List.length_range] at hi
    obtain rfl : d = .int (i : Int) := by rw [List.getElem?_map, List.getElem?_range hi] at hd; exact (Option.some.inj hd).symm
    rw [List.range_succ, List.map_append, List.map_singleton]
    have hp := part_ok h i
    have hl := h.lines
    have hd1 := hp.d1.2
    refine Turn1.n (e1 := [.dat (.int a.cell), .dat (.int a.more), .dat (.int a.places), .dat (.int a.lines), .dat (.int a.wide), .dat (.list (D.map PyData.int)), .dat (.int (countF a)), .dat (.int (szF a.wide)), .ml (((List.range i).map fun k => encW (wtF a (countF a) k)) ++ [encW (wtF a (countF a) i)]), .un, .un, .un, .un, .un, .un]) ?_ (Less.refl _)
    have hw : encW (wtF a (countF a) i) = .tuple [.int ((partF a i).getD 0 0), .list ((List.range ((partF a i).getD 1 0).toNat).map fun j => encS (sprF ((partF a i).getD (2 + j) 0) 3 0 (szF a.wide))), encS (sprF ((partF a i).getD 5 0) 2 0 (countF a))] := by
      show PyData.tuple [_, .list (((List.range ((partF a i).getD 1 0).toNat).map fun j => sprF ((partF a i).getD (2 + j) 0) 3 0 (szF a.wide)).map encS), _] = _
      rw [List.map_map]; rfl
    rw [hw]
    refine run_seq (run_setN (en_call (x := (a.more.fdiv ((i : Int) + 1) + 7 * (i : Int), limsW a.wide a.lines)) (ea_d (ed_I0 (ed_I (ed_int1 (ed_var 1 rfl)) (ed_I0 (ed_var 9 rfl) (ed_int 1)) ⟨by omega, PySem.Flt.log2_lt_of (by decide) (Bt.mono (n := 20) (bt_range (by omega) (by omega)) (by decide : 20 ≤ 9000))⟩) (ed_I (ed_int 7) (ed_var 9 rfl) (Bt.mulx (n := 20) (m := 20) (bt_range (by omega) (by omega)) (bt_range (by omega) (by omega)) (by decide)))) (ea_d ((en_cat (en_lst (ds := [.int (pmF a.wide), .int a.lines]) (ea_d (ed_ixl (en_lst (ds := [.int 7, .int 1001]) (ea_d (ed_int 7) (ea_d (ed_int 1001) ea_nil))).l (ed_var 4 rfl) (hpick_at h.wide)) (ea_d (ed_var 3 rfl) ea_nil))).l (four _).l (by show 2 + 4 ≤ 1000000; decide)).is (d' := (limsW a.wide a.lines).map PyData.int) rfl).d ea_nil)) rfl okW)) (run_pub 10 rfl ?_)
    show Run K E _ [.dat (.int a.cell), .dat (.int a.more), .dat (.int a.places), .dat (.int a.lines), .dat (.int a.wide), .dat (.list (D.map PyData.int)), .dat (.int (countF a)), .dat (.int (szF a.wide)), .ml ((List.range i).map fun k => encW (wtF a (countF a) k)), .dat (.int (i : Int)), .dat (.list ((partF a i).map PyData.int)), .un, .un, .un, .un] _
    generalize partF a i = Q at hp hd1 ⊢
    obtain ⟨M, hM⟩ : ∃ M : Nat, Q.getD 1 0 = (M : Int) := ⟨(Q.getD 1 0).toNat, by omega⟩
    have hz := sz_ok (n := 3) (by decide) a.wide
    rw [hM, Int.toNat_natCast]
    refine run_seq (run_setN (en_lc (ei_is (ei_rng1 ((ed_ixl (ed_var 10 rfl).l (ed_int 1) (atI_at (n := 1) rfl hp.d1.1)).is (congrArg PyData.int hM)) (by omega)) (by rw [Int.toNat_natCast]; exact rng_map M)) (ts := [14]) (by decide) (lc_map (xs := List.range M) (fun j : Nat => PyData.int (j : Int)) (fun j => encS (sprF (Q.getD (2 + j) 0) 3 0 (szF a.wide))) fun j hj => ⟨_, eg_name (by decide), et_yes, EvN.d (en_call (x := (⟨Q.getD (2 + j) 0, 3, 0, szF a.wide⟩ : SprA)) (ea_d (ed_ixl (ed_var 10 rfl).l (ed_I0 (ed_int 2) (ed_var 14 rfl)) (atI_at (n := 2 + j) (by omega) (hp.dj j (by rw [List.mem_range] at hj; omega)))) (ea_d (ed_int 3) (ea_d (ed_int 0) (ea_d (ed_var 7 rfl) ea_nil)))) rfl hz)⟩) (by rw [List.length_map, List.length_range]; omega))) (run_pub 11 rfl ?_)
    refine run_seq (run_setN (en_call (x := (⟨Q.getD 5 0, 2, 0, countF a⟩ : SprA)) (ea_d (ed_ixl (ed_var 10 rfl).l (ed_int 5) (atI_at (n := 5) rfl (hp.dj 3 (by decide)))) (ea_d (ed_int 2) (ea_d (ed_int 0) (ea_d (ed_var 6 rfl) ea_nil)))) rfl (sp2_ok hc))) (run_pub 12 rfl ?_)
    exact run_less (run_append (i := 8) (d := .tuple [.int (Q.getD 0 0), .list ((List.range M).map fun j => encS (sprF (Q.getD (2 + j) 0) 3 0 (szF a.wide))), encS (sprF (Q.getD 5 0) 2 0 (countF a))]) rfl (ed_tup (ds := [.int (Q.getD 0 0), .list ((List.range M).map fun j => encS (sprF (Q.getD (2 + j) 0) 3 0 (szF a.wide))), encS (sprF (Q.getD 5 0) 2 0 (countF a))]) (ea_d (ed_ixl (ed_var 10 rfl).l (ed_int 0) (atI_at (n := 0) rfl hp.d0.1)) (ea_d (ed_var 11 rfl) (ea_d (ed_var 12 rfl) ea_nil)))) (by rw [List.length_map, List.length_range]; omega)) (.eq (.eq (.eq (.eq (.eq (.eq (.eq (.eq (.eq (.un (.un (.un (.un (.un (.un .nil)))))))))))))))
  rw [List.length_map, List.length_range]
  refine run_pub 8 rfl ?_
  obtain ⟨T, hT, hT4⟩ : ∃ T : Nat, 1 + D.getD 1 0 = (T : Int) ∧ T ≤ 4 := ⟨(1 + D.getD 1 0).toNat, by have := hD.d1.2; omega, by have := hD.d1.2; omega⟩
  have hm := mx_bd a.wide
  rw [hT, Int.toNat_natCast]
  refine run_seq (run_setN (en_lc (ei_is (ei_rng1 ((ed_I0 (ed_int 1) (ed_ixl (ed_var 5 rfl).l (ed_int 1) (atI_at (n := 1) rfl hD.d1.1))).is (congrArg PyData.int hT)) (by omega)) (by rw [Int.toNat_natCast]; exact rng_map T)) (ts := [9]) (by decide) (lc_map (xs := List.range T) (fun j : Nat => PyData.int (j : Int)) (fun k => encT (trF (D.getD (2 + k) 0 + (k : Int)) (mxF a.wide))) fun j hj => ⟨_, eg_name (by decide), et_yes, ed_call (x := (D.getD (2 + j) 0 + (j : Int), mxF a.wide)) (ea_d (ed_I0 (ed_ixl (ed_var 5 rfl).l (ed_I0 (ed_int 2) (ed_var 9 rfl)) (atI_at (n := 2 + j) (by omega) (hD.dj j (by rw [List.mem_range] at hj; omega)))) (ed_var 9 rfl)) (ea_d (ed_ixl (en_lst (ds := [.int 4, .int 1001]) (ea_d (ed_int 4) (ea_d (ed_int 1001) ea_nil))).l (ed_var 4 rfl) (hpick_at h.wide)) ea_nil)) rfl ⟨hm.1, by show mxF a.wide ≤ 1000000; omega⟩⟩) (by rw [List.length_map, List.length_range]; omega))) (run_pub 13 rfl ?_)
  exact run_ret (ed_tup (ds := [.list ((List.range N).map fun k => encW (wtF a (countF a) k)), .list ((List.range T).map fun (k : Nat) => encT (trF (D.getD (2 + k) 0 + (k : Int)) (mxF a.wide)))]) (ea_d (ed_var 8 rfl) (ea_d (ed_var 13 rfl) ea_nil)))

end
end KP

namespace KP
open PySem L2 DL MX
section
variable {P : Program} {w : World} {K : PySem.W.Frag} {mg : Str → Option Value} {base : Heap}
abbrev Rw3 := Int × Int × Int
abbrev rawD (l : List Rw3) : PyData := .list (l.map rawI)
def EB (p : Rw3) : Prop := Bt 1000 p.1 ∧ Bt 1000 p.2.1 ∧ Bt 1000 p.2.2
theorem shw_R {l : List Rw3} (h : ∀ p ∈ l, EB p) (hl : l.length ≤ 200) : Shw (rawD l) := by
  have h2 : Sbs 2 (6 * l.length) (l.map rawI) := (sbs_map (n := 2) (k := 5) (f := rawI) fun p hp => by
    obtain ⟨a, b, c⟩ := h p hp
    exact (sb_tup (sbs_cons ((sb_int (a.mono (by decide))).mono (by decide) (Nat.le_refl _)) (sbs_cons (sb_tup (sbs_cons (sb_int (b.mono (by decide))) (sbs_cons (sb_int (c.mono (by decide))) sbs_nil))) sbs_nil))).mono (by decide) (by decide))
  exact sb_shw (sb_lst h2) (by decide) (by omega) (.inl ⟨_, rfl⟩)

/-! ### they are bad, and small -/
structure BL (l : RL) : Prop where
  bad : lyB l = false
  e : RLE l
theorem ly_share (ps : List Pt) : lyB ⟨"share", ps⟩ = match ps with
    | [p] => shB p
    | _ => false := if_pos rfl
theorem ly_limit (ps : List Pt) : lyB ⟨"limit", ps⟩ = match ps with
    | [p] => amB p
    | _ => false := by
  have h : ¬("limit" : Str) = "share" := by decide +kernel
  unfold lyB; rw [if_neg h, if_pos rfl]; try rfl
theorem ly_band (ps : List Pt) : lyB ⟨"band", ps⟩ = match ps with
    | [p, q] => amB p && (amB q && leB p q)
    | _ => false := by
  have h : ¬("band" : Str) = "share" := by decide +kernel
  have h2 : ¬("band" : Str) = "limit" := by decide +kernel
  unfold lyB; rw [if_neg h, if_neg h2, if_pos rfl]; try rfl
theorem ly_else {w : Str} (h : ¬w = "share") (h2 : ¬w = "limit") (h3 : ¬w = "band") (ps : List Pt) : lyB ⟨w, ps⟩ = false := by
  unfold lyB; rw [if_neg h, if_neg h2, if_neg h3]
theorem am_no {x : Int} (h : x < 0 ∨ 1000 < x) : amB (.i x) = false := by
  show (decide (0 ≤ x) && decide (x ≤ 1000)) = false
  rcases h with h | h
  · rw [decide_eq_false (show ¬0 ≤ x by omega)]; rfl
  · rw [decide_eq_false (show ¬x ≤ 1000 by omega), Bool.and_false]
theorem sh_no {t l : Int} (h : l < 1 ∨ ((Nat.gcd t.natAbs l.natAbs : Nat) : Int) ≠ 1 ∨ t < 0 ∨ l < t) : shB (.f t l) = false := by
  show ((decide (l ≥ 1) && decide (((Nat.gcd t.natAbs l.natAbs : Nat) : Int) = 1)) && (decide (0 ≤ t) && decide (t ≤ l))) = false
  rcases h with h | h | h | h
  · rw [decide_eq_false (show ¬l ≥ 1 by omega)]; rfl
  · rw [decide_eq_false h, Bool.and_false, Bool.false_and]
  · rw [decide_eq_false (show ¬0 ≤ t by omega), Bool.false_and, Bool.and_false]
  · rw [decide_eq_false (show ¬t ≤ l by omega), Bool.and_false, Bool.and_false]
theorem band_no {x y : Int} (h : (x < 0 ∨ 1000 < x) ∨ (y < 0 ∨ 1000 < y) ∨ y < x) : lyB ⟨"band", [.i x, .i y]⟩ = false := by
  rw [ly_band]
  show (amB (.i x) && (amB (.i y) && decide (x ≤ y))) = false
  rcases h with h | h | h
  · rw [am_no h]; rfl
  · rw [am_no h, Bool.false_and, Bool.and_false]
  · rw [decide_eq_false (show ¬x ≤ y by omega), Bool.and_false, Bool.and_false]
theorem bt_s {x : Int} (h : -10000000000000000 ≤ x ∧ x ≤ 10000000000000000) : Bt 1900 x := Bt.mono (n := 60) (bt_range (by omega) (by omega)) (by decide)
theorem rle {w : Str} {ps : List Pt} (h : WOk w) (h2 : ps.length ≤ 4) (h3 : ∀ p ∈ ps, PtE p) : RLE ⟨w, ps⟩ := ⟨h, h2, h3⟩
theorem w_keep : WOk "keep" := ⟨by decide +kernel, by decide +kernel⟩
theorem w_none : WOk "" := ⟨by decide +kernel, by decide +kernel⟩
theorem w_Limit : WOk "Limit" := ⟨by decide +kernel, by decide +kernel⟩
theorem w_limits : WOk "limits" := ⟨by decide +kernel, by decide +kernel⟩
theorem p0 : ∀ p ∈ ([] : List Pt), PtE p := fun p hp => by cases hp
theorem pc {p : Pt} {ps : List Pt} (h : PtE p) (hs : ∀ p ∈ ps, PtE p) : ∀ q ∈ p :: ps, PtE q := fun q hq => by
  rcases List.mem_cons.mp hq with e | e
  · rw [e]; exact h
  · exact hs q e
theorem pi' {x : Int} (h : -10000000000000000 ≤ x ∧ x ≤ 10000000000000000) : PtE (.i x) := bt_s h
theorem pf {t l : Int} (h : -10000000000000000 ≤ t ∧ t ≤ 10000000000000000) (h2 : -10000000000000000 ≤ l ∧ l ≤ 10000000000000000) : PtE (.f t l) := ⟨bt_s h, bt_s h2⟩
theorem allc {P : RL → Prop} {a : RL} {l : List RL} (h : P a) (hs : ∀ x ∈ l, P x) : ∀ x ∈ a :: l, P x := fun x hx => by
  rcases List.mem_cons.mp hx with e | e
  · rw [e]; exact h
  · exact hs x e
theorem alln {P : RL → Prop} : ∀ x ∈ ([] : List RL), P x := fun x hx => by cases hx
theorem alla {P : RL → Prop} {a b : List RL} (h : ∀ x ∈ a, P x) (hs : ∀ x ∈ b, P x) : ∀ x ∈ a ++ b, P x := fun x hx => (List.mem_append.mp hx).elim (h x) (hs x)
theorem keep_no (ps : List Pt) : lyB ⟨"keep", ps⟩ = false := ly_else (by decide +kernel) (by decide +kernel) (by decide +kernel) ps

/-- a good spread, as check_spread sees it -/
def rawOf (s : Spr) : List (Int × Int × Int) := s.map fun p => (p.1, p.2.num, (p.2.den : Int))
theorem raw_data (s : Spr) : encS s = .list ((rawOf s).map rawI) := by unfold rawOf; rw [List.map_map]; rfl
theorem raw_val (p : Int × Rat) : rawC (p.1, p.2.num, (p.2.den : Int)) = p.2 := by
  show Rat.divInt p.2.num (p.2.den : Int) = p.2
  exact Rat.num_divInt_den p.2
theorem raw_good {s : Spr} (hc : Can s) (hp : ∀ p ∈ s, 0 < p.2) (hm : mass s = 1) : GoodS (rawOf s) := by
  refine ⟨fun p hpm => ?_, fun i p q h1 h2 => ?_, ?_⟩
  · obtain ⟨q, hq, rfl⟩ := List.mem_map.mp hpm
    have h1 := hp q hq
    have hd := q.2.den_nz
    have hr := q.2.reduced
    have hn : 1 ≤ q.2.num := by
      have h2 := lt_is 0 q.2
      rw [decide_eq_true h1] at h2
      have h3 := of_decide_eq_true h2
      have h4 : (0 : Int) * (q.2.den : Int) < q.2.num * 1 := h3
      omega
    show (decide ((q.2.den : Int) ≥ 1) && decide (((Nat.gcd q.2.num.natAbs (q.2.den : Int).natAbs : Nat) : Int) = 1) && !decide (q.2.num < 1)) = true
    have hr2 : Nat.gcd q.2.num.natAbs q.2.den = 1 := hr
    rw [decide_eq_true (show (q.2.den : Int) ≥ 1 by omega), Int.natAbs_natCast, hr2, decide_eq_false (show ¬q.2.num < 1 by omega)]
    rfl
  · unfold rawOf at h1 h2
    rw [List.getElem?_map] at h1 h2
    obtain ⟨a, ha, rfl⟩ := Option.map_eq_some_iff.mp h1
    obtain ⟨b, hb, rfl⟩ := Option.map_eq_some_iff.mp h2
    have hl := (List.getElem?_eq_some_iff.mp hb).1
    have := List.pairwise_iff_getElem.mp hc.asc i (i + 1) (by rw [List.length_map]; omega) (by rw [List.length_map]; exact hl) (by omega)
    rw [List.getElem_map, List.getElem_map] at this
    have e1 := (List.getElem?_eq_some_iff.mp ha).2
    have e2 := (List.getElem?_eq_some_iff.mp hb).2
    rw [e1, e2] at this
    exact this
  · unfold rawOf
    rw [List.map_map]
    have e : s.map (rawC ∘ fun p => (p.1, p.2.num, (p.2.den : Int))) = s.map (·.2) := List.map_congr_left fun p _ => raw_val p
    rw [e, ← mass_eq]; exact hm

/-! ### damages of given values -/
theorem wt_nn {s : Spr} (h : ∀ p ∈ s, 0 < p.2) (v : Int) : 0 ≤ wt s v := ex_nn (fun p hp => by have := h p hp; grind) v
theorem wt_gt : ∀ {s : Spr} {v : Int}, (∀ p ∈ s, 0 < p.2) → v ∈ s.map (·.1) → 0 < wt s v
  | [], v, _, h => by cases h
  | p :: s, v, hp, h => by
    have h0 := hp p (List.mem_cons_self)
    have hs : ∀ q ∈ s, 0 < q.2 := fun q hq => hp q (List.mem_cons_of_mem _ hq)
    rw [wt_cons]
    by_cases e : p.1 = v
    · rw [if_pos e]
      have := wt_nn hs v
      grind
    · rw [if_neg e]
      rw [List.map_cons] at h
      have h2 : v ∈ s.map (·.1) := (List.mem_cons.mp h).resolve_left (fun z => e z.symm)
      have := wt_gt hs h2
      grind
theorem divInt_pos {a b : Int} (h : 1 ≤ a) (h2 : 1 ≤ b) : 0 < Rat.divInt a b := by
  have h0 : 0 ≤ Rat.divInt a b := Rat.divInt_nonneg (by omega) (by omega)
  have hb : (b : Rat) ≠ 0 := fun z => absurd (Rat.intCast_inj.mp z) (show b ≠ 0 by omega)
  have hn : Rat.divInt a b ≠ 0 := fun z => by
    rw [Rat.divInt_eq_div] at z
    have : (a : Rat) = 0 := by grind
    exact absurd (Rat.intCast_inj.mp this) (show a ≠ 0 by omega)
  grind
theorem wtd_pos {vs ws : List Int} (h : Wd vs ws) : ∀ p ∈ wtd vs ws, 0 < p.2 := fun p hp => by
  unfold wtd at hp
  obtain ⟨k, hk, rfl⟩ := List.mem_map.mp hp
  rw [List.mem_range, h.len] at hk
  show 0 < Rat.divInt (ws.getD k 0) ws.sum
  rw [List.getD_eq_getElem?_getD, List.getElem?_eq_getElem hk, Option.getD_some]
  exact divInt_pos (h.pos _ (List.getElem_mem hk)).1 h.sum.1
theorem wtd_fst (vs ws : List Int) : (wtd vs ws).map (·.1) = vs := by
  unfold wtd
  rw [List.map_map]
  refine List.ext_getElem? fun i => ?_
  rw [List.getElem?_map]
  by_cases hi : i < vs.length
  · rw [List.getElem?_range hi, List.getElem?_eq_getElem hi]
    show some (vs.getD i 0) = some vs[i]
    rw [List.getD_eq_getElem?_getD, List.getElem?_eq_getElem hi, Option.getD_some]
  · rw [List.getElem?_eq_none (by rw [List.length_range]; omega), List.getElem?_eq_none (show vs.length ≤ i by omega)]; rfl
structure Dm (vs : List Int) (L : List Rw3) : Prop where
  good : GoodS L
  pre : SpPre L
  eb : ∀ p ∈ L, EB p
  len : L.length ≤ vs.length
  val : ∀ p ∈ L, p.1 ∈ vs
  all : ∀ v ∈ vs, ∃ p ∈ L, p.1 = v
  asc : (L.map (·.1)).Pairwise (· < ·)
theorem dm_of {vs ws : List Int} (h : Wd vs ws) (hv : ∀ v ∈ vs, Bt 40 v) : Dm vs (rawOf (gatF (wtd vs ws))) := by
  have hT : Ty 46 (gatF (wtd vs ws)) := (ty_wtd h hv).gat
  have hm : mass (gatF (wtd vs ws)) = 1 := by rw [mass_gat, mass_eq, wtd_snd h.len, sum_cs (by have := h.sum; omega)]
  have hp : ∀ p ∈ gatF (wtd vs ws), 0 < p.2 := gat_pos fun p hp => by have := wtd_pos h p hp; grind
  refine ⟨raw_good (gat_can _) hp hm, ⟨fun _ => ?_, ?_⟩, fun p hpm => ?_, ?_, fun p hpm => ?_, fun v hv2 => ?_, ?_⟩
  · unfold rawOf
    rw [List.map_map]
    have e : (gatF (wtd vs ws)).map (rawC ∘ fun p => (p.1, p.2.num, (p.2.den : Int))) = (gatF (wtd vs ws)).map (·.2) := List.map_congr_left fun p _ => raw_val p
    rw [e]; exact hT.fine (by decide)
  · unfold rawOf; rw [List.length_map]; have := hT.len; omega
  · obtain ⟨q, hq, rfl⟩ := List.mem_map.mp hpm
    exact ⟨(hT.v q hq).mono (by decide), (hT.qb q hq).num.mono (by decide), (hT.qb q hq).den.mono (by decide)⟩
  · unfold rawOf; rw [List.length_map]
    have := gat_len (wtd vs ws)
    rw [wtd_len] at this
    exact this
  · obtain ⟨q, hq, rfl⟩ := List.mem_map.mp hpm
    have := (gat_mem hq).1
    rw [wtd_fst] at this
    exact this
  · have h1 : 0 < wt (wtd vs ws) v := wt_gt (wtd_pos h) (by rw [wtd_fst]; exact hv2)
    have h2 : (v, wt (wtd vs ws) v) ∈ gatF (wtd vs ws) := (can_mem (gat_can _) v _).mpr ⟨gat_wt _ v, by grind⟩
    exact ⟨_, List.mem_map.mpr ⟨_, h2, rfl⟩, rfl⟩
  · unfold rawOf
    rw [List.map_map]
    exact (gat_can (wtd vs ws)).asc
theorem Dm.shw {vs : List Int} {L : List Rw3} (h : Dm vs L) (hl : vs.length < 64) : Shw (rawD L) := shw_R h.eb (by have := h.len; omega)
theorem Dm.ok {vs : List Int} {L : List Rw3} (h : Dm vs L) (hl : vs.length ≤ 30) (hv : ∀ v ∈ vs, 0 ≤ v ∧ v ≤ 1000) : dmOk L := ⟨h.good, by have := h.len; omega, fun p hp => by
  obtain ⟨a, b⟩ := hv _ (h.val p hp)
  show (decide (0 ≤ p.1) && decide (p.1 ≤ 1000)) = true
  rw [decide_eq_true a, decide_eq_true b]; rfl⟩
theorem one_dm {v : Int} (hv : Bt 40 v) : Dm [v] [((v, 1, 1) : Rw3)] := by
  refine ⟨⟨fun p hp => ?_, fun i p q h1 h2 => (by cases i <;> simp at h2), ?_⟩, ⟨fun _ => ⟨1, 1, fin_g (n := 3) (m := 3) (by decide) (by decide) (by decide) (by show 1 ≤ 1000; decide) (by decide) (by decide), fun r hr => ?_⟩, by show 1 ≤ 1000; decide⟩, fun p hp => ?_, by show 1 ≤ 1; decide, fun p hp => ?_, fun u hu => ⟨_, List.mem_singleton.mpr rfl, ?_⟩, by rw [List.map_singleton]; exact List.pairwise_singleton _ _⟩
  · rw [List.mem_singleton] at hp; rw [hp]
    show ((decide ((1 : Int) ≥ 1) && decide (((Nat.gcd (1 : Int).natAbs (1 : Int).natAbs : Nat) : Int) = 1)) && !decide ((1 : Int) < 1)) = true
    decide
  · show Rat.divInt 1 1 + 0 = 1
    have : Rat.divInt 1 1 = 1 := by decide
    rw [this]; grind
  · rw [List.map_singleton, List.mem_singleton] at hr; rw [hr]; exact ⟨1, rfl, by decide⟩
  · rw [List.mem_singleton] at hp; rw [hp]; exact ⟨hv.mono (by decide), Bt.one (by decide), Bt.one (by decide)⟩
  · rw [List.mem_singleton] at hp; rw [hp]; exact List.mem_singleton.mpr rfl
  · rw [List.mem_singleton] at hu; exact hu.symm
theorem rep_one {α : Type} (x : α) : ∀ n : Nat, (List.replicate n [x]).flatten = List.replicate n x
  | 0 => rfl
  | n + 1 => by rw [List.replicate_succ, List.replicate_succ, List.flatten_cons, rep_one x n]; rfl
theorem wd_ones {vs : List Int} {n : Nat} (h : vs.length = n) (h0 : 0 < n) (h1 : n < 64) : Wd vs (List.replicate n 1) := ⟨by rw [List.length_replicate]; exact h, by omega, by intro z; rw [z] at h; simp at h; omega, fun x hx => by rw [(List.mem_replicate.mp hx).2]; decide⟩

/-! ### k08: raw houses -/
structure LOk (m : Nat) (l : List Rw3) : Prop where
  pre : SpPre l
  eb : ∀ p ∈ l, EB p
  len : l.length ≤ m
structure WG (w : RWt) (n : Int) : Prop where
  prem : 0 ≤ w.prem ∧ w.prem ≤ 1000
  few : w.lines.length ≤ 3
  lines : ∀ l ∈ w.lines, dmOk l ∧ LOk 3 l
  turns : tuOk w.turns n ∧ LOk 2 w.turns
structure ShW (w : RWt) : Prop where
  prem : Bt 1900 w.prem
  few : w.lines.length ≤ 6
  lines : ∀ l ∈ w.lines, LOk 31 l
  turns : LOk 4 w.turns
theorem LOk.mono {m n : Nat} {l : List Rw3} (h : LOk m l) (hm : m ≤ n) : LOk n l := ⟨h.pre, h.eb, Nat.le_trans h.len hm⟩
theorem ShW.pre {w : RWt} (h : ShW w) : wtPre w := ⟨fun l hl => (h.lines l hl).pre, h.turns.pre⟩
theorem sb_L {m : Nat} {l : List Rw3} (h : LOk m l) : Sb 3 (6 * m) (encSp l) := by
  have h2 : Sbs 2 ((5 + 1) * l.length) (l.map rawI) := sbs_map (n := 2) (k := 5) (f := rawI) fun p hp => by
    obtain ⟨a, b, c⟩ := h.eb p hp
    exact (sb_tup (sbs_cons ((sb_int (a.mono (by decide))).mono (by decide) (Nat.le_refl _)) (sbs_cons (sb_tup (sbs_cons (sb_int (b.mono (by decide))) (sbs_cons (sb_int (c.mono (by decide))) sbs_nil))) sbs_nil))).mono (by decide) (by decide)
  have := h.len
  exact (sb_lst h2).mono (by decide) (by omega)
theorem sb_RW {w : RWt} (h : ShW w) : Sb 5 1150 (encRW w) := by
  have h1 : Sbs 3 ((186 + 1) * w.lines.length) (w.lines.map encSp) := sbs_map fun l hl => sb_L (h.lines l hl)
  have h2 := sb_L h.turns
  have hf := h.few
  exact (sb_tup (sbs_cons ((sb_int h.prem).mono (by decide) (Nat.le_refl _)) (sbs_cons ((sb_lst h1).mono (Nat.le_refl 4) (by omega : _ ≤ 1122)) (sbs_cons (h2.mono (by decide) (Nat.le_refl _)) sbs_nil)))).mono (by decide) (by decide)
theorem WG.sh {w : RWt} {n : Int} (h : WG w n) : ShW w := ⟨bt_s (by have := h.prem; omega), by have := h.few; omega, fun l hl => (h.lines l hl).2.mono (by decide), h.turns.2.mono (by decide)⟩
theorem WG.ok {w : RWt} {n : Int} (h : WG w n) : wtR w n := ⟨by
  show (decide (0 ≤ w.prem) && decide (w.prem ≤ 1000)) = true
  rw [decide_eq_true h.prem.1, decide_eq_true h.prem.2]; rfl, h.few, fun l hl => (h.lines l hl).1, h.turns.1⟩
structure TG (t : RT) : Prop where
  ok : trB t = true
  e : ∀ l ∈ t.ls, RLE l
  few : t.ls.length ≤ 4
  price : 0 ≤ t.price ∧ t.price ≤ 1000
structure ShT (t : RT) : Prop where
  e : ∀ l ∈ t.ls, RLE l
  few : t.ls.length ≤ 5
  price : Bt 1900 t.price
theorem sb_RT {t : RT} (h : ShT t) : Sb 4 160 (encRT t) := by
  have h2 : Sbs 2 ((30 + 1) * t.ls.length) (t.ls.map encR) := sbs_map fun l hl => sb_R (h.e l hl)
  have := h.few
  exact (sb_tup (sbs_cons ((sb_int h.price).mono (by decide) (Nat.le_refl _)) (sbs_cons ((sb_lst h2).mono (Nat.le_refl 3) (by omega : _ ≤ 155)) sbs_nil))).mono (by decide) (by decide)
theorem TG.sh {t : RT} (h : TG t) : ShT t := ⟨h.e, by have := h.few; omega, bt_s (by have := h.price; omega)⟩
theorem shw_RH {ws : List RWt} {ts : List RT} {k : Nat} (hw : ∀ w ∈ ws, Sb 5 k (encRW w)) (ht : ∀ t ∈ ts, Sb 4 160 (encRT t)) (h1 : (k + 1) * ws.length ≤ 6000) (h2 : ts.length ≤ 10) : Shw (encRH ⟨ws, ts⟩) := by
  have a : Sbs 5 ((k + 1) * ws.length) (ws.map encRW) := sbs_map hw
  have b : Sbs 4 ((160 + 1) * ts.length) (ts.map encRT) := sbs_map ht
  exact sb_shw8 (sb_tup (sbs_cons ((sb_lst a).mono (Nat.le_refl 6) h1) (sbs_cons ((sb_lst b).mono (by decide : 5 ≤ 6) (by omega : _ ≤ 1610)) sbs_nil))) (by decide) (by decide) (.inr ⟨_, rfl⟩)
structure RfH (h : RHs) : Prop where
  pre : hsPre h
  bad : ¬hsR h
  shw : Shw (encRH h)
/-! ### from the law's house -/
def rawW (w : Wt) : RWt := ⟨w.prem, w.lines.map rawOf, rawOf w.turns⟩
def rawH (h : Hs) : RHs := ⟨h.ws.map rawW, h.ts.map rawT⟩
theorem rawW_enc (w : Wt) : encW w = encRW (rawW w) := by
  show PyData.tuple [.int w.prem, .list (w.lines.map encS), encS w.turns] = .tuple [.int w.prem, .list ((w.lines.map rawOf).map encSp), encSp (rawOf w.turns)]
  rw [List.map_map, List.map_congr_left (g := encSp ∘ rawOf) fun s _ => raw_data s, raw_data]
theorem rawH_enc (h : Hs) : encH h = encRH (rawH h) := by
  show PyData.tuple [.list (h.ws.map encW), .list (h.ts.map encT)] = .tuple [.list ((h.ws.map rawW).map encRW), .list ((h.ts.map rawT).map encRT)]
  rw [List.map_map, List.map_map, List.map_congr_left (g := encRW ∘ rawW) fun w _ => rawW_enc w, List.map_congr_left (g := encRT ∘ rawT) fun t _ => rawT_enc t]
theorem raw_spg {lo hi : Int} {m : Nat} {s : Spr} (h : SpG lo hi m s) (hm : m ≤ 40) : GoodS (rawOf s) ∧ LOk m (rawOf s) ∧ ∀ p ∈ rawOf s, lo ≤ p.1 ∧ p.1 < hi := by
  refine ⟨raw_good h.can h.pos h.mass, ⟨⟨fun _ => ?_, ?_⟩, fun p hp => ?_, ?_⟩, fun p hp => ?_⟩
  · unfold rawOf
    rw [List.map_map]
    have e : s.map (rawC ∘ fun p => (p.1, p.2.num, (p.2.den : Int))) = s.map (·.2) := List.map_congr_left fun p _ => raw_val p
    rw [e]; exact h.ty.fine (by decide)
  · unfold rawOf; rw [List.length_map]; have := h.len; omega
  · obtain ⟨q, hq, rfl⟩ := List.mem_map.mp hp
    exact ⟨(h.ty.v q hq).mono (by decide), (h.ty.qb q hq).num.mono (by decide), (h.ty.qb q hq).den.mono (by decide)⟩
  · unfold rawOf; rw [List.length_map]; exact h.len
  · obtain ⟨q, hq, rfl⟩ := List.mem_map.mp hp
    exact h.val q hq
theorem rawW_g {w : Wt} {n : Int} (h : WtOk n w) : WG (rawW w) n := by
  refine ⟨h.prem, by show (w.lines.map rawOf).length ≤ 3; rw [List.length_map]; exact h.few, fun l hl => ?_, ?_⟩
  · obtain ⟨s, hs, rfl⟩ := List.mem_map.mp hl
    have hg := h.lines s hs
    obtain ⟨a, b, c⟩ := raw_spg hg (by decide)
    exact ⟨⟨a, by have := b.len; omega, fun p hp => by
      have := c p hp
      show (decide (0 ≤ p.1) && decide (p.1 ≤ 1000)) = true
      rw [decide_eq_true this.1, decide_eq_true (show p.1 ≤ 1000 by omega)]; rfl⟩, b⟩
  · obtain ⟨a, b, c⟩ := raw_spg h.turns (by decide)
    exact ⟨⟨a, c⟩, b⟩
theorem rawT_g {t : Tr} (h : TrOk t) (v : TrV t) : TG (rawT t) := by
  refine ⟨rawT_ok v, fun l hl => ?_, ?_, v.prem⟩
  · obtain ⟨x, hx, rfl⟩ := List.mem_map.mp hl
    exact rawL_e (h.ok x hx)
  · show (t.ls.map rawL).length ≤ 4
    rw [List.length_map]; exact v.few
structure HG (h : RHs) : Prop where
  nw : 1 ≤ h.ws.length ∧ h.ws.length ≤ 4
  nt : 1 ≤ h.ts.length ∧ h.ts.length ≤ 4
  ws : ∀ w ∈ h.ws, WG w h.ws.length
  ts : ∀ t ∈ h.ts, TG t
theorem rawH_g {h : Hs} (ok : HsOk h) : HG (rawH h) := by
  have e1 : (h.ws.map rawW).length = h.ws.length := List.length_map _
  have e2 : (h.ts.map rawT).length = h.ts.length := List.length_map _
  refine ⟨by show 1 ≤ (h.ws.map rawW).length ∧ (h.ws.map rawW).length ≤ 4; rw [e1]; exact ok.nw, by show 1 ≤ (h.ts.map rawT).length ∧ (h.ts.map rawT).length ≤ 4; rw [e2]; exact ok.nt, fun w hw => ?_, fun t ht => ?_⟩
  · obtain ⟨x, hx, rfl⟩ := List.mem_map.mp hw
    show WG _ ((h.ws.map rawW).length : Int)
    rw [e1]; exact rawW_g (ok.ws x hx)
  · obtain ⟨x, hx, rfl⟩ := List.mem_map.mp ht
    exact rawT_g (ok.ts x hx).1 (ok.ts x hx).2
theorem HG.ok {h : RHs} (g : HG h) : hsR h := ⟨g.nw, g.nt, fun w hw => (g.ws w hw).ok, fun t ht => (g.ts t ht).ok⟩
theorem HG.pre {h : RHs} (g : HG h) : hsPre h := ⟨fun w hw => (g.ws w hw).sh.pre, fun t ht l hl => by have := ((g.ts t ht).e l hl).few; omega⟩
/-! ### faulty spreads -/
theorem sq_small {t c : Int} (hc : c = 1 ∨ c = 2 ∨ c = 3) (ht : -1000000 ≤ t ∧ t ≤ 1000000) : Sq 6 6000000 (Rat.divInt t c) := by
  have key : ∀ (n m : Nat), 0 < m → n * m = 6 → t.natAbs * m ≤ 6000000 → Sq 6 6000000 (Rat.divInt t (n : Int)) := fun n m hm hn hb => by
    have h := sq_lift m hm (show Sq n t.natAbs (Rat.divInt t (n : Int)) from ⟨t, rfl, Nat.le_refl _⟩)
    rw [hn] at h
    exact sq_mono h hb
  rcases hc with e | e | e <;> subst e
  · exact key 1 6 (by decide) rfl (by omega)
  · exact key 2 3 (by decide) rfl (by omega)
  · exact key 3 2 (by decide) rfl (by omega)
theorem lok {m : Nat} {l : List Rw3} (h : ∀ p ∈ l, (frOk p = true → p.2.2 = 1 ∨ p.2.2 = 2 ∨ p.2.2 = 3) ∧ (-1000000 ≤ p.1 ∧ p.1 ≤ 1000000) ∧ (-1000000 ≤ p.2.1 ∧ p.2.1 ≤ 1000000) ∧ (-1000000 ≤ p.2.2 ∧ p.2.2 ≤ 1000000)) (hl : l.length ≤ m) (hm : m ≤ 40) : LOk m l := by
  have bt : ∀ x : Int, -1000000 ≤ x ∧ x ≤ 1000000 → Bt 1000 x := fun x hx => Bt.mono (n := 30) (bt_range (by omega) (by omega)) (by decide)
  refine ⟨⟨fun hf => ⟨6, 6000000, fin_g (n := 30) (m := 30) (by decide) (by decide) (by decide) (by rw [List.length_map]; omega) (by decide) (by decide), fun r hr => ?_⟩, by omega⟩, fun p hp => ?_, hl⟩
  · obtain ⟨p, hp, rfl⟩ := List.mem_map.mp hr
    exact sq_small ((h p hp).1 (hf p hp)) (h p hp).2.2.1
  · obtain ⟨_, a, b, c⟩ := h p hp
    exact ⟨bt _ a, bt _ b, bt _ c⟩
theorem no_fr {l : List Rw3} {p : Rw3} (hp : p ∈ l) (hf : frOk p = false) : ¬GoodS l := fun z => by rw [z.fr p hp] at hf; cases hf
theorem no_asc {p q : Rw3} {l : List Rw3} (h : q.1 ≤ p.1) : ¬GoodS (p :: q :: l) := fun z => by have := z.asc 0 p q rfl rfl; omega
theorem no_nil : ¬GoodS [] := fun z => by
  have h2 : (0 : Rat) = 1 := z.sum
  exact absurd h2 (by decide)
theorem no_half {v : Int} : ¬GoodS [((v, 1, 2) : Rw3)] := fun z => by
  have h2 : Rat.divInt 1 2 + 0 = 1 := z.sum
  have h3 : Rat.divInt 1 2 = 1 / 2 := by rw [Rat.divInt_eq_div]; rfl
  rw [h3] at h2
  grind
theorem am_bad {l : List Rw3} {p : Rw3} (hp : p ∈ l) (h : p.1 < 0 ∨ 1000 < p.1) : ¬dmOk l := fun z => by
  have := z.2.2 p hp
  rw [am_no h] at this; cases this
theorem dm_good {l : List Rw3} (h : ¬GoodS l) : ¬dmOk l := fun z => h z.1
theorem tu_good {l : List Rw3} {n : Int} (h : ¬GoodS l) : ¬tuOk l n := fun z => h z.1
theorem tu_val {l : List Rw3} {n : Int} {p : Rw3} (hp : p ∈ l) (h : p.1 < 0 ∨ n ≤ p.1) : ¬tuOk l n := fun z => by have := z.2 p hp; omega
theorem fr_low {v t c : Int} (h : t < 1) : frOk (v, t, c) = false := by
  show ((decide (c ≥ 1) && decide (((Nat.gcd t.natAbs c.natAbs : Nat) : Int) = 1)) && !decide (t < 1)) = false
  rw [decide_eq_true h]; simp
theorem fr_neg {v t c : Int} (h : c < 1) : frOk (v, t, c) = false := by
  show ((decide (c ≥ 1) && decide (((Nat.gcd t.natAbs c.natAbs : Nat) : Int) = 1)) && !decide (t < 1)) = false
  rw [decide_eq_false (show ¬c ≥ 1 by omega)]; simp
theorem fr_22 {v : Int} : frOk (v, 2, 2) = false := by
  show ((decide ((2 : Int) ≥ 1) && decide (((Nat.gcd (2 : Int).natAbs (2 : Int).natAbs : Nat) : Int) = 1)) && !decide ((2 : Int) < 1)) = false
  decide
def wrongA : List (List Rw3) := [[], [(0, 1, 2)], [(0, 1, 2), (0, 1, 2)], [(0, 2, 2)], [(1001, 1, 1)], [(-1, 1, 1)], [(1, 1, 2), (0, 1, 2)], [(0, 0, 1), (1, 1, 1)]]
def wrongC (f : Int) : List (List Rw3) := [[(0, 1, 2), (1000 + f, 1, 2)], [(-f, 1, 2), (0, 1, 2)], [(0, 1, 3), (7, 1, 3), (1000 + f, 1, 3)]]
def wrongS (f : Int) (w : List Rw3) : List (List Rw3) := wrongA ++ [w, [(0, 1, 0)]] ++ wrongC f
def turnsA : List (List Rw3) := [[(1, 1, 2), (0, 1, 2)], [(0, 1, 1), (1, 0, 1)], [(0, 3, 2), (1, -1, 2)], [(0, 1, 0)], [(0, -1, 2), (1, 3, 2)]]
def turnsB (n f : Int) : List (List Rw3) := [[], [(0, 1, 2)], [(n, 1, 1)], [(-1, 1, 1)], [(n - 1 + f, 1, 1)], [(0, 2, 2)], [(0, 1, 2), (0, 1, 2)], [(0, 1, 2), (n, 1, 2)]]
theorem l0 {P : Rw3 → Prop} : ∀ x ∈ ([] : List Rw3), P x := fun x hx => by cases hx
theorem l1 {P : Rw3 → Prop} {a : Rw3} {l : List Rw3} (h : P a) (hs : ∀ x ∈ l, P x) : ∀ x ∈ a :: l, P x := fun x hx => by
  rcases List.mem_cons.mp hx with e | e
  · rw [e]; exact h
  · exact hs x e
theorem s0 {P : List Rw3 → Prop} : ∀ x ∈ ([] : List (List Rw3)), P x := fun x hx => by cases hx
theorem s1 {P : List Rw3 → Prop} {a : List Rw3} {l : List (List Rw3)} (h : P a) (hs : ∀ x ∈ l, P x) : ∀ x ∈ a :: l, P x := fun x hx => by
  rcases List.mem_cons.mp hx with e | e
  · rw [e]; exact h
  · exact hs x e
theorem sA {P : List Rw3 → Prop} {a b : List (List Rw3)} (h : ∀ x ∈ a, P x) (hs : ∀ x ∈ b, P x) : ∀ x ∈ a ++ b, P x := fun x hx => (List.mem_append.mp hx).elim (h x) (hs x)
/-- an item's bounds -/
abbrev IB (p : Rw3) : Prop := (frOk p = true → p.2.2 = 1 ∨ p.2.2 = 2 ∨ p.2.2 = 3) ∧ (-1000000 ≤ p.1 ∧ p.1 ≤ 1000000) ∧ (-1000000 ≤ p.2.1 ∧ p.2.1 ≤ 1000000) ∧ (-1000000 ≤ p.2.2 ∧ p.2.2 ≤ 1000000)
theorem ib {v t c : Int} (hc : c = 1 ∨ c = 2 ∨ c = 3) (hv : -1000000 ≤ v ∧ v ≤ 1000000) (ht : -1000000 ≤ t ∧ t ≤ 1000000) : IB (v, t, c) := ⟨fun _ => hc, hv, ht, by show _ ≤ c ∧ c ≤ _; omega⟩
theorem ib0 {v t : Int} (hv : -1000000 ≤ v ∧ v ≤ 1000000) (ht : -1000000 ≤ t ∧ t ≤ 1000000) : IB (v, t, 0) := ⟨fun z => (by rw [fr_neg (by decide)] at z; cases z), hv, ht, by show (-1000000 : Int) ≤ 0 ∧ (0 : Int) ≤ 1000000; decide⟩
theorem wrongS_ok {f : Int} (hf : 1 ≤ f ∧ f ≤ 1000) {w : List Rw3} (hw : ¬dmOk w ∧ LOk 31 w) : ∀ l ∈ wrongS f w, ¬dmOk l ∧ LOk 31 l := by
  unfold wrongS wrongA wrongC
  refine sA (sA ?_ ?_) ?_
  · refine s1 ⟨dm_good no_nil, lok l0 (by decide) (by decide)⟩ (s1 ⟨dm_good no_half, lok (l1 (ib (by decide) (by decide) (by decide)) l0) (by decide) (by decide)⟩ (s1 ⟨dm_good (no_asc (by decide)), lok (l1 (ib (by decide) (by decide) (by decide)) (l1 (ib (by decide) (by decide) (by decide)) l0)) (by decide) (by decide)⟩ (s1 ⟨dm_good (no_fr (List.mem_singleton.mpr rfl) fr_22), lok (l1 (ib (by decide) (by decide) (by decide)) l0) (by decide) (by decide)⟩ (s1 ⟨am_bad (List.mem_singleton.mpr rfl) (by decide), lok (l1 (ib (by decide) (by decide) (by decide)) l0) (by decide) (by decide)⟩ (s1 ⟨am_bad (List.mem_singleton.mpr rfl) (by decide), lok (l1 (ib (by decide) (by decide) (by decide)) l0) (by decide) (by decide)⟩ (s1 ⟨dm_good (no_asc (by decide)), lok (l1 (ib (by decide) (by decide) (by decide)) (l1 (ib (by decide) (by decide) (by decide)) l0)) (by decide) (by decide)⟩ (s1 ⟨dm_good (no_fr List.mem_cons_self (fr_low (by decide))), lok (l1 (ib (by decide) (by decide) (by decide)) (l1 (ib (by decide) (by decide) (by decide)) l0)) (by decide) (by decide)⟩ s0)))))))
  · exact s1 hw (s1 ⟨dm_good (no_fr (List.mem_singleton.mpr rfl) (fr_neg (by decide))), lok (l1 (ib0 (by decide) (by decide)) l0) (by decide) (by decide)⟩ s0)
  · refine s1 ⟨am_bad (p := (1000 + f, 1, 2)) (List.mem_cons_of_mem _ List.mem_cons_self) (by show 1000 + f < 0 ∨ 1000 < 1000 + f; omega), lok (l1 (ib (by decide) (by decide) (by decide)) (l1 (ib (by decide) (by omega) (by decide)) l0)) (by show 2 ≤ 31; decide) (by decide)⟩ (s1 ⟨am_bad (p := (-f, 1, 2)) List.mem_cons_self (by show -f < 0 ∨ 1000 < -f; omega), lok (l1 (ib (by decide) (by omega) (by decide)) (l1 (ib (by decide) (by decide) (by decide)) l0)) (by show 2 ≤ 31; decide) (by decide)⟩ (s1 ⟨am_bad (p := (1000 + f, 1, 3)) (List.mem_cons_of_mem _ (List.mem_cons_of_mem _ List.mem_cons_self)) (by show 1000 + f < 0 ∨ 1000 < 1000 + f; omega), lok (l1 (ib (by decide) (by decide) (by decide)) (l1 (ib (by decide) (by decide) (by decide)) (l1 (ib (by decide) (by omega) (by decide)) l0))) (by show 3 ≤ 31; decide) (by decide)⟩ s0))
theorem turns_ok {n f : Int} (hn : 1 ≤ n ∧ n ≤ 4) (hf : 1 ≤ f ∧ f ≤ 1000) : ∀ l ∈ turnsA ++ turnsB n f, ¬tuOk l n ∧ LOk 4 l := by
  unfold turnsA turnsB
  refine sA ?_ ?_
  · refine s1 ⟨tu_good (no_asc (by decide)), lok (l1 (ib (by decide) (by decide) (by decide)) (l1 (ib (by decide) (by decide) (by decide)) l0)) (by decide) (by decide)⟩ (s1 ⟨tu_good (no_fr (List.mem_cons_of_mem _ List.mem_cons_self) (fr_low (by decide))), lok (l1 (ib (by decide) (by decide) (by decide)) (l1 (ib (by decide) (by decide) (by decide)) l0)) (by decide) (by decide)⟩ (s1 ⟨tu_good (no_fr (List.mem_cons_of_mem _ List.mem_cons_self) (fr_low (by decide))), lok (l1 (ib (by decide) (by decide) (by decide)) (l1 (ib (by decide) (by decide) (by decide)) l0)) (by decide) (by decide)⟩ (s1 ⟨tu_good (no_fr (List.mem_singleton.mpr rfl) (fr_neg (by decide))), lok (l1 (ib0 (by decide) (by decide)) l0) (by decide) (by decide)⟩ (s1 ⟨tu_good (no_fr List.mem_cons_self (fr_low (by decide))), lok (l1 (ib (by decide) (by decide) (by decide)) (l1 (ib (by decide) (by decide) (by decide)) l0)) (by decide) (by decide)⟩ s0))))
  · refine s1 ⟨tu_good no_nil, lok l0 (by decide) (by decide)⟩ (s1 ⟨tu_good no_half, lok (l1 (ib (by decide) (by decide) (by decide)) l0) (by decide) (by decide)⟩ (s1 ⟨tu_val (List.mem_singleton.mpr rfl) (by show n < 0 ∨ n ≤ n; omega), lok (l1 (ib (by decide) (by omega) (by decide)) l0) (by show 1 ≤ 4; decide) (by decide)⟩ (s1 ⟨tu_val (List.mem_singleton.mpr rfl) (by show (-1 : Int) < 0 ∨ n ≤ -1; omega), lok (l1 (ib (by decide) (by decide) (by decide)) l0) (by decide) (by decide)⟩ (s1 ⟨tu_val (List.mem_singleton.mpr rfl) (by show n - 1 + f < 0 ∨ n ≤ n - 1 + f; omega), lok (l1 (ib (by decide) (by omega) (by decide)) l0) (by show 1 ≤ 4; decide) (by decide)⟩ (s1 ⟨tu_good (no_fr (List.mem_singleton.mpr rfl) fr_22), lok (l1 (ib (by decide) (by decide) (by decide)) l0) (by decide) (by decide)⟩ (s1 ⟨tu_good (no_asc (by decide)), lok (l1 (ib (by decide) (by decide) (by decide)) (l1 (ib (by decide) (by decide) (by decide)) l0)) (by decide) (by decide)⟩ (s1 ⟨tu_val (p := (n, 1, 2)) (List.mem_cons_of_mem _ List.mem_cons_self) (by show n < 0 ∨ n ≤ n; omega), lok (l1 (ib (by decide) (by decide) (by decide)) (l1 (ib (by decide) (by omega) (by decide)) l0)) (by show 2 ≤ 4; decide) (by decide)⟩ s0)))))))

end
end KP

namespace KP
open PySem L2 DL MX
section
variable {P : Program} {w : World} {K : PySem.W.Frag} {mg : Str → Option Value} {base : Heap}
/-! ### slices of encoded lists -/
section
variable {α : Type} {fe : α → PyData} {ta tb te tm : TE} {env : EnvD} {n m : Int} {L M : List α} {k j : Nat}
theorem cutD_tail {xs : List D} {a : Nat} : cutD xs (some (a : Int)) none = xs.drop a := by
  unfold cutD
  rw [HT.sIx_nat]
  show (xs.drop (min a xs.length)).take (xs.length - min a xs.length) = _
  by_cases h : a ≤ xs.length
  · rw [Nat.min_eq_left h, List.take_of_length_le (by rw [List.length_drop]; omega)]
  · rw [Nat.min_eq_right (by omega), List.drop_eq_nil_of_le (Nat.le_refl _), List.drop_eq_nil_of_le (by omega), List.take_nil]
theorem en_to (ha : EvL K ta env (L.map fe)) (hi : EvD K te env (.int n)) (hn : n = (k : Int)) : EvN K (tSl (rSlL K) ta tNoPart (tPart te)) env ((L.take k).map fe) :=
  (en_slice ha eo_none (eo_some hi)).is (by rw [hn, cutD_first, List.map_take])
theorem en_from (ha : EvL K ta env (L.map fe)) (hi : EvD K te env (.int n)) (hn : n = (k : Int)) : EvN K (tSl (rSlL K) ta (tPart te) tNoPart) env ((L.drop k).map fe) :=
  (en_slice ha (eo_some hi) eo_none).is (by rw [hn, cutD_tail, List.map_drop])
theorem en_app (ha : EvL K ta env (L.map fe)) (hb : EvL K tb env (M.map fe)) (hl : L.length ≤ 1000 ∧ M.length ≤ 1000) : EvN K (tOp rCat ta tb) env ((L ++ M).map fe) := (en_cat ha hb (by rw [List.length_map, List.length_map]; omega)).is (by rw [List.map_append])
/-- L[:k] + M + L[j:] -/
theorem en_mid (ha : EvL K ta env (L.map fe)) (hi : EvD K te env (.int n)) (hn : n = (k : Int)) (hM : EvL K tm env (M.map fe)) (hj : EvD K tb env (.int m)) (hm : m = (j : Int)) (hl : L.length ≤ 1000 ∧ M.length ≤ 1000) :
    EvN K (tOp rCat (tOp rCat (tSl (rSlL K) ta tNoPart (tPart te)) tm) (tSl (rSlL K) ta (tPart tb) tNoPart)) env ((L.take k ++ M ++ L.drop j).map fe) :=
  (en_cat (en_cat (en_to ha hi hn).l hM (by rw [List.length_map, List.length_map, List.length_take]; omega)).l (en_from ha hj hm).l (by rw [List.length_append, List.length_map, List.length_map, List.length_map, List.length_take, List.length_drop]; omega)).is (by rw [List.map_append, List.map_append])
theorem mem_mid {P : α → Prop} (hL : ∀ p ∈ L, P p) (hM : ∀ p ∈ M, P p) : ∀ p ∈ L.take k ++ M ++ L.drop j, P p := fun p hp => by
  rcases List.mem_append.mp hp with hp | hp
  · rcases List.mem_append.mp hp with hp | hp
    · exact hL p (List.mem_of_mem_take hp)
    · exact hM p hp
  · exact hL p (List.mem_of_mem_drop hp)
theorem len_midF : (L.take k ++ M ++ L.drop j).length ≤ L.length + M.length + L.length := by
  rw [List.length_append, List.length_append, List.length_take, List.length_drop]; omega
end
theorem fmod_nat {x : Int} {n : Nat} (h : 0 < n) : ∃ m : Nat, m < n ∧ x.fmod (n : Int) = (m : Int) := by
  have := fmod_bd (x := x) (y := (n : Int)) (by omega)
  exact ⟨(x.fmod (n : Int)).toNat, by omega, by omega⟩
theorem ed_p2 {env : EnvD} {ta tb : TE} {j k : Int} (hx : EvD K ta env (.int j)) (hy : EvD K tb env (.int k)) : EvD K (tTup (tCons ta (tCons tb tNil))) env (.tuple [.int j, .int k]) := ed_tup (ds := [.int j, .int k]) (ea_d hx (ea_d hy ea_nil))

theorem acc_map {α β : Type} (B : List β) (f : α → β) (g : β → PyData) {l : List α} {i : Nat} {t : α} (h : l[i]? = some t) : (B ++ (l.take (i + 1)).map f).map g = (B ++ (l.take i).map f).map g ++ [g (f t)] := by
  rw [List.take_add_one, h]; simp

section
variable {env : EnvD} {tx ty tz tp ta tb tc td t3 t4 : TE} {i j k i2 j2 k2 i3 j3 k3 : Int}
abbrev R3 := Int × Int × Int
theorem en_r1 (hx : EvD K tx env (.int i)) (hp : EvD K tp env (.tuple [.int j, .int k])) : EvN K (tLst (tCons (tTup (tCons tx (tCons tp tNil))) tNil)) env ([((i, j, k) : R3)].map rawI) :=
  en_lst (ds := [rawI (i, j, k)]) (ea_d (ed_tup (ds := [.int i, .tuple [.int j, .int k]]) (ea_d hx (ea_d hp ea_nil))) ea_nil)
theorem en_r2 (hx : EvD K tx env (.int i)) (hp : EvD K tp env (.tuple [.int j, .int k])) (hy : EvD K ty env (.int i2)) (hq : EvD K tz env (.tuple [.int j2, .int k2])) : EvN K (tLst (tCons (tTup (tCons tx (tCons tp tNil))) (tCons (tTup (tCons ty (tCons tz tNil))) tNil))) env ([((i, j, k) : R3), (i2, j2, k2)].map rawI) :=
  en_lst (ds := [rawI (i, j, k), rawI (i2, j2, k2)]) (ea_d (ed_tup (ds := [.int i, .tuple [.int j, .int k]]) (ea_d hx (ea_d hp ea_nil))) (ea_d (ed_tup (ds := [.int i2, .tuple [.int j2, .int k2]]) (ea_d hy (ea_d hq ea_nil))) ea_nil))
theorem en_r3 (hx : EvD K tx env (.int i)) (hp : EvD K tp env (.tuple [.int j, .int k])) (hy : EvD K ty env (.int i2)) (hq : EvD K tz env (.tuple [.int j2, .int k2])) (hz : EvD K t3 env (.int i3)) (hr : EvD K t4 env (.tuple [.int j3, .int k3])) : EvN K (tLst (tCons (tTup (tCons tx (tCons tp tNil))) (tCons (tTup (tCons ty (tCons tz tNil))) (tCons (tTup (tCons t3 (tCons t4 tNil))) tNil)))) env ([((i, j, k) : R3), (i2, j2, k2), (i3, j3, k3)].map rawI) :=
  en_lst (ds := [rawI (i, j, k), rawI (i2, j2, k2), rawI (i3, j3, k3)]) (ea_d (ed_tup (ds := [.int i, .tuple [.int j, .int k]]) (ea_d hx (ea_d hp ea_nil))) (ea_d (ed_tup (ds := [.int i2, .tuple [.int j2, .int k2]]) (ea_d hy (ea_d hq ea_nil))) (ea_d (ed_tup (ds := [.int i3, .tuple [.int j3, .int k3]]) (ea_d hz (ea_d hr ea_nil))) ea_nil)))
end

/-! ### k08: refusals -/
theorem sc__law_refused : FnScope ["house", "before", "e", "good"] ["house"] (defScope s__law_refused) := ⟨rfl, rfl, rfl, by decide +kernel, rfl, by decide +kernel, by decide +kernel⟩
def sp__law_refused (K : PySem.W.Frag) : Sp := SpD K (fun h : RHs => [.dat (encRH h)]) RfH (fun _ => .bool true)
structure ErrsS (K : PySem.W.Frag) (mg : Str → Option Value) (C C1 C2 C3 : Addr) : Prop where
  eC : ErrC K mg "BadHouse" C
  g1 : mg "CofferError" = some (.ref C1)
  g2 : mg "BadSpread" = some (.ref C2)
  g3 : mg "OutOfRange" = some (.ref C3)
  gv : mg "ValueError" = none
  k1 : PySem.W.kitOne K (.ref C) (.ref C1) = some true
  kv : PySem.W.kitOne K (.ref C) (.type "ValueError") = some true
  k2 : PySem.W.kitAny K (.ref C) [.ref C2, .ref C3] = some false
theorem ok__law_refused {f C C1 C2 C3 : Addr} {fd : FuncData} (F : Fun K "_law_refused" "_law_refused" s__law_refused f fd) (T : ErrsS K mg C C1 C2 C3) (m_isinstance : mg "isinstance" = none) (m_repr : mg "repr" = none) (C_check_house : Callee P w K mg base (L2.CX P w) 7 "check_house" ["house"] (sp_check_house K C)) :
    FnG P w K mg base 8 f fd ["house"] (sp__law_refused K) := by
  have sc := sc__law_refused
  refine fn_GD F sc (fun _ => rfl) fun cdv A outer s H E GD hr => ?_
  refine ⟨_, (pss_cons (ps_set (i := 1) sc.nd rfl (by first | exact Or.inl rfl | exact Or.inr rfl) (pe_callB (id := "repr") (r := rRepr K) (call_repr GD hr.units) (by rfl) m_repr (by decide +kernel) (pa_cons (pv 0) pa_nil)))
    (pss_cons (ps_try_as (i := 2) (Wout := fun _ _ _ _ => False) rfl rfl sc.nd rfl rfl ⟨rfl, by decide, .inl T.eC.g⟩ takes0
    (fun W pn xe tk _ => pss_one (ps_expr (pe_cS C_check_house (hr.mono (by decide)) (fun σ => passAt tk σ) (pa_cons (pv 0) pa_nil))))
    (fun a oe cls d pn hz hf => pss_cons (ps_set (i := 3) sc.nd rfl (by first | exact Or.inl rfl | exact Or.inr rfl) (pe_and (pe_callB (call_isF T.eC.own hz hf) (by rfl) m_isinstance (by decide +kernel) (pa_cons (pv 2) (pa_cons (pe_glob (v := .ref C1) rfl T.g1 rfl) pa_nil)))
      (pe_and (pe_callB (call_isF T.eC.own hz hf) (by rfl) m_isinstance (by decide +kernel) (pa_cons (pv 2) (pa_cons (pe_bltn (v := .ty "ValueError") (by rfl) T.gv (by decide +kernel) rfl) pa_nil)))
      (pe_one (pe_not (pe_callB (call_isFT T.eC.own hz hf) (by rfl) m_isinstance (by decide +kernel) (pa_cons (pv 2) (pa_cons (pe_tup (pa_cons (pe_glob (v := .ref C2) rfl T.g2 rfl) (pa_cons (pe_glob (v := .ref C3) rfl T.g3 rfl) pa_nil))) pa_nil))))))))
      (pss_one (ps_ret (pe_and (pv 3) (pe_one (pe_cmpR op_eq (pe_callB (id := "repr") (r := rRepr K) (call_repr GD hr.units) (by rfl) m_repr (by decide +kernel) (pa_cons (pv 0) pa_nil)) (pv 1) (nomark _))))))))
      (pss_one (ps_ret pe_bl)))), fun l ha => ?_⟩
  have h : RfH l := ha
  refine run_seq (run_set (ed_repr (ed_var 0 rfl).p h.shw)) ?_
  refine run_seqR (run_tryR (x := l) (ea_d (ed_var 0 rfl) ea_nil) rfl h.pre (okO_none h.bad) T.eC.exm fun b => ?_)
  refine run_seq (run_set (ed_andV (ed_isF (c := .ref C1) (cv := .ref C1) rfl (fun _ h => h) T.k1) fun _ => ed_andV (ed_isF (c := .ty "ValueError") (cv := .type "ValueError") rfl (fun _ h => h) T.kv) fun _ => ed_notV (ed_isFT2 rfl (.own _) (.own _) T.k2))) ?_
  exact run_ret ((ed_andV (ed_var 3 rfl) fun _ => ed_eqS (ed_repr (ed_var 0 rfl).p h.shw) (ed_var 1 rfl)).is (by rw [decide_eq_true rfl]; rfl))
/-! ### faulty weathers -/
structure BwA where
  ws : List RWt
  at' : Nat
  f : Int
structure BwOk (a : BwA) : Prop where
  at' : a.at' < a.ws.length
  n4 : a.ws.length ≤ 4
  ws : ∀ w ∈ a.ws, WG w a.ws.length
  f : 1 ≤ a.f ∧ a.f ≤ 1000
def v31 : List Int := (List.range 31).map fun k : Nat => (k : Int)
def w31 : List Rw3 := rawOf (gatF (wtd v31 (List.replicate 31 1)))
theorem wd31 : Wd v31 (List.replicate 31 1) := wd_ones (by decide) (by decide) (by decide)
theorem dm31 : Dm v31 w31 := dm_of wd31 fun v hv => by
  obtain ⟨k, hk, rfl⟩ := List.mem_map.mp hv
  rw [List.mem_range] at hk
  exact Bt.mono (n := 10) (bt_range (by omega) (by omega)) (by decide)
theorem bad31 : ¬dmOk w31 ∧ LOk 31 w31 := by
  refine ⟨fun z => ?_, ⟨dm31.pre, dm31.eb, dm31.len⟩⟩
  have e : v31 = w31.map (·.1) := sorted_eq (by decide) dm31.asc fun v => ⟨fun hv => by
    obtain ⟨p, hp, e⟩ := dm31.all v hv
    exact List.mem_map.mpr ⟨p, hp, e⟩, fun hv => by
    obtain ⟨p, hp, rfl⟩ := List.mem_map.mp hv
    exact dm31.val p hp⟩
  have := congrArg List.length e
  rw [List.length_map] at this
  have h2 := z.2.1
  have h3 : v31.length = 31 := by decide
  omega
def plS (w : RWt) (f : Int) : Nat := (f.fmod (((w.lines.take 2).length + 1 : Nat) : Int)).toNat
def mkL (w : RWt) (f : Int) (one : List Rw3) : RWt := ⟨w.prem, w.lines.take (plS w f) ++ [one] ++ (w.lines.drop (plS w f)).take (2 - plS w f), w.turns⟩
def mkT (w : RWt) (one : List Rw3) : RWt := ⟨w.prem, w.lines, one⟩
def bad0 (w : RWt) (f : Int) : List RWt := [⟨-f, w.lines, w.turns⟩, ⟨1000 + f, w.lines, w.turns⟩, ⟨w.prem, List.replicate (4 + (f.fmod 3).toNat) [(0, 1, 1)], w.turns⟩]
def badW (w : RWt) (n f : Int) : List RWt := bad0 w f ++ (wrongS f w31).map (mkL w f) ++ (turnsA ++ turnsB n f).map (mkT w)
def badHs (a : BwA) (w : RWt) : List (List RWt) := (badW w a.ws.length a.f).map fun b => a.ws.take a.at' ++ [b] ++ a.ws.drop (a.at' + 1)
theorem pl_ok : dmOk [((0, 1, 1) : Rw3)] ∧ LOk 31 [((0, 1, 1) : Rw3)] := by
  have h := one_dm (v := 0) (Bt.zero 40)
  exact ⟨h.ok (by decide) (by decide), ⟨h.pre, h.eb, by decide⟩⟩
theorem plS_le (w : RWt) (f : Int) : plS w f ≤ (w.lines.take 2).length ∧ f.fmod (((w.lines.take 2).length + 1 : Nat) : Int) = (plS w f : Int) := by
  obtain ⟨m, h1, h2⟩ := fmod_nat (x := f) (n := (w.lines.take 2).length + 1) (by omega)
  unfold plS
  rw [h2, Int.toNat_natCast]
  exact ⟨by omega, rfl⟩
theorem badW_ok {w : RWt} {n f : Int} (g : WG w n) (hn : 1 ≤ n ∧ n ≤ 4) (hf : 1 ≤ f ∧ f ≤ 1000) : ∀ b ∈ badW w n f, ¬wtR b n ∧ ShW b := fun b hb => by
  have sh := g.sh
  unfold badW at hb
  rcases List.mem_append.mp hb with hb | hb
  · rcases List.mem_append.mp hb with hb | hb
    · unfold bad0 at hb
      simp only [List.mem_cons, List.not_mem_nil, or_false] at hb
      rcases hb with e | e | e <;> rw [e]
      · exact ⟨fun z => (by have h := z.prem; rw [am_no (.inl (by show -f < 0; omega))] at h; cases h), ⟨bt_s (by show _ ≤ -f ∧ -f ≤ _; omega), sh.few, sh.lines, sh.turns⟩⟩
      · exact ⟨fun z => (by have h := z.prem; rw [am_no (.inr (by show 1000 < 1000 + f; omega))] at h; cases h), ⟨bt_s (by show _ ≤ 1000 + f ∧ 1000 + f ≤ _; omega), sh.few, sh.lines, sh.turns⟩⟩
      · obtain ⟨m, h1, h2⟩ := fmod_nat (x := f) (n := 3) (by decide)
        have h2 : f.fmod 3 = (m : Int) := h2
        refine ⟨fun z => ?_, ⟨sh.prem, ?_, fun l hl => ?_, sh.turns⟩⟩
        · have h := z.few
          have h3 : (List.replicate (4 + (f.fmod 3).toNat) [((0, 1, 1) : Rw3)]).length ≤ 3 := h
          rw [List.length_replicate] at h3; omega
        · show (List.replicate (4 + (f.fmod 3).toNat) [((0, 1, 1) : Rw3)]).length ≤ 6
          rw [List.length_replicate]; omega
        · rw [(List.mem_replicate.mp hl).2]; exact pl_ok.2
    · obtain ⟨one, h1, rfl⟩ := List.mem_map.mp hb
      obtain ⟨h2, h3⟩ := wrongS_ok hf bad31 one h1
      refine ⟨fun z => h2 (z.lines one (List.mem_append_left _ (List.mem_append_right _ (List.mem_singleton.mpr rfl)))), ⟨sh.prem, ?_, fun l hl => ?_, sh.turns⟩⟩
      · show (w.lines.take (plS w f) ++ [one] ++ (w.lines.drop (plS w f)).take (2 - plS w f)).length ≤ 6
        rw [List.length_append, List.length_append, List.length_take, List.length_take, List.length_singleton]
        have := g.few
        omega
      · rcases List.mem_append.mp hl with hl | hl
        · rcases List.mem_append.mp hl with hl | hl
          · exact sh.lines l (List.mem_of_mem_take hl)
          · rw [List.mem_singleton] at hl; rw [hl]; exact h3
        · exact sh.lines l (List.mem_of_mem_drop (List.mem_of_mem_take hl))
  · obtain ⟨one, h1, rfl⟩ := List.mem_map.mp hb
    obtain ⟨h2, h3⟩ := turns_ok hn hf one h1
    exact ⟨fun z => h2 z.turns, ⟨sh.prem, sh.few, sh.lines, h3⟩⟩
def wB (a : BwA) : RWt := a.ws.getD a.at' ⟨0, [], []⟩
theorem wB_at {a : BwA} (h : a.at' < a.ws.length) : a.ws[a.at']? = some (wB a) := by
  unfold wB
  rw [List.getD_eq_getElem?_getD, List.getElem?_eq_getElem h, Option.getD_some]
theorem sc__law_bad_weathers : FnScope ["weathers", "at", "far", "premium", "lines", "turns", "count", "plain", "wrong", "bad", "one", "place", "turns_bad", "k"] ["weathers", "at", "far"] (defScope s__law_bad_weathers) := ⟨rfl, rfl, rfl, by decide +kernel, rfl, by decide +kernel, by decide +kernel⟩
def sp__law_bad_weathers (K : PySem.W.Frag) : Sp := SpN K (fun a : BwA => [.dat (.list (a.ws.map encRW)), .dat (.int (a.at' : Int)), .dat (.int a.f)]) BwOk (fun a => (badHs a (wB a)).map fun ws => .list (ws.map encRW))
theorem ok__law_bad_weathers {f : Addr} {fd : FuncData} (F : Fun K "_law_bad_weathers" "_law_bad_weathers" s__law_bad_weathers f fd) (m_len : mg "len" = none) (m_int : mg "int" = none) (m_range : mg "range" = none) (C__law_weighted : Callee P w K mg base CX0 5 "_law_weighted" ["values", "weights"] (sp__law_weighted K)) :
    FnOk P w K mg base CX0 6 f fd ["weathers", "at", "far"] (sp__law_bad_weathers K) := by
  have sc := sc__law_bad_weathers
  refine fn_N F sc (fun _ => rfl) fun cdv A outer s H E hr => ?_
  refine ⟨_, (pss_cons (ps_asg (pe_ix (r := rIxL K) ix_list (pv 0) (pv 1) (fun _ _ => rfl)) (pg_tup rfl (pgs_cons (pg_name (i := 3) sc.nd rfl (by first | exact Or.inl rfl | exact Or.inr rfl)) (pgs_cons (pg_name (i := 4) sc.nd rfl (by first | exact Or.inl rfl | exact Or.inr rfl)) (pgs_cons (pg_name (i := 5) sc.nd rfl (by first | exact Or.inl rfl | exact Or.inr rfl)) pgs_nil)))))
      (pss_cons (ps_set (i := 6) sc.nd rfl (by first | exact Or.inl rfl | exact Or.inr rfl) (pe_callB (id := "len") (r := rLenS K) call_len_seq (by rfl) m_len PySem.boot_len (pa_cons (pv 0) pa_nil)))
      (pss_cons (ps_set (i := 7) sc.nd rfl (by first | exact Or.inl rfl | exact Or.inr rfl) (pe_lst (pa_cons (pe_tup (pa_cons pe_int (pa_cons (pe_tup (pa_cons pe_int (pa_cons pe_int pa_nil))) pa_nil))) pa_nil)))
      (pss_cons (ps_set (i := 8) sc.nd rfl (by first | exact Or.inl rfl | exact Or.inr rfl) (pe_lst (pa_cons (pe_lst pa_nil) (pa_cons (pe_lst (pa_cons (pe_tup (pa_cons pe_int (pa_cons (pe_tup (pa_cons pe_int (pa_cons pe_int pa_nil))) pa_nil))) pa_nil)) (pa_cons (pe_lst (pa_cons (pe_tup (pa_cons pe_int (pa_cons (pe_tup (pa_cons pe_int (pa_cons pe_int pa_nil))) pa_nil))) (pa_cons (pe_tup (pa_cons pe_int (pa_cons (pe_tup (pa_cons pe_int (pa_cons pe_int pa_nil))) pa_nil))) pa_nil))) (pa_cons (pe_lst (pa_cons (pe_tup (pa_cons pe_int (pa_cons (pe_tup (pa_cons pe_int (pa_cons pe_int pa_nil))) pa_nil))) pa_nil)) (pa_cons (pe_lst (pa_cons (pe_tup (pa_cons pe_int (pa_cons (pe_tup (pa_cons pe_int (pa_cons pe_int pa_nil))) pa_nil))) pa_nil)) (pa_cons (pe_lst (pa_cons (pe_tup (pa_cons (pe_un un_neg pe_int) (pa_cons (pe_tup (pa_cons pe_int (pa_cons pe_int pa_nil))) pa_nil))) pa_nil)) (pa_cons (pe_lst (pa_cons (pe_tup (pa_cons pe_int (pa_cons (pe_tup (pa_cons pe_int (pa_cons pe_int pa_nil))) pa_nil))) (pa_cons (pe_tup (pa_cons pe_int (pa_cons (pe_tup (pa_cons pe_int (pa_cons pe_int pa_nil))) pa_nil))) pa_nil))) (pa_cons (pe_lst (pa_cons (pe_tup (pa_cons pe_int (pa_cons (pe_tup (pa_cons pe_int (pa_cons pe_int pa_nil))) pa_nil))) (pa_cons (pe_tup (pa_cons pe_int (pa_cons (pe_tup (pa_cons pe_int (pa_cons pe_int pa_nil))) pa_nil))) pa_nil))) pa_nil))))))))))
      (pss_cons (ps_set (i := 8) sc.nd rfl (by first | exact Or.inl rfl | exact Or.inr rfl) (pe_op op_cat (pv 8) (pe_lst (pa_cons (pe_c C__law_weighted (hr.mono (by decide)) pass0 (pa_cons (pe_lc (own := [("k", 13)]) rfl sc.nd (pi_range1 (by rfl) m_range (pa_cons pe_int pa_nil)) (blkOk_by (own := [("k", 13)]) (N := ["weathers", "at", "far", "premium", "lines", "turns", "count", "plain", "wrong", "bad", "one", "place", "turns_bad", "k"]) (sc := defScope s__law_bad_weathers) (by decide +kernel)) (fun _ _ _ _ _ => (pg_name (i := 13) sc.nd rfl (Or.inl rfl))) (fun _ _ _ _ _ => pts_nil) (fun _ _ _ _ _ => (pv 13))) (pa_cons (pe_op op_rep (pe_lst (pa_cons pe_int pa_nil)) pe_int) pa_nil))) (pa_cons (pe_lst (pa_cons (pe_tup (pa_cons pe_int (pa_cons (pe_tup (pa_cons pe_int (pa_cons pe_int pa_nil))) pa_nil))) pa_nil)) pa_nil)))))
      (pss_cons (ps_set (i := 8) sc.nd rfl (by first | exact Or.inl rfl | exact Or.inr rfl) (pe_op op_cat (pv 8) (pe_lst (pa_cons (pe_lst (pa_cons (pe_tup (pa_cons pe_int (pa_cons (pe_tup (pa_cons pe_int (pa_cons pe_int pa_nil))) pa_nil))) (pa_cons (pe_tup (pa_cons (pe_op op_add pe_int (pv 2)) (pa_cons (pe_tup (pa_cons pe_int (pa_cons pe_int pa_nil))) pa_nil))) pa_nil))) (pa_cons (pe_lst (pa_cons (pe_tup (pa_cons (pe_un un_neg (pv 2)) (pa_cons (pe_tup (pa_cons pe_int (pa_cons pe_int pa_nil))) pa_nil))) (pa_cons (pe_tup (pa_cons pe_int (pa_cons (pe_tup (pa_cons pe_int (pa_cons pe_int pa_nil))) pa_nil))) pa_nil))) (pa_cons (pe_lst (pa_cons (pe_tup (pa_cons pe_int (pa_cons (pe_tup (pa_cons pe_int (pa_cons pe_int pa_nil))) pa_nil))) (pa_cons (pe_tup (pa_cons pe_int (pa_cons (pe_tup (pa_cons pe_int (pa_cons pe_int pa_nil))) pa_nil))) (pa_cons (pe_tup (pa_cons (pe_op op_add pe_int (pv 2)) (pa_cons (pe_tup (pa_cons pe_int (pa_cons pe_int pa_nil))) pa_nil))) pa_nil)))) pa_nil))))))
      (pss_cons (ps_set (i := 9) sc.nd rfl (by first | exact Or.inl rfl | exact Or.inr rfl) (pe_lst (pa_cons (pe_tup (pa_cons (pe_un un_neg (pv 2)) (pa_cons (pv 4) (pa_cons (pv 5) pa_nil)))) (pa_cons (pe_tup (pa_cons (pe_op op_add pe_int (pv 2)) (pa_cons (pv 4) (pa_cons (pv 5) pa_nil)))) (pa_cons (pe_tup (pa_cons (pv 3) (pa_cons (pe_op op_rep (pe_lst (pa_cons (pv 7) pa_nil)) (pe_op op_add pe_int (pe_op op_modN (pe_callTy (T := "int") call_int1 (by rfl) m_int (by decide +kernel) (pa_cons (pv 2) pa_nil)) pe_int))) (pa_cons (pv 5) pa_nil)))) pa_nil)))))
      (pss_cons (ps_for PassesOwn.never rfl (pi_list (pv 8)) (pg_name (i := 10) sc.nd rfl (by first | exact Or.inl rfl | exact Or.inr rfl)) (pss_cons (ps_set (i := 11) sc.nd rfl (by first | exact Or.inl rfl | exact Or.inr rfl) (pe_op op_modN (pe_callTy (T := "int") call_int1 (by rfl) m_int (by decide +kernel) (pa_cons (pv 2) pa_nil)) (pe_op op_add (pe_callB (id := "len") (r := rLenS K) call_len_seq (by rfl) m_len PySem.boot_len (pa_cons (pe_slice (r := rSlL K) sl_list (pv 4) po_none (po_some pe_int)) pa_nil)) pe_int)))
      (pss_one (ps_expr (pe_bm PySem.F.plainAttrs_list PySem.F.slot_list_append PySem.F.type_list_append mt_append (pv 9) (pa_cons (pe_tup (pa_cons (pv 3) (pa_cons (pe_op op_cat (pe_op op_cat (pe_slice (r := rSlL K) sl_list (pv 4) po_none (po_some (pv 11))) (pe_lst (pa_cons (pv 10) pa_nil))) (pe_slice (r := rSlL K) sl_list (pv 4) (po_some (pv 11)) (po_some pe_int))) (pa_cons (pv 5) pa_nil)))) pa_nil))))))
      (pss_cons (ps_set (i := 12) sc.nd rfl (by first | exact Or.inl rfl | exact Or.inr rfl) (pe_lst (pa_cons (pe_lst (pa_cons (pe_tup (pa_cons pe_int (pa_cons (pe_tup (pa_cons pe_int (pa_cons pe_int pa_nil))) pa_nil))) (pa_cons (pe_tup (pa_cons pe_int (pa_cons (pe_tup (pa_cons pe_int (pa_cons pe_int pa_nil))) pa_nil))) pa_nil))) (pa_cons (pe_lst (pa_cons (pe_tup (pa_cons pe_int (pa_cons (pe_tup (pa_cons pe_int (pa_cons pe_int pa_nil))) pa_nil))) (pa_cons (pe_tup (pa_cons pe_int (pa_cons (pe_tup (pa_cons pe_int (pa_cons pe_int pa_nil))) pa_nil))) pa_nil))) (pa_cons (pe_lst (pa_cons (pe_tup (pa_cons pe_int (pa_cons (pe_tup (pa_cons pe_int (pa_cons pe_int pa_nil))) pa_nil))) (pa_cons (pe_tup (pa_cons pe_int (pa_cons (pe_tup (pa_cons (pe_un un_neg pe_int) (pa_cons pe_int pa_nil))) pa_nil))) pa_nil))) (pa_cons (pe_lst (pa_cons (pe_tup (pa_cons pe_int (pa_cons (pe_tup (pa_cons pe_int (pa_cons pe_int pa_nil))) pa_nil))) pa_nil)) (pa_cons (pe_lst (pa_cons (pe_tup (pa_cons pe_int (pa_cons (pe_tup (pa_cons (pe_un un_neg pe_int) (pa_cons pe_int pa_nil))) pa_nil))) (pa_cons (pe_tup (pa_cons pe_int (pa_cons (pe_tup (pa_cons pe_int (pa_cons pe_int pa_nil))) pa_nil))) pa_nil))) pa_nil)))))))
      (pss_cons (ps_for PassesOwn.never rfl (pi_list (pe_op op_cat (pv 12) (pe_lst (pa_cons (pe_lst pa_nil) (pa_cons (pe_lst (pa_cons (pe_tup (pa_cons pe_int (pa_cons (pe_tup (pa_cons pe_int (pa_cons pe_int pa_nil))) pa_nil))) pa_nil)) (pa_cons (pe_lst (pa_cons (pe_tup (pa_cons (pv 6) (pa_cons (pe_tup (pa_cons pe_int (pa_cons pe_int pa_nil))) pa_nil))) pa_nil)) (pa_cons (pe_lst (pa_cons (pe_tup (pa_cons (pe_un un_neg pe_int) (pa_cons (pe_tup (pa_cons pe_int (pa_cons pe_int pa_nil))) pa_nil))) pa_nil)) (pa_cons (pe_lst (pa_cons (pe_tup (pa_cons (pe_op op_add (pe_op op_sub (pv 6) pe_int) (pv 2)) (pa_cons (pe_tup (pa_cons pe_int (pa_cons pe_int pa_nil))) pa_nil))) pa_nil)) (pa_cons (pe_lst (pa_cons (pe_tup (pa_cons pe_int (pa_cons (pe_tup (pa_cons pe_int (pa_cons pe_int pa_nil))) pa_nil))) pa_nil)) (pa_cons (pe_lst (pa_cons (pe_tup (pa_cons pe_int (pa_cons (pe_tup (pa_cons pe_int (pa_cons pe_int pa_nil))) pa_nil))) (pa_cons (pe_tup (pa_cons pe_int (pa_cons (pe_tup (pa_cons pe_int (pa_cons pe_int pa_nil))) pa_nil))) pa_nil))) (pa_cons (pe_lst (pa_cons (pe_tup (pa_cons pe_int (pa_cons (pe_tup (pa_cons pe_int (pa_cons pe_int pa_nil))) pa_nil))) (pa_cons (pe_tup (pa_cons (pv 6) (pa_cons (pe_tup (pa_cons pe_int (pa_cons pe_int pa_nil))) pa_nil))) pa_nil))) pa_nil))))))))))) (pg_name (i := 10) sc.nd rfl (by first | exact Or.inl rfl | exact Or.inr rfl)) (pss_one (ps_expr (pe_bm PySem.F.plainAttrs_list PySem.F.slot_list_append PySem.F.type_list_append mt_append (pv 9) (pa_cons (pe_tup (pa_cons (pv 3) (pa_cons (pv 4) (pa_cons (pv 10) pa_nil)))) pa_nil)))))
      (pss_one (ps_ret (pe_lc (own := [("one", 10)]) rfl sc.nd (pi_list (pv 9)) (blkOk_by (own := [("one", 10)]) (N := ["weathers", "at", "far", "premium", "lines", "turns", "count", "plain", "wrong", "bad", "one", "place", "turns_bad", "k"]) (sc := defScope s__law_bad_weathers) (by decide +kernel)) (fun _ _ _ _ _ => (pg_name (i := 10) sc.nd rfl (Or.inl rfl))) (fun _ _ _ _ _ => pts_nil) (fun _ _ _ _ _ => (pe_op op_cat (pe_op op_cat (pe_slice (r := rSlL K) sl_list (pv 0) po_none (po_some (pv 1))) (pe_lst (pa_cons (pv 10) pa_nil))) (pe_slice (r := rSlL K) sl_list (pv 0) (po_some (pe_op op_add (pv 1) pe_int)) po_none)))))))))))))))), fun a ha => ?_⟩
  have hat := wB_at ha.at'
  have g := ha.ws _ (List.mem_of_getElem? hat)
  obtain ⟨ws, at', f0⟩ := a
  obtain ⟨h1, h4, _, hF⟩ := ha
  have h1 : at' < ws.length := h1
  have h4 : ws.length ≤ 4 := h4
  have hF : 1 ≤ f0 ∧ f0 ≤ 1000 := hF
  have hat : ws[at']? = some (wB ⟨ws, at', f0⟩) := hat
  show Run K E _ [.dat (.list (ws.map encRW)), .dat (.int (at' : Int)), .dat (.int f0), .un, .un, .un, .un, .un, .un, .un, .un, .un, .un, .un] (.rn ((badHs ⟨ws, at', f0⟩ (wB ⟨ws, at', f0⟩)).map fun ws => .list (ws.map encRW)))
  generalize wB ⟨ws, at', f0⟩ = W at hat g ⊢
  obtain ⟨pr, ls, tu⟩ := W
  have hfew : ls.length ≤ 3 := g.few
  obtain ⟨pl, hpl, hple, hplE⟩ : ∃ pl : Nat, plS ⟨pr, ls, tu⟩ f0 = pl ∧ pl ≤ (ls.take 2).length ∧ f0.fmod (((ls.take 2).length + 1 : Nat) : Int) = (pl : Int) := ⟨_, rfl, plS_le ⟨pr, ls, tu⟩ f0⟩
  obtain ⟨m3, hm3, hm3E⟩ := fmod_nat (x := f0) (n := 3) (by decide)
  have hm3E : f0.fmod 3 = (m3 : Int) := hm3E
  refine run_seq (run_asg (ts := [3, 4, 5]) (d := encRW ⟨pr, ls, tu⟩) (ed_ixl (ed_var 0 rfl).l (ed_var 1 rfl) (atI_int (by omega) (by rw [Int.toNat_natCast, List.getElem?_map, hat]; rfl))) (eg_tup (egs_cons (eg_name (by decide)) (egs_cons (eg_name (by decide)) (egs_cons (eg_name (by decide)) egs_nil))) rfl)) ?_
  refine run_seq (run_set ((ed_lenl (ed_var 0 rfl).l).is (d' := .int (ws.length : Int)) (by rw [List.length_map]))) ?_
  have I : ∀ (ev : EnvD) (i : Int), EvD K (tC (.int i)) ev (.int i) := fun ev i => ed_int i
  refine run_seq (run_setN (en_r1 (ed_int 0) (ed_p2 (ed_int 1) (ed_int 1)))) (run_pub 7 rfl ?_)
  -- wrong
  refine run_seq (run_setN (en_lst (ds := [encSp [], encSp [(0, 1, 2)], encSp [(0, 1, 2), (0, 1, 2)], encSp [(0, 2, 2)], encSp [(1001, 1, 1)], encSp [(-1, 1, 1)], encSp [(1, 1, 2), (0, 1, 2)], encSp [(0, 0, 1), (1, 1, 1)]]) (ea_d (en_lst (ds := []) ea_nil).d (ea_d (en_r1 (ed_int 0) (ed_p2 (ed_int 1) (ed_int 2))).d (ea_d (en_r2 (ed_int 0) (ed_p2 (ed_int 1) (ed_int 2)) (ed_int 0) (ed_p2 (ed_int 1) (ed_int 2))).d (ea_d (en_r1 (ed_int 0) (ed_p2 (ed_int 2) (ed_int 2))).d (ea_d (en_r1 (ed_int 1001) (ed_p2 (ed_int 1) (ed_int 1))).d (ea_d (en_r1 (ed_neg (ed_int 1)) (ed_p2 (ed_int 1) (ed_int 1))).d (ea_d (en_r2 (ed_int 1) (ed_p2 (ed_int 1) (ed_int 2)) (ed_int 0) (ed_p2 (ed_int 1) (ed_int 2))).d (ea_d (en_r2 (ed_int 0) (ed_p2 (ed_int 0) (ed_int 1)) (ed_int 1) (ed_p2 (ed_int 1) (ed_int 1))).d ea_nil)))))))))) ?_
  have e31 : ((List.range 31).map fun k : Nat => PyData.int (k : Int)) = v31.map PyData.int := by unfold v31; rw [List.map_map]; rfl
  have hw31 : PyData.list ((gatF (wtd v31 (List.replicate 31 1))).map encI) = encSp w31 := raw_data _
  refine run_seq (run_setN (en_app (fe := encSp) (L := wrongA) (M := [w31, [(0, 1, 0)]]) (el_var 8 rfl) (en_lst (ds := [encSp w31, encSp [(0, 1, 0)]]) (ea_d ((en_call (x := (v31, List.replicate 31 1)) (ea_d ((en_lc (ei_is (ei_rng1 (ed_int 31) (by decide)) (rng_map 31)) (ts := [13]) (by decide) (lc_map (xs := List.range 31) (fun j : Nat => PyData.int (j : Int)) (fun k => PyData.int (k : Int)) fun j hj => ⟨_, eg_name (by decide), et_yes, ed_var 13 rfl⟩) (by decide)).is e31).d (ea_d ((en_rep (en_lst (ds := [.int 1]) (ea_d (ed_int 1) ea_nil)).l (ed_int 31) (by decide)).is (d' := (List.replicate 31 (1 : Int)).map PyData.int) (by rw [rep_one, List.map_replicate]; rfl)).d ea_nil)) rfl wd31).d.is hw31) (ea_d (en_r1 (ed_int 0) (ed_p2 (ed_int 1) (ed_int 0))).d ea_nil))).l (by decide))) ?_
  refine run_seq (run_setN (en_app (fe := encSp) (L := wrongA ++ [w31, [(0, 1, 0)]]) (M := wrongC f0) (el_var 8 rfl) (en_lst (ds := [encSp [(0, 1, 2), (1000 + f0, 1, 2)], encSp [(-f0, 1, 2), (0, 1, 2)], encSp [(0, 1, 3), (7, 1, 3), (1000 + f0, 1, 3)]]) (ea_d (en_r2 (ed_int 0) (ed_p2 (ed_int 1) (ed_int 2)) (ed_I0 (ed_int 1000) (ed_var 2 rfl)) (ed_p2 (ed_int 1) (ed_int 2))).d (ea_d (en_r2 (ed_neg (ed_var 2 rfl)) (ed_p2 (ed_int 1) (ed_int 2)) (ed_int 0) (ed_p2 (ed_int 1) (ed_int 2))).d (ea_d (en_r3 (ed_int 0) (ed_p2 (ed_int 1) (ed_int 3)) (ed_int 7) (ed_p2 (ed_int 1) (ed_int 3)) (ed_I0 (ed_int 1000) (ed_var 2 rfl)) (ed_p2 (ed_int 1) (ed_int 3))).d ea_nil)))).l (by show 10 ≤ 1000 ∧ 3 ≤ 1000; decide))) (run_pub 8 rfl ?_)
  refine run_seq (run_setN (en_lst (ds := [encRW ⟨-f0, ls, tu⟩, encRW ⟨1000 + f0, ls, tu⟩, encRW ⟨pr, List.replicate (4 + m3) [(0, 1, 1)], tu⟩]) (ea_d (ed_tup (ds := [.int (-f0), .list (ls.map encSp), encSp tu]) (ea_d (ed_neg (ed_var 2 rfl)) (ea_d (ed_var 4 rfl) (ea_d (ed_var 5 rfl) ea_nil)))) (ea_d (ed_tup (ds := [.int (1000 + f0), .list (ls.map encSp), encSp tu]) (ea_d (ed_I0 (ed_int 1000) (ed_var 2 rfl)) (ea_d (ed_var 4 rfl) (ea_d (ed_var 5 rfl) ea_nil)))) (ea_d (ed_tup (ds := [.int pr, .list ((List.replicate (4 + m3) [((0, 1, 1) : Rw3)]).map encSp), encSp tu]) (ea_d (ed_var 3 rfl) (ea_d ((en_rep (en_lst (ds := [encSp [(0, 1, 1)]]) (ea_d (ed_var 7 rfl) ea_nil)).l (ed_I0 (ed_int 4) ((ed_I (ed_int1 (ed_var 2 rfl)) (ed_int 3) (by decide)).is (congrArg PyData.int hm3E))) (by show 1 * (4 + (m3 : Int)).toNat ≤ 1000000 ∧ _; omega)).is (by rw [rep_one, List.map_replicate, show (4 + (m3 : Int)).toNat = 4 + m3 by omega])).d (ea_d (ed_var 5 rfl) ea_nil)))) ea_nil))))) ?_
  have eB0 : bad0 ⟨pr, ls, tu⟩ f0 = [⟨-f0, ls, tu⟩, ⟨1000 + f0, ls, tu⟩, ⟨pr, List.replicate (4 + m3) [(0, 1, 1)], tu⟩] := by unfold bad0; rw [hm3E]; rfl
  refine run_seq (run_for (ts := [10]) (ds := (wrongS f0 w31).map encSp) (fun i => [.dat (.list (ws.map encRW)), .dat (.int (at' : Int)), .dat (.int f0), .dat (.int pr), .dat (.list (ls.map encSp)), .dat (encSp tu), .dat (.int (ws.length : Int)), .un, .un, .ml ((bad0 ⟨pr, ls, tu⟩ f0 ++ ((wrongS f0 w31).take i).map (mkL ⟨pr, ls, tu⟩ f0)).map encRW), .un, .un, .un, .un]) (ei_list (ed_var 8 rfl)) (by rw [List.take_zero, List.map_nil, List.append_nil, eB0]; exact (.eq (.eq (.eq (.eq (.eq (.eq (.eq (.un (.un (.eq (.un (.un (.un (.un .nil))))))))))))))) (fun i d hi hd => ⟨_, eg_name (by decide), ?_⟩)) ?_
  · rw [List.getElem?_map] at hd
    obtain ⟨one, ho, rfl⟩ := Option.map_eq_some_iff.mp hd
    rw [List.length_map] at hi
    have hi : i < 13 := hi
    rw [acc_map (bad0 ⟨pr, ls, tu⟩ f0) (mkL ⟨pr, ls, tu⟩ f0) encRW ho]
    have hlen : ((bad0 ⟨pr, ls, tu⟩ f0 ++ ((wrongS f0 w31).take i).map (mkL ⟨pr, ls, tu⟩ f0)).map encRW).length ≤ 100 := by rw [List.length_map, List.length_append, List.length_map, List.length_take]; show 3 + _ ≤ 100; omega
    generalize (bad0 ⟨pr, ls, tu⟩ f0 ++ ((wrongS f0 w31).take i).map (mkL ⟨pr, ls, tu⟩ f0)).map encRW = B' at hlen ⊢
    have eM : encRW (mkL ⟨pr, ls, tu⟩ f0 one) = .tuple [.int pr, .list ((ls.take pl ++ [one] ++ (ls.drop pl).take (2 - pl)).map encSp), encSp tu] := by
      show PyData.tuple [_, .list ((ls.take (plS ⟨pr, ls, tu⟩ f0) ++ [one] ++ (ls.drop (plS ⟨pr, ls, tu⟩ f0)).take (2 - plS ⟨pr, ls, tu⟩ f0)).map encSp), _] = _
      rw [hpl]; rfl
    rw [eM]
    have hpl2 : pl ≤ 2 := by rw [List.length_take] at hple; omega
    refine .n (run_seq (run_set ((ed_I (ed_int1 (ed_var 2 rfl)) (ed_I0 (ed_lenl (en_to (fe := encSp) (L := ls) (k := 2) (ed_var 4 rfl).l (ed_int 2) rfl).l) (ed_int 1)) (by rw [List.length_map]; omega)).is (d' := .int (pl : Int)) (by rw [List.length_map, show (((ls.take 2).length : Int) + 1) = (((ls.take 2).length + 1 : Nat) : Int) by omega, hplE]))) (run_append (i := 9) rfl (ed_tup (ds := [.int pr, .list ((ls.take pl ++ [one] ++ (ls.drop pl).take (2 - pl)).map encSp), encSp tu]) (ea_d (ed_var 3 rfl) (ea_d ((en_cat (en_cat (en_to (fe := encSp) (L := ls) (k := pl) (ed_var 4 rfl).l (ed_var 11 rfl) rfl).l (en_lst (ds := [encSp one]) (ea_d (ed_var 10 rfl) ea_nil)).l (by rw [List.length_map, List.length_take]; show _ + 1 ≤ 1000000; omega)).l ((en_slice (ed_var 4 rfl).l (eo_some (ed_var 11 rfl)) (eo_some (ed_int 2))).is (d' := ((ls.drop pl).take (2 - pl)).map encSp) (by rw [show (2 : Int) = ((2 : Nat) : Int) from rfl, cutD_min hpl2, List.map_take, List.map_drop])).l (by rw [List.length_append, List.length_map, List.length_map, List.length_take, List.length_take]; show _ + 1 + _ ≤ 1000000; omega)).is (by rw [List.map_append, List.map_append]; rfl)).d (ea_d (ed_var 5 rfl) ea_nil)))) (by omega))) (.eq (.eq (.eq (.eq (.eq (.eq (.eq (.un (.un (.eq (.un (.un (.un (.un .nil))))))))))))))
  rw [List.length_map, List.take_length]
  refine run_seq (run_setN (en_lst (ds := [encSp [(1, 1, 2), (0, 1, 2)], encSp [(0, 1, 1), (1, 0, 1)], encSp [(0, 3, 2), (1, -1, 2)], encSp [(0, 1, 0)], encSp [(0, -1, 2), (1, 3, 2)]]) (ea_d (en_r2 (ed_int 1) (ed_p2 (ed_int 1) (ed_int 2)) (ed_int 0) (ed_p2 (ed_int 1) (ed_int 2))).d (ea_d (en_r2 (ed_int 0) (ed_p2 (ed_int 1) (ed_int 1)) (ed_int 1) (ed_p2 (ed_int 0) (ed_int 1))).d (ea_d (en_r2 (ed_int 0) (ed_p2 (ed_int 3) (ed_int 2)) (ed_int 1) (ed_p2 (ed_neg (ed_int 1)) (ed_int 2))).d (ea_d (en_r1 (ed_int 0) (ed_p2 (ed_int 1) (ed_int 0))).d (ea_d (en_r2 (ed_int 0) (ed_p2 (ed_neg (ed_int 1)) (ed_int 2)) (ed_int 1) (ed_p2 (ed_int 3) (ed_int 2))).d ea_nil))))))) ?_
  have eBL : (bad0 ⟨pr, ls, tu⟩ f0 ++ (wrongS f0 w31).map (mkL ⟨pr, ls, tu⟩ f0)).length ≤ 20 := by rw [List.length_append, List.length_map]; exact (by decide : 3 + 13 ≤ 20)
  have eHs : (badHs ⟨ws, at', f0⟩ ⟨pr, ls, tu⟩).map (fun ws => PyData.list (ws.map encRW)) = (badW ⟨pr, ls, tu⟩ ws.length f0).map fun b => PyData.list ((ws.take at' ++ [b] ++ ws.drop (at' + 1)).map encRW) := by unfold badHs; rw [List.map_map]; rfl
  rw [eHs]
  unfold badW
  show Run K E _ [.dat (.list (ws.map encRW)), .dat (.int (at' : Int)), .dat (.int f0), .dat (.int pr), .dat (.list (ls.map encSp)), .dat (encSp tu), .dat (.int (ws.length : Int)), .un, .un, .ml ((bad0 ⟨pr, ls, tu⟩ f0 ++ (wrongS f0 w31).map (mkL ⟨pr, ls, tu⟩ f0)).map encRW), .un, .un, .ml (turnsA.map encSp), .un] _
  generalize bad0 ⟨pr, ls, tu⟩ f0 ++ (wrongS f0 w31).map (mkL ⟨pr, ls, tu⟩ f0) = B0 at eBL ⊢
  have eTl : (turnsA ++ turnsB ws.length f0).length = 13 := rfl
  refine run_seq (run_for (ts := [10]) (ds := (turnsA ++ turnsB ws.length f0).map encSp) (fun i => [.dat (.list (ws.map encRW)), .dat (.int (at' : Int)), .un, .dat (.int pr), .dat (.list (ls.map encSp)), .un, .un, .un, .un, .ml ((B0 ++ ((turnsA ++ turnsB ws.length f0).take i).map (mkT ⟨pr, ls, tu⟩)).map encRW), .un, .un, .un, .un]) (ei_list (en_app (fe := encSp) (L := turnsA) (M := turnsB ws.length f0) (el_var 12 rfl) (en_lst (ds := [encSp [], encSp [(0, 1, 2)], encSp [((ws.length : Int), 1, 1)], encSp [(-1, 1, 1)], encSp [((ws.length : Int) - 1 + f0, 1, 1)], encSp [(0, 2, 2)], encSp [(0, 1, 2), (0, 1, 2)], encSp [(0, 1, 2), ((ws.length : Int), 1, 2)]]) (ea_d (en_lst (ds := []) ea_nil).d (ea_d (en_r1 (ed_int 0) (ed_p2 (ed_int 1) (ed_int 2))).d (ea_d (en_r1 (ed_var 6 rfl) (ed_p2 (ed_int 1) (ed_int 1))).d (ea_d (en_r1 (ed_neg (ed_int 1)) (ed_p2 (ed_int 1) (ed_int 1))).d (ea_d (en_r1 (ed_I0 (ed_I0 (ed_var 6 rfl) (ed_int 1)) (ed_var 2 rfl)) (ed_p2 (ed_int 1) (ed_int 1))).d (ea_d (en_r1 (ed_int 0) (ed_p2 (ed_int 2) (ed_int 2))).d (ea_d (en_r2 (ed_int 0) (ed_p2 (ed_int 1) (ed_int 2)) (ed_int 0) (ed_p2 (ed_int 1) (ed_int 2))).d (ea_d (en_r2 (ed_int 0) (ed_p2 (ed_int 1) (ed_int 2)) (ed_var 6 rfl) (ed_p2 (ed_int 1) (ed_int 2))).d ea_nil))))))))).l (by show 5 ≤ 1000 ∧ 8 ≤ 1000; decide)).d) (by rw [List.take_zero, List.map_nil, List.append_nil]; exact (.eq (.eq (.un (.eq (.eq (.un (.un (.un (.un (.eq (.un (.un (.un (.un .nil))))))))))))))) (fun i d hi hd => ⟨_, eg_name (by decide), ?_⟩)) ?_
  · rw [List.getElem?_map] at hd
    obtain ⟨one, ho, rfl⟩ := Option.map_eq_some_iff.mp hd
    rw [List.length_map, eTl] at hi
    rw [acc_map B0 (mkT ⟨pr, ls, tu⟩) encRW ho]
    have hlen : ((B0 ++ ((turnsA ++ turnsB ws.length f0).take i).map (mkT ⟨pr, ls, tu⟩)).map encRW).length ≤ 100 := by rw [List.length_map, List.length_append, List.length_map, List.length_take]; omega
    generalize (B0 ++ ((turnsA ++ turnsB ws.length f0).take i).map (mkT ⟨pr, ls, tu⟩)).map encRW = B' at hlen ⊢
    exact .n (run_append (i := 9) (d := encRW ⟨pr, ls, one⟩) rfl (ed_tup (ds := [.int pr, .list (ls.map encSp), encSp one]) (ea_d (ed_var 3 rfl) (ea_d (ed_var 4 rfl) (ea_d (ed_var 10 rfl) ea_nil)))) (by omega)) (.eq (.eq (.un (.eq (.eq (.un (.un (.un (.un (.eq (.un (.un (.un (.un .nil))))))))))))))
  rw [List.length_map, List.take_length]
  have hBl : (B0 ++ (turnsA ++ turnsB ws.length f0).map (mkT ⟨pr, ls, tu⟩)).length ≤ 100 := by rw [List.length_append, List.length_map, eTl]; omega
  generalize B0 ++ (turnsA ++ turnsB ws.length f0).map (mkT ⟨pr, ls, tu⟩) = BB at hBl ⊢
  refine run_pub 9 rfl (run_retN (en_lc (ei_list (ed_var 9 rfl)) (ts := [10]) (by decide) (lc_map encRW (fun b => PyData.list ((ws.take at' ++ [b] ++ ws.drop (at' + 1)).map encRW)) fun b hb => ⟨_, eg_name (by decide), et_yes, EvN.d (en_mid (fe := encRW) (L := ws) (M := [b]) (ed_var 0 rfl).l (ed_var 1 rfl) rfl (en_lst (ds := [encRW b]) (ea_d (ed_var 10 rfl) ea_nil)).l (ed_I0 (ed_var 1 rfl) (ed_int 1)) (by omega) (by show _ ∧ 1 ≤ 1000; omega))⟩) (by rw [List.length_map]; omega)))

end
end KP

namespace KP
open PySem L2 DL MX
section
variable {P : Program} {w : World} {K : PySem.W.Frag} {mg : Str → Option Value} {base : Heap}
/-! ### k08: faulty treaties -/
def lay7 (f : Int) : List RL := [⟨"limit", [.i (-f)]⟩, ⟨"band", [.i 2, .i 1]⟩, ⟨"share", [.f 2 4]⟩, ⟨"keep", [.i 1]⟩, ⟨"share", [.i 1]⟩, ⟨"limit", [.i (1000 + f)]⟩, ⟨"limit", []⟩]
theorem lay7_bad {f : Int} (h : 1 ≤ f ∧ f ≤ 1000) : ∀ l ∈ lay7 f, BL l := by
  unfold lay7
  refine allc ⟨?_, rle w_limit (by show 1 ≤ 4; decide) (pc (pi' (by omega)) p0)⟩ (allc ⟨?_, rle w_band (by show 2 ≤ 4; decide) (pc (pi' (by omega)) (pc (pi' (by omega)) p0))⟩ (allc ⟨?_, rle w_share (by show 1 ≤ 4; decide) (pc (pf (by omega) (by omega)) p0)⟩ (allc ⟨keep_no _, rle w_keep (by show 1 ≤ 4; decide) (pc (pi' (by omega)) p0)⟩ (allc ⟨?_, rle w_share (by show 1 ≤ 4; decide) (pc (pi' (by omega)) p0)⟩ (allc ⟨?_, rle w_limit (by show 1 ≤ 4; decide) (pc (pi' (by omega)) p0)⟩ (allc ⟨?_, rle w_limit (by decide) p0⟩ alln))))))
  · rw [ly_limit]; exact am_no (by omega)
  · exact band_no (by omega)
  · rw [ly_share]; exact sh_no (.inr (.inl (by decide)))
  · rw [ly_share]; try rfl
  · rw [ly_limit]; exact am_no (by omega)
  · rw [ly_limit]
theorem l12_bad : BL ⟨"limit", [.f 1 2]⟩ := ⟨by rw [ly_limit]; try rfl, rle w_limit (by show 1 ≤ 4; decide) (pc (pf (by omega) (by omega)) p0)⟩
theorem shf_bad {f : Int} (h : 1 ≤ f ∧ f ≤ 1000) : BL ⟨"share", [.f (f + 1) f]⟩ := ⟨by rw [ly_share]; exact sh_no (by omega), rle w_share (by show 1 ≤ 4; decide) (pc (pf (by omega) (by omega)) p0)⟩
theorem lim_e {x : Int} (h : 0 ≤ x ∧ x ≤ 1000) : RLE ⟨"limit", [.i x]⟩ ∧ lyB ⟨"limit", [.i x]⟩ = true := ⟨rle w_limit (by show 1 ≤ 4; decide) (pc (pi' (by omega)) p0), by
  rw [ly_limit]
  show (decide (0 ≤ x) && decide (x ≤ 1000)) = true
  rw [decide_eq_true h.1, decide_eq_true h.2]; rfl⟩
theorem trB_bad {p : Int} {ls : List RL} {l : RL} (hl : l ∈ ls) (hb : lyB l = false) : trB ⟨p, ls⟩ = false := by
  have : ls.all lyB = false := by
    cases e : ls.all lyB with
    | false => rfl
    | true => have := List.all_eq_true.mp e l hl; rw [hb] at this; cases this
  show (amB (.i p) && (decide (ls.length ≤ 4) && ls.all lyB)) = false
  rw [this, Bool.and_false, Bool.and_false]
theorem trB_price {p : Int} {ls : List RL} (h : p < 0 ∨ 1000 < p) : trB ⟨p, ls⟩ = false := by
  show (amB (.i p) && (decide (ls.length ≤ 4) && ls.all lyB)) = false
  rw [am_no h]; rfl
theorem trB_many {p : Int} {ls : List RL} (h : 4 < ls.length) : trB ⟨p, ls⟩ = false := by
  show (amB (.i p) && (decide (ls.length ≤ 4) && ls.all lyB)) = false
  rw [decide_eq_false (show ¬ls.length ≤ 4 by omega), Bool.false_and, Bool.and_false]
theorem trB_good {p : Int} {ls : List RL} (hp : 0 ≤ p ∧ p ≤ 1000) (h4 : ls.length ≤ 4) (h : ∀ l ∈ ls, lyB l = true) : trB ⟨p, ls⟩ = true := by
  show ((decide (0 ≤ p) && decide (p ≤ 1000)) && (decide (ls.length ≤ 4) && ls.all lyB)) = true
  rw [decide_eq_true hp.1, decide_eq_true hp.2, decide_eq_true h4, List.all_eq_true.mpr h]; rfl
def wrT1 (f : Int) : List RT := [⟨-f, []⟩, ⟨1000 + f, []⟩, ⟨0, [⟨"limit", [.i (-f)]⟩]⟩, ⟨0, [⟨"band", [.i 2, .i 1]⟩]⟩, ⟨0, [⟨"share", [.f 2 4]⟩]⟩]
def wrT2 (f : Int) : List RT := [⟨0, [⟨"keep", [.i 1]⟩]⟩, ⟨0, [⟨"share", [.i 1]⟩]⟩, ⟨0, [⟨"limit", [.f 1 2]⟩]⟩, ⟨0, List.replicate 5 ⟨"limit", [.i 1]⟩⟩, ⟨0, [⟨"share", [.f (f + 1) f]⟩]⟩]
def mkY (q : Nat) (l : RL) : RT := ⟨0, List.replicate q ⟨"limit", [.i 5]⟩ ++ [l]⟩
structure BT (t : RT) : Prop where
  bad : trB t = false
  sh : ShT t
theorem t0 : ∀ x ∈ ([] : List RT), BT x := fun x hx => by cases hx
theorem t1 {a : RT} {l : List RT} (h : BT a) (hs : ∀ x ∈ l, BT x) : ∀ x ∈ a :: l, BT x := fun x hx => by
  rcases List.mem_cons.mp hx with e | e
  · rw [e]; exact h
  · exact hs x e
theorem bt_one {l : RL} (h : BL l) : BT ⟨0, [l]⟩ := ⟨trB_bad (List.mem_singleton.mpr rfl) h.bad, ⟨fun x hx => by rw [show (⟨0, [l]⟩ : RT).ls = [l] from rfl, List.mem_singleton] at hx; rw [hx]; exact h.e, by show 1 ≤ 5; decide, Bt.zero _⟩⟩
theorem wrT_bad {f : Int} (h : 1 ≤ f ∧ f ≤ 1000) {q : Nat} (hq : q ≤ 3) : ∀ t ∈ wrT1 f ++ wrT2 f ++ (lay7 f).map (mkY q), BT t := by
  have b7 := lay7_bad h
  have m : ∀ {l : RL}, l ∈ lay7 f → BL l := fun hl => b7 _ hl
  intro t ht
  rcases List.mem_append.mp ht with ht | ht
  · rcases List.mem_append.mp ht with ht | ht
    · have : ∀ t ∈ wrT1 f, BT t := by
        unfold wrT1
        exact t1 ⟨trB_price (.inl (by omega)), ⟨alln, by show 0 ≤ 5; decide, bt_s (by show _ ≤ -f ∧ -f ≤ _; omega)⟩⟩ (t1 ⟨trB_price (.inr (by omega)), ⟨alln, by show 0 ≤ 5; decide, bt_s (by show _ ≤ 1000 + f ∧ 1000 + f ≤ _; omega)⟩⟩ (t1 (bt_one (m (by unfold lay7; simp))) (t1 (bt_one (m (by unfold lay7; simp))) (t1 (bt_one (m (by unfold lay7; simp))) t0))))
      exact this t ht
    · have : ∀ t ∈ wrT2 f, BT t := by
        unfold wrT2
        exact t1 (bt_one (m (by unfold lay7; simp))) (t1 (bt_one (m (by unfold lay7; simp))) (t1 (bt_one l12_bad) (t1 ⟨trB_many (by rw [List.length_replicate]; decide), ⟨fun l hl => by rw [(List.mem_replicate.mp hl).2]; exact (lim_e (by decide)).1, by show (List.replicate 5 _).length ≤ 5; rw [List.length_replicate]; exact Nat.le_refl _, Bt.zero _⟩⟩ (t1 (bt_one (shf_bad h)) t0))))
      exact this t ht
  · obtain ⟨l, hl, rfl⟩ := List.mem_map.mp ht
    have hb := b7 l hl
    refine ⟨trB_bad (List.mem_append_right _ (List.mem_singleton.mpr rfl)) hb.bad, ⟨fun x hx => ?_, ?_, Bt.zero _⟩⟩
    · rcases List.mem_append.mp hx with hx | hx
      · rw [(List.mem_replicate.mp hx).2]; exact (lim_e (by decide)).1
      · rw [List.mem_singleton] at hx; rw [hx]; exact hb.e
    · show (List.replicate q _ ++ [l]).length ≤ 5
      rw [List.length_append, List.length_replicate, List.length_singleton]; omega
/-! ### k08: law -/
def lims8 : List Int := [1000, 12, 12]
theorem lims8_ok : DrawOk lims8 := ⟨by decide, by intro l hl; exact Bt.mono (n := 50) (by revert l; decide) (by decide), by decide⟩
abbrev plainW : RWt := ⟨0, [], [(0, 1, 1)]⟩
theorem plain_turns {n : Int} (h : 1 ≤ n) : tuOk [((0, 1, 1) : Rw3)] n := ⟨pl_ok.1.1, fun p hp => by rw [List.mem_singleton] at hp; rw [hp]; show (0 : Int) ≤ 0 ∧ (0 : Int) < n; omega⟩
theorem plain_lok : LOk 4 [((0, 1, 1) : Rw3)] := ⟨pl_ok.2.pre, pl_ok.2.eb, by decide⟩
theorem plain_sh : ShW plainW := ⟨Bt.zero _, by show 0 ≤ 6; decide, s0, plain_lok⟩
theorem plain_ok {n : Int} (h : 1 ≤ n) : wtR plainW n := ⟨by decide, by show 0 ≤ 3; decide, s0, plain_turns h⟩
theorem plain_sb : Sb 5 8 (encRW plainW) := by
  have h2 : Sb 3 5 (encSp [(0, 1, 1)]) := (sb_lst (sbs_cons (sb_tup (sbs_cons ((sb_int (Bt.zero _)).mono (by decide : 0 ≤ 1) (Nat.le_refl _)) (sbs_cons (sb_tup (sbs_cons (sb_int (Bt.one (by decide))) (sbs_cons (sb_int (Bt.one (by decide))) sbs_nil))) sbs_nil))) sbs_nil)).mono (by decide) (by decide)
  exact (sb_tup (sbs_cons ((sb_int (Bt.zero _)).mono (by decide : 0 ≤ 4) (Nat.le_refl _)) (sbs_cons ((sb_lst (sbs_nil (n := 3)))) (sbs_cons (h2.mono (by decide) (Nat.le_refl _)) sbs_nil)))).mono (by decide) (by decide)
theorem plain_enc : encRW plainW = .tuple [.int 0, .list [], .list [.tuple [.int 0, .tuple [.int 1, .int 1]]]] := rfl
/-- turns of given values -/
theorem tu_wtd {vs ws : List Int} (h : Wd vs ws) {n : Int} (hv : ∀ v ∈ vs, 0 ≤ v ∧ v < n) (hn : n ≤ 10) : tuOk (rawOf (gatF (wtd vs ws))) n ∧ SpPre (rawOf (gatF (wtd vs ws))) := by
  have hd := dm_of h fun v hv2 => Bt.mono (n := 10) (bt_range (by have := hv v hv2; omega) (by have := hv v hv2; omega)) (by decide)
  exact ⟨⟨hd.good, fun p hp => hv _ (hd.val p hp)⟩, hd.pre⟩
theorem sc_law : FnScope ["script", "house", "weathers", "treaties", "before", "draws", "far", "at", "some", "place", "wrong", "layer", "one", "plain", "full", "three", "k"] ["script"] (defScope s_law) := ⟨rfl, rfl, rfl, by decide +kernel, rfl, by decide +kernel, by decide +kernel⟩
def sp_law (K : PySem.W.Frag) : Sp := SpD K (fun ns : List Int => [.scr ns]) (fun ns => ns.length ≤ 63) (fun _ => .bool true)
theorem ok_law {f C : Addr} {fd : FuncData} (F : Fun K "law" "law" s_law f fd) (m_len : mg "len" = none) (m_int : mg "int" = none) (m_range : mg "range" = none) (m_repr : mg "repr" = none)
    (C_check_house : Callee P w K mg base (L2.CX P w) 7 "check_house" ["house"] (sp_check_house K C))
    (C__law_cell : Callee P w K mg base CX0 1 "_law_cell" ["script", "k"] (sp__law_cell K)) (C__law_draws : Callee P w K mg base CX0 1 "_law_draws" ["cell", "limits"] (sp__law_draws K)) (C__law_weighted : Callee P w K mg base CX0 5 "_law_weighted" ["values", "weights"] (sp__law_weighted K)) (C__law_house : Callee P w K mg base CX0 7 "_law_house" ["cell", "more", "places", "lines", "wide"] (sp__law_house K))
    (C__law_refused : CalleeG P w K mg base 8 "_law_refused" ["house"] (sp__law_refused K)) (C__law_bad_weathers : Callee P w K mg base CX0 6 "_law_bad_weathers" ["weathers", "at", "far"] (sp__law_bad_weathers K)) :
    FnG P w K mg base 9 f fd ["script"] (sp_law K) := by
  have sc := sc_law
  refine fn_GD F sc (fun _ => rfl) fun cdv A outer s H E GD hr => ?_
  refine ⟨_, (pss_cons (ps_set (i := 1) sc.nd rfl (by first | exact Or.inl rfl | exact Or.inr rfl) (pe_c C__law_house (hr.mono (by decide)) pass0 (pa_cons (pe_c C__law_cell (hr.mono (by decide)) pass0 (pa_cons (pv 0) (pa_cons pe_int pa_nil))) (pa_cons (pe_c C__law_cell (hr.mono (by decide)) pass0 (pa_cons (pv 0) (pa_cons pe_int pa_nil))) (pa_cons pe_int (pa_cons pe_int (pa_cons pe_int pa_nil)))))))
      (pss_cons (ps_asg (pv 1) (pg_tup rfl (pgs_cons (pg_name (i := 2) sc.nd rfl (by first | exact Or.inl rfl | exact Or.inr rfl)) (pgs_cons (pg_name (i := 3) sc.nd rfl (by first | exact Or.inl rfl | exact Or.inr rfl)) pgs_nil))))
      (pss_cons (ps_set (i := 4) sc.nd rfl (by first | exact Or.inl rfl | exact Or.inr rfl) (pe_callB (id := "repr") (r := rRepr K) (call_repr GD hr.units) (by rfl) m_repr (by decide +kernel) (pa_cons (pv 1) pa_nil)))
      (pss_cons (ps_if (PW.pt (pw_or (pt_cmpR op_notN (pe_c C_check_house (hr.mono (by decide)) passL (pa_cons (pv 1) pa_nil)) pe_non (nomark _)) (pw_or1 (pt_cmpR op_ne (pe_callB (id := "repr") (r := rRepr K) (call_repr GD hr.units) (by rfl) m_repr (by decide +kernel) (pa_cons (pv 1) pa_nil)) (pv 4) (nomark _))))) (pss_one (ps_ret pe_bl)) pss_nil)
      (pss_cons (ps_set (i := 5) sc.nd rfl (by first | exact Or.inl rfl | exact Or.inr rfl) (pe_c C__law_draws (hr.mono (by decide)) pass0 (pa_cons (pe_c C__law_cell (hr.mono (by decide)) pass0 (pa_cons (pv 0) (pa_cons pe_int pa_nil))) (pa_cons (pe_lst (pa_cons pe_int (pa_cons pe_int (pa_cons pe_int pa_nil)))) pa_nil))))
      (pss_cons (ps_set (i := 6) sc.nd rfl (by first | exact Or.inl rfl | exact Or.inr rfl) (pe_op op_add pe_int (pe_ix (r := rIxL K) ix_list (pv 5) pe_int (fun _ _ => rfl))))
      (pss_cons (ps_set (i := 7) sc.nd rfl (by first | exact Or.inl rfl | exact Or.inr rfl) (pe_op op_modN (pe_callTy (T := "int") call_int1 (by rfl) m_int (by decide +kernel) (pa_cons (pe_ix (r := rIxL K) ix_list (pv 5) pe_int (fun _ _ => rfl)) pa_nil)) (pe_callB (id := "len") (r := rLenS K) call_len_seq (by rfl) m_len PySem.boot_len (pa_cons (pv 2) pa_nil))))
      (pss_cons (ps_for PassesOwn.never rfl (pi_list (pe_c C__law_bad_weathers (hr.mono (by decide)) pass0 (pa_cons (pv 2) (pa_cons (pv 7) (pa_cons (pv 6) pa_nil))))) (pg_name (i := 8) sc.nd rfl (by first | exact Or.inl rfl | exact Or.inr rfl)) (pss_one (ps_if (pt_not (pt_val (pe_cG C__law_refused GD (hr.mono (by decide)) (pa_cons (pe_tup (pa_cons (pv 8) (pa_cons (pv 3) pa_nil))) pa_nil)))) (pss_one (ps_ret pe_bl)) pss_nil)))
      (pss_cons (ps_set (i := 3) sc.nd rfl (by first | exact Or.inl rfl | exact Or.inr rfl) (pe_slice (r := rSlL K) sl_list (pv 3) po_none (po_some pe_int)))
      (pss_cons (ps_set (i := 9) sc.nd rfl (by first | exact Or.inl rfl | exact Or.inr rfl) (pe_op op_modN (pe_callTy (T := "int") call_int1 (by rfl) m_int (by decide +kernel) (pa_cons (pe_ix (r := rIxL K) ix_list (pv 5) pe_int (fun _ _ => rfl)) pa_nil)) (pe_op op_add (pe_callB (id := "len") (r := rLenS K) call_len_seq (by rfl) m_len PySem.boot_len (pa_cons (pv 3) pa_nil)) pe_int)))
      (pss_cons (ps_set (i := 10) sc.nd rfl (by first | exact Or.inl rfl | exact Or.inr rfl) (pe_lst (pa_cons (pe_tup (pa_cons (pe_un un_neg (pv 6)) (pa_cons (pe_lst pa_nil) pa_nil))) (pa_cons (pe_tup (pa_cons (pe_op op_add pe_int (pv 6)) (pa_cons (pe_lst pa_nil) pa_nil))) (pa_cons (pe_tup (pa_cons pe_int (pa_cons (pe_lst (pa_cons (pe_tup (pa_cons pe_str (pa_cons (pe_un un_neg (pv 6)) pa_nil))) pa_nil)) pa_nil))) (pa_cons (pe_tup (pa_cons pe_int (pa_cons (pe_lst (pa_cons (pe_tup (pa_cons pe_str (pa_cons pe_int (pa_cons pe_int pa_nil)))) pa_nil)) pa_nil))) (pa_cons (pe_tup (pa_cons pe_int (pa_cons (pe_lst (pa_cons (pe_tup (pa_cons pe_str (pa_cons (pe_tup (pa_cons pe_int (pa_cons pe_int pa_nil))) pa_nil))) pa_nil)) pa_nil))) pa_nil)))))))
      (pss_cons (ps_set (i := 10) sc.nd rfl (by first | exact Or.inl rfl | exact Or.inr rfl) (pe_op op_cat (pv 10) (pe_lst (pa_cons (pe_tup (pa_cons pe_int (pa_cons (pe_lst (pa_cons (pe_tup (pa_cons pe_str (pa_cons pe_int pa_nil))) pa_nil)) pa_nil))) (pa_cons (pe_tup (pa_cons pe_int (pa_cons (pe_lst (pa_cons (pe_tup (pa_cons pe_str (pa_cons pe_int pa_nil))) pa_nil)) pa_nil))) (pa_cons (pe_tup (pa_cons pe_int (pa_cons (pe_lst (pa_cons (pe_tup (pa_cons pe_str (pa_cons (pe_tup (pa_cons pe_int (pa_cons pe_int pa_nil))) pa_nil))) pa_nil)) pa_nil))) (pa_cons (pe_tup (pa_cons pe_int (pa_cons (pe_op op_rep (pe_lst (pa_cons (pe_tup (pa_cons pe_str (pa_cons pe_int pa_nil))) pa_nil)) pe_int) pa_nil))) (pa_cons (pe_tup (pa_cons pe_int (pa_cons (pe_lst (pa_cons (pe_tup (pa_cons pe_str (pa_cons (pe_tup (pa_cons (pe_op op_add (pv 6) pe_int) (pa_cons (pv 6) pa_nil))) pa_nil))) pa_nil)) pa_nil))) pa_nil))))))))
      (pss_cons (ps_for PassesOwn.never rfl (pi_list (pe_lst (pa_cons (pe_tup (pa_cons pe_str (pa_cons (pe_un un_neg (pv 6)) pa_nil))) (pa_cons (pe_tup (pa_cons pe_str (pa_cons pe_int (pa_cons pe_int pa_nil)))) (pa_cons (pe_tup (pa_cons pe_str (pa_cons (pe_tup (pa_cons pe_int (pa_cons pe_int pa_nil))) pa_nil))) (pa_cons (pe_tup (pa_cons pe_str (pa_cons pe_int pa_nil))) (pa_cons (pe_tup (pa_cons pe_str (pa_cons pe_int pa_nil))) (pa_cons (pe_tup (pa_cons pe_str (pa_cons (pe_op op_add pe_int (pv 6)) pa_nil))) (pa_cons (pe_tup (pa_cons pe_str pa_nil)) pa_nil))))))))) (pg_name (i := 11) sc.nd rfl (by first | exact Or.inl rfl | exact Or.inr rfl)) (pss_one (ps_expr (pe_bm PySem.F.plainAttrs_list PySem.F.slot_list_append PySem.F.type_list_append mt_append (pv 10) (pa_cons (pe_tup (pa_cons pe_int (pa_cons (pe_op op_cat (pe_op op_rep (pe_lst (pa_cons (pe_tup (pa_cons pe_str (pa_cons pe_int pa_nil))) pa_nil)) (pe_op op_modN (pe_callTy (T := "int") call_int1 (by rfl) m_int (by decide +kernel) (pa_cons (pe_ix (r := rIxL K) ix_list (pv 5) pe_int (fun _ _ => rfl)) pa_nil)) pe_int)) (pe_lst (pa_cons (pv 11) pa_nil))) pa_nil))) pa_nil)))))
      (pss_cons (ps_for PassesOwn.never rfl (pi_list (pv 10)) (pg_name (i := 12) sc.nd rfl (by first | exact Or.inl rfl | exact Or.inr rfl)) (pss_one (ps_if (pt_not (pt_val (pe_cG C__law_refused GD (hr.mono (by decide)) (pa_cons (pe_tup (pa_cons (pv 2) (pa_cons (pe_op op_cat (pe_op op_cat (pe_slice (r := rSlL K) sl_list (pv 3) po_none (po_some (pv 9))) (pe_lst (pa_cons (pv 12) pa_nil))) (pe_slice (r := rSlL K) sl_list (pv 3) (po_some (pv 9)) po_none)) pa_nil))) pa_nil)))) (pss_one (ps_ret pe_bl)) pss_nil)))
      (pss_cons (ps_set (i := 13) sc.nd rfl (by first | exact Or.inl rfl | exact Or.inr rfl) (pe_tup (pa_cons pe_int (pa_cons (pe_lst pa_nil) (pa_cons (pe_lst (pa_cons (pe_tup (pa_cons pe_int (pa_cons (pe_tup (pa_cons pe_int (pa_cons pe_int pa_nil))) pa_nil))) pa_nil)) pa_nil)))))
      (pss_cons (ps_for PassesOwn.never rfl (pi_list (pe_lst (pa_cons (pe_tup (pa_cons (pe_lst pa_nil) (pa_cons (pv 3) pa_nil))) (pa_cons (pe_tup (pa_cons (pv 2) (pa_cons (pe_lst pa_nil) pa_nil))) (pa_cons (pe_tup (pa_cons (pe_op op_rep (pe_lst (pa_cons (pv 13) pa_nil)) (pe_op op_add pe_int (pe_op op_modN (pe_callTy (T := "int") call_int1 (by rfl) m_int (by decide +kernel) (pa_cons (pv 6) pa_nil)) pe_int))) (pa_cons (pv 3) pa_nil))) (pa_cons (pe_tup (pa_cons (pv 2) (pa_cons (pe_op op_rep (pe_lst (pa_cons (pe_tup (pa_cons pe_int (pa_cons (pe_lst pa_nil) pa_nil))) pa_nil)) (pe_op op_add pe_int (pe_op op_modN (pe_callTy (T := "int") call_int1 (by rfl) m_int (by decide +kernel) (pa_cons (pv 6) pa_nil)) pe_int))) pa_nil))) (pa_cons (pe_tup (pa_cons (pe_op op_rep (pe_lst (pa_cons (pv 13) pa_nil)) pe_int) (pa_cons (pv 3) pa_nil))) pa_nil))))))) (pg_name (i := 8) sc.nd rfl (by first | exact Or.inl rfl | exact Or.inr rfl)) (pss_one (ps_if (pt_not (pt_val (pe_cG C__law_refused GD (hr.mono (by decide)) (pa_cons (pv 8) pa_nil)))) (pss_one (ps_ret pe_bl)) pss_nil)))
      (pss_cons (ps_set (i := 14) sc.nd rfl (by first | exact Or.inl rfl | exact Or.inr rfl) (pe_tup (pa_cons pe_int (pa_cons (pe_lst (pa_cons (pe_c C__law_weighted (hr.mono (by decide)) pass0 (pa_cons (pe_lst (pa_cons pe_int (pa_cons pe_int pa_nil))) (pa_cons (pe_lst (pa_cons pe_int (pa_cons (pv 6) pa_nil))) pa_nil))) (pa_cons (pe_c C__law_weighted (hr.mono (by decide)) pass0 (pa_cons (pe_lc (own := [("k", 16)]) rfl sc.nd (pi_range1 (by rfl) m_range (pa_cons pe_int pa_nil)) (blkOk_by (own := [("k", 16)]) (N := ["script", "house", "weathers", "treaties", "before", "draws", "far", "at", "some", "place", "wrong", "layer", "one", "plain", "full", "three", "k"]) (sc := defScope s_law) (by decide +kernel)) (fun _ _ _ _ _ => (pg_name (i := 16) sc.nd rfl (Or.inl rfl))) (fun _ _ _ _ _ => pts_nil) (fun _ _ _ _ _ => (pe_op op_mulX pe_int (pv 16)))) (pa_cons (pe_op op_rep (pe_lst (pa_cons pe_int pa_nil)) pe_int) pa_nil))) (pa_cons (pe_lst (pa_cons (pe_tup (pa_cons pe_int (pa_cons (pe_tup (pa_cons pe_int (pa_cons pe_int pa_nil))) pa_nil))) pa_nil)) pa_nil)))) (pa_cons (pe_c C__law_weighted (hr.mono (by decide)) pass0 (pa_cons (pe_lst (pa_cons pe_int (pa_cons pe_int (pa_cons pe_int (pa_cons pe_int pa_nil))))) (pa_cons (pe_lst (pa_cons pe_int (pa_cons pe_int (pa_cons pe_int (pa_cons (pv 6) pa_nil))))) pa_nil))) pa_nil)))))
      (pss_cons (ps_set (i := 15) sc.nd rfl (by first | exact Or.inl rfl | exact Or.inr rfl) (pe_tup (pa_cons pe_int (pa_cons (pe_lst pa_nil) (pa_cons (pe_c C__law_weighted (hr.mono (by decide)) pass0 (pa_cons (pe_lst (pa_cons pe_int (pa_cons pe_int (pa_cons pe_int pa_nil)))) (pa_cons (pe_lst (pa_cons pe_int (pa_cons (pv 6) (pa_cons pe_int pa_nil)))) pa_nil))) pa_nil)))))
      (pss_cons (ps_if (pt_cmpR op_notN (pe_c C_check_house (hr.mono (by decide)) passL (pa_cons (pe_tup (pa_cons (pe_op op_rep (pe_lst (pa_cons (pv 15) pa_nil)) pe_int) (pa_cons (pe_lst (pa_cons (pe_tup (pa_cons pe_int (pa_cons (pe_lst pa_nil) pa_nil))) pa_nil)) pa_nil))) pa_nil)) pe_non (nomark _)) (pss_one (ps_ret pe_bl)) pss_nil)
      (pss_one (ps_ret (pe_and (pe_cmpR op_isN (pe_c C_check_house (hr.mono (by decide)) passL (pa_cons (pe_tup (pa_cons (pe_op op_rep (pe_lst (pa_cons (pv 14) pa_nil)) pe_int) (pa_cons (pe_op op_rep (pe_lst (pa_cons (pe_tup (pa_cons pe_int (pa_cons (pe_op op_rep (pe_lst (pa_cons (pe_tup (pa_cons pe_str (pa_cons pe_int pa_nil))) pa_nil)) pe_int) pa_nil))) pa_nil)) pe_int) pa_nil))) pa_nil)) pe_non (nomark _)) (pe_one (pe_cmpR op_isN (pe_c C_check_house (hr.mono (by decide)) passL (pa_cons (pe_tup (pa_cons (pe_lst (pa_cons (pv 13) pa_nil)) (pa_cons (pe_lst (pa_cons (pe_tup (pa_cons pe_int (pa_cons (pe_lst pa_nil) pa_nil))) pa_nil)) pa_nil))) pa_nil)) pe_non (nomark _))))))))))))))))))))))))), fun a ha => ?_⟩
  have hns : a.length ≤ 63 := ha
  have cellK : ∀ (ev : EnvD) (k : Int), 0 ≤ k → ev[0]? = some (.scr a) → EvD K (tCall (sp__law_cell K) [] E0 (tCons (tVar 0) (tCons (tC (.int k)) tNil))) ev (.int (cellF a k)) := fun ev k hk hv => ed_call (x := (a, k)) (ea_cons (ev_scr 0 hv) rfl (ea_d (ed_int k) ea_nil)) rfl hk
  have hA : HAOk ⟨cellF a 0, cellF a 1, 4, 4, 1⟩ := ⟨by show (1 : Int) ≤ 4 ∧ (4 : Int) ≤ 4; decide, by show (1 : Int) ≤ 4 ∧ (4 : Int) ≤ 4; decide, .inr rfl⟩
  refine run_seq (run_set ((ed_call (x := (⟨cellF a 0, cellF a 1, 4, 4, 1⟩ : HA)) (ea_d (cellK _ 0 (by decide) rfl) (ea_d (cellK _ 1 (by decide) rfl) (ea_d (ed_int 4) (ea_d (ed_int 4) (ea_d (ed_int 1) ea_nil))))) rfl hA).is (rawH_enc _))) ?_
  have g := rawH_g (houseF_ok hA)
  show Run K E _ [.scr a, .dat (encRH (rawH (houseF ⟨cellF a 0, cellF a 1, 4, 4, 1⟩))), .un, .un, .un, .un, .un, .un, .un, .un, .un, .un, .un, .un, .un, .un, .un] _
  generalize rawH (houseF ⟨cellF a 0, cellF a 1, 4, 4, 1⟩) = h at g ⊢
  have gOk := g.ok
  have gPre := g.pre
  obtain ⟨ws, ts⟩ := h
  have hw : 1 ≤ ws.length ∧ ws.length ≤ 4 := g.nw
  have ht : 1 ≤ ts.length ∧ ts.length ≤ 4 := g.nt
  have gW : ∀ w ∈ ws, WG w ws.length := g.ws
  have gT : ∀ t ∈ ts, TG t := g.ts
  have sbW : ∀ w ∈ ws, Sb 5 1150 (encRW w) := fun w hw => sb_RW (gW w hw).sh
  have sbT : ∀ t ∈ ts, Sb 4 160 (encRT t) := fun t ht => sb_RT (gT t ht).sh
  have hHs : Shw (encRH ⟨ws, ts⟩) := shw_RH sbW sbT (by omega) (by omega)
  refine run_seq (run_asg (ts := [2, 3]) (ed_var 1 rfl) (eg_tup (egs_cons (eg_name (by decide)) (egs_cons (eg_name (by decide)) egs_nil)) rfl)) ?_
  refine run_seq (run_set (ed_repr (ed_var 1 rfl).p hHs)) ?_
  refine run_seq (run_ifF (et_orF (et_test (ed_notN (ed_callX (x := (⟨ws, ts⟩ : RHs)) (d := .none) (ea_d (ed_var 1 rfl) ea_nil) rfl gPre (okO_some gOk)).p)) (et_sameS (ed_repr (ed_var 1 rfl).p hHs) (ed_var 4 rfl))) run_next) ?_
  refine run_seq (run_setN (en_call (x := (cellF a 2, lims8)) (ea_d (cellK _ 2 (by decide) rfl) (ea_d (en_lst (ds := [.int 1000, .int 12, .int 12]) (ea_d (ed_int 1000) (ea_d (ed_int 12) (ea_d (ed_int 12) ea_nil)))).d ea_nil)) rfl lims8_ok)) (run_pub 5 rfl ?_)
  have hD : ∀ (i : Nat) (l : Int), lims8[i]? = some l → ∃ x, (drawsF (cellF a 2) lims8)[i]? = some x ∧ 0 ≤ x ∧ x < l := fun i l h => drawsF_at _ lims8_ok.pos h
  show Run K E _ [.scr a, .dat (encRH ⟨ws, ts⟩), .dat (.list (ws.map encRW)), .dat (.list (ts.map encRT)), .dat (.str (encRH ⟨ws, ts⟩).shown), .dat (.list ((drawsF (cellF a 2) lims8).map PyData.int)), .un, .un, .un, .un, .un, .un, .un, .un, .un, .un, .un] _
  generalize drawsF (cellF a 2) lims8 = D at hD ⊢
  obtain ⟨x0, e0, a0, b0⟩ := hD 0 1000 rfl
  obtain ⟨x1, e1, a1, b1⟩ := hD 1 12 rfl
  obtain ⟨x2, e2, a2, b2⟩ := hD 2 12 rfl
  refine run_seq (run_set (ed_I0 (ed_int 1) (ed_ixl (ed_var 5 rfl).l (ed_int 0) (atI_at (n := 0) rfl e0)))) ?_
  obtain ⟨f0, hf, hF⟩ : ∃ n : Int, 1 + x0 = n ∧ 1 ≤ n ∧ n ≤ 1000 := ⟨_, rfl, by omega, by omega⟩
  rw [hf]
  obtain ⟨u, hu, hue⟩ := fmod_nat (x := x1) (n := ws.length) (by omega)
  refine run_seq (run_set ((ed_I (ed_int1 (ed_ixl (ed_var 5 rfl).l (ed_int 1) (atI_at (n := 1) rfl e1))) (ed_lenl (ed_var 2 rfl).l) (by rw [List.length_map]; omega)).is (by rw [List.length_map, hue]))) ?_
  have bOk : BwOk ⟨ws, u, f0⟩ := ⟨hu, hw.2, gW, hF⟩
  refine run_seq (run_for (ts := [8]) (ds := (badHs ⟨ws, u, f0⟩ (wB ⟨ws, u, f0⟩)).map fun ws => .list (ws.map encRW)) (fun _ => [.scr a, .un, .dat (.list (ws.map encRW)), .dat (.list (ts.map encRT)), .un, .dat (.list (D.map PyData.int)), .dat (.int f0), .un, .un, .un, .un, .un, .un, .un, .un, .un, .un]) (ei_list (en_call (x := (⟨ws, u, f0⟩ : BwA)) (ea_d (ed_var 2 rfl) (ea_d (ed_var 7 rfl) (ea_d (ed_var 6 rfl) ea_nil))) rfl bOk).d) (.eq (.un (.eq (.eq (.un (.eq (.eq (.un (.un (.un (.un (.un (.un (.un (.un (.un (.un .nil))))))))))))))))) (fun i d hi hd => ⟨_, eg_name (by decide), ?_⟩)) ?_
  · rw [List.getElem?_map] at hd
    obtain ⟨ws', hws, rfl⟩ := Option.map_eq_some_iff.mp hd
    have hm := List.mem_of_getElem? hws
    unfold badHs at hm
    obtain ⟨b, hb, rfl⟩ := List.mem_map.mp hm
    have hwB := gW _ (List.mem_of_getElem? (wB_at (a := ⟨ws, u, f0⟩) hu))
    obtain ⟨nb, sh⟩ := badW_ok hwB (by omega) hF b hb
    have hlen : (ws.take u ++ [b] ++ ws.drop (u + 1)).length = ws.length := by rw [List.length_append, List.length_append, List.length_take, List.length_drop, List.length_singleton]; omega
    have hbm : b ∈ ws.take u ++ [b] ++ ws.drop (u + 1) := List.mem_append_left _ (List.mem_append_right _ (List.mem_singleton.mpr rfl))
    have one : ∀ {P : RWt → Prop}, P b → ∀ x ∈ [b], P x := fun hp x hx => by rw [List.mem_singleton] at hx; rw [hx]; exact hp
    have rf : RfH ⟨ws.take u ++ [b] ++ ws.drop (u + 1), ts⟩ := by
      refine ⟨⟨mem_mid (fun w hw => (gW w hw).sh.pre) (one sh.pre), gPre.ts⟩, fun z => ?_, shw_RH (mem_mid sbW (one (sb_RW sh))) sbT (by rw [hlen]; omega) (by omega)⟩
      have h1 := z.ws b hbm
      have h2 : wtR b ((ws.take u ++ [b] ++ ws.drop (u + 1)).length : Int) := h1
      rw [hlen] at h2
      exact nb h2
    exact .n (run_ifF (et_notT (et_B (ed_call (x := (⟨ws.take u ++ [b] ++ ws.drop (u + 1), ts⟩ : RHs)) (ea_d (ed_tup (ds := [.list ((ws.take u ++ [b] ++ ws.drop (u + 1)).map encRW), .list (ts.map encRT)]) (ea_d (ed_var 8 rfl) (ea_d (ed_var 3 rfl) ea_nil))) ea_nil) rfl rf))) run_next) (.eq (.un (.eq (.eq (.un (.eq (.eq (.un (.un (.un (.un (.un (.un (.un (.un (.un (.un .nil)))))))))))))))))
  -- treaties
  refine run_seq (run_setN (en_to (fe := encRT) (L := ts) (k := 3) (ed_var 3 rfl).l (ed_int 3) rfl)) (run_pub 3 rfl ?_)
  have gT3 : ∀ t ∈ ts.take 3, TG t := fun t h => gT t (List.mem_of_mem_take h)
  have sbT3 : ∀ t ∈ ts.take 3, Sb 4 160 (encRT t) := fun t h => sbT t (List.mem_of_mem_take h)
  have preT3 : ∀ t ∈ ts.take 3, ∀ l ∈ t.ls, l.ps.length ≤ 100 := fun t h => gPre.ts t (List.mem_of_mem_take h)
  have hl3 : 1 ≤ (ts.take 3).length ∧ (ts.take 3).length ≤ 3 := by rw [List.length_take]; omega
  show Run K E _ [.scr a, .un, .dat (.list (ws.map encRW)), .dat (.list ((ts.take 3).map encRT)), .un, .dat (.list (D.map PyData.int)), .dat (.int f0), .un, .un, .un, .un, .un, .un, .un, .un, .un, .un] _
  generalize ts.take 3 = T3 at gT3 sbT3 preT3 hl3 ⊢
  obtain ⟨v, hv, hve⟩ := fmod_nat (x := x2) (n := T3.length + 1) (by omega)
  refine run_seq (run_set ((ed_I (ed_int1 (ed_ixl (ed_var 5 rfl).l (ed_int 2) (atI_at (n := 2) rfl e2))) (ed_I0 (ed_lenl (ed_var 3 rfl).l) (ed_int 1)) (by rw [List.length_map]; omega)).is (by rw [List.length_map, show ((T3.length : Int) + 1) = ((T3.length + 1 : Nat) : Int) by omega, hve]))) ?_
  have lim1 : ∀ (ev : EnvD) (t : TE) (x : Int), EvD K t ev (.int x) → EvD K (tTup (tCons (tC (.str "limit")) (tCons t tNil))) ev (encR ⟨"limit", [.i x]⟩) := fun ev t x h => ed_tup (ds := [.str "limit", .int x]) (ea_d (ed_str _) (ea_d h ea_nil))
  have trE : ∀ (ev : EnvD) (t1 t2 : TE) (p : Int) (ls : List RL), EvD K t1 ev (.int p) → EvD K t2 ev (.list (ls.map encR)) → EvD K (tTup (tCons t1 (tCons t2 tNil))) ev (encRT ⟨p, ls⟩) := fun ev t1 t2 p ls h1 h2 => ed_tup (ds := [.int p, .list (ls.map encR)]) (ea_d h1 (ea_d h2 ea_nil))
  refine run_seq (run_setN (en_lst (ds := [encRT ⟨-f0, []⟩, encRT ⟨1000 + f0, []⟩, encRT ⟨0, [⟨"limit", [.i (-f0)]⟩]⟩, encRT ⟨0, [⟨"band", [.i 2, .i 1]⟩]⟩, encRT ⟨0, [⟨"share", [.f 2 4]⟩]⟩]) (ea_d (trE _ _ _ _ [] (ed_neg (ed_var 6 rfl)) (en_lst (ds := []) ea_nil).d) (ea_d (trE _ _ _ _ [] (ed_I0 (ed_int 1000) (ed_var 6 rfl)) (en_lst (ds := []) ea_nil).d) (ea_d (trE _ _ _ _ [⟨"limit", [.i (-f0)]⟩] (ed_int 0) (en_lst (ds := [encR ⟨"limit", [.i (-f0)]⟩]) (ea_d (lim1 _ _ _ (ed_neg (ed_var 6 rfl))) ea_nil)).d) (ea_d (trE _ _ _ _ [⟨"band", [.i 2, .i 1]⟩] (ed_int 0) (en_lst (ds := [encR ⟨"band", [.i 2, .i 1]⟩]) (ea_d (ed_tup (ds := [.str "band", .int 2, .int 1]) (ea_d (ed_str _) (ea_d (ed_int 2) (ea_d (ed_int 1) ea_nil)))) ea_nil)).d) (ea_d (trE _ _ _ _ [⟨"share", [.f 2 4]⟩] (ed_int 0) (en_lst (ds := [encR ⟨"share", [.f 2 4]⟩]) (ea_d (ed_tup (ds := [.str "share", .tuple [.int 2, .int 4]]) (ea_d (ed_str _) (ea_d (ed_p2 (ed_int 2) (ed_int 4)) ea_nil))) ea_nil)).d) ea_nil))))))) ?_
  refine run_seq (run_setN (en_app (fe := encRT) (L := wrT1 f0) (M := wrT2 f0) (el_var 10 rfl) (en_lst (ds := [encRT ⟨0, [⟨"keep", [.i 1]⟩]⟩, encRT ⟨0, [⟨"share", [.i 1]⟩]⟩, encRT ⟨0, [⟨"limit", [.f 1 2]⟩]⟩, encRT ⟨0, List.replicate 5 ⟨"limit", [.i 1]⟩⟩, encRT ⟨0, [⟨"share", [.f (f0 + 1) f0]⟩]⟩]) (ea_d (trE _ _ _ _ [⟨"keep", [.i 1]⟩] (ed_int 0) (en_lst (ds := [encR ⟨"keep", [.i 1]⟩]) (ea_d (ed_tup (ds := [.str "keep", .int 1]) (ea_d (ed_str _) (ea_d (ed_int 1) ea_nil))) ea_nil)).d) (ea_d (trE _ _ _ _ [⟨"share", [.i 1]⟩] (ed_int 0) (en_lst (ds := [encR ⟨"share", [.i 1]⟩]) (ea_d (ed_tup (ds := [.str "share", .int 1]) (ea_d (ed_str _) (ea_d (ed_int 1) ea_nil))) ea_nil)).d) (ea_d (trE _ _ _ _ [⟨"limit", [.f 1 2]⟩] (ed_int 0) (en_lst (ds := [encR ⟨"limit", [.f 1 2]⟩]) (ea_d (ed_tup (ds := [.str "limit", .tuple [.int 1, .int 2]]) (ea_d (ed_str _) (ea_d (ed_p2 (ed_int 1) (ed_int 2)) ea_nil))) ea_nil)).d) (ea_d (trE _ _ _ _ (List.replicate 5 ⟨"limit", [.i 1]⟩) (ed_int 0) ((en_rep (en_lst (ds := [encR ⟨"limit", [.i 1]⟩]) (ea_d (lim1 _ _ _ (ed_int 1)) ea_nil)).l (ed_int 5) (by show 1 * (5 : Int).toNat ≤ 1000000 ∧ _; decide)).is (by rw [rep_one, List.map_replicate]; rfl)).d) (ea_d (trE _ _ _ _ [⟨"share", [.f (f0 + 1) f0]⟩] (ed_int 0) (en_lst (ds := [encR ⟨"share", [.f (f0 + 1) f0]⟩]) (ea_d (ed_tup (ds := [.str "share", .tuple [.int (f0 + 1), .int f0]]) (ea_d (ed_str _) (ea_d (ed_p2 (ed_I0 (ed_var 6 rfl) (ed_int 1)) (ed_var 6 rfl)) ea_nil))) ea_nil)).d) ea_nil)))))).l (by show 5 ≤ 1000 ∧ 5 ≤ 1000; decide))) ?_
  obtain ⟨q, hq, hqe⟩ := fmod_nat (x := x2) (n := 4) (by decide)
  have hqe : x2.fmod 4 = (q : Int) := hqe
  have hWr := wrT_bad hF (q := q) (by omega)
  have l7 : (lay7 f0).length = 7 := rfl
  have eWl : (wrT1 f0 ++ wrT2 f0).length = 10 := rfl
  show Run K E _ [.scr a, .un, .dat (.list (ws.map encRW)), .dat (.list (T3.map encRT)), .un, .dat (.list (D.map PyData.int)), .dat (.int f0), .un, .un, .dat (.int (v : Int)), .ml ((wrT1 f0 ++ wrT2 f0).map encRT), .un, .un, .un, .un, .un, .un] _
  generalize wrT1 f0 ++ wrT2 f0 = B0 at hWr eWl ⊢
  refine run_seq (run_for (ts := [11]) (ds := (lay7 f0).map encR) (fun i => [.scr a, .un, .dat (.list (ws.map encRW)), .dat (.list (T3.map encRT)), .un, .dat (.list (D.map PyData.int)), .dat (.int f0), .un, .un, .dat (.int (v : Int)), .ml ((B0 ++ ((lay7 f0).take i).map (mkY q)).map encRT), .un, .un, .un, .un, .un, .un]) (ei_list (en_lst (ds := [encR ⟨"limit", [.i (-f0)]⟩, encR ⟨"band", [.i 2, .i 1]⟩, encR ⟨"share", [.f 2 4]⟩, encR ⟨"keep", [.i 1]⟩, encR ⟨"share", [.i 1]⟩, encR ⟨"limit", [.i (1000 + f0)]⟩, encR ⟨"limit", []⟩]) (ea_d (lim1 _ _ _ (ed_neg (ed_var 6 rfl))) (ea_d (ed_tup (ds := [.str "band", .int 2, .int 1]) (ea_d (ed_str _) (ea_d (ed_int 2) (ea_d (ed_int 1) ea_nil)))) (ea_d (ed_tup (ds := [.str "share", .tuple [.int 2, .int 4]]) (ea_d (ed_str _) (ea_d (ed_p2 (ed_int 2) (ed_int 4)) ea_nil))) (ea_d (ed_tup (ds := [.str "keep", .int 1]) (ea_d (ed_str _) (ea_d (ed_int 1) ea_nil))) (ea_d (ed_tup (ds := [.str "share", .int 1]) (ea_d (ed_str _) (ea_d (ed_int 1) ea_nil))) (ea_d (lim1 _ _ _ (ed_I0 (ed_int 1000) (ed_var 6 rfl))) (ea_d (ed_tup (ds := [.str "limit"]) (ea_d (ed_str _) ea_nil)) ea_nil)))))))).d) (by rw [List.take_zero, List.map_nil, List.append_nil]; exact Less.refl _) (fun i d hi hd => ⟨_, eg_name (by decide), ?_⟩)) ?_
  · rw [List.getElem?_map] at hd
    obtain ⟨l, hl, rfl⟩ := Option.map_eq_some_iff.mp hd
    rw [List.length_map, l7] at hi
    rw [acc_map B0 (mkY q) encRT hl]
    have hlen : ((B0 ++ ((lay7 f0).take i).map (mkY q)).map encRT).length ≤ 100 := by rw [List.length_map, List.length_append, List.length_map, List.length_take]; omega
    generalize (B0 ++ ((lay7 f0).take i).map (mkY q)).map encRT = B' at hlen ⊢
    exact .n (run_append (i := 10) (d := encRT (mkY q l)) rfl (trE _ _ _ _ (List.replicate q ⟨"limit", [.i 5]⟩ ++ [l]) (ed_int 0) (en_app (fe := encR) (L := List.replicate q ⟨"limit", [.i 5]⟩) (M := [l]) ((en_rep (en_lst (ds := [encR ⟨"limit", [.i 5]⟩]) (ea_d (lim1 _ _ _ (ed_int 5)) ea_nil)).l ((ed_I (ed_int1 (ed_ixl (ed_var 5 rfl).l (ed_int 2) (atI_at (n := 2) rfl e2))) (ed_int 4) (by decide)).is (congrArg PyData.int hqe)) (by show 1 * (q : Int).toNat ≤ 1000000 ∧ _; omega)).is (by rw [Int.toNat_natCast, rep_one, List.map_replicate])).l (en_lst (ds := [encR l]) (ea_d (ed_var 11 rfl) ea_nil)).l (by rw [List.length_replicate]; show _ ∧ 1 ≤ 1000; omega)).d) (by omega)) (.eq (.un (.eq (.eq (.un (.eq (.eq (.un (.un (.eq (.eq (.un (.un (.un (.un (.un (.un .nil)))))))))))))))))
  rw [List.length_map, List.take_length]
  generalize B0 ++ (lay7 f0).map (mkY q) = BB at hWr ⊢
  refine run_seq (run_pub 10 rfl (run_for (ts := [12]) (ds := BB.map encRT) (fun _ => [.scr a, .un, .dat (.list (ws.map encRW)), .dat (.list (T3.map encRT)), .un, .dat (.list (D.map PyData.int)), .dat (.int f0), .un, .un, .dat (.int (v : Int)), .un, .un, .un, .un, .un, .un, .un]) (ei_list (ed_var 10 rfl)) (.eq (.un (.eq (.eq (.un (.eq (.eq (.un (.un (.eq (.un (.un (.un (.un (.un (.un (.un .nil))))))))))))))))) (fun i d hi hd => ⟨_, eg_name (by decide), ?_⟩))) ?_
  · rw [List.getElem?_map] at hd
    obtain ⟨t, ht', rfl⟩ := Option.map_eq_some_iff.mp hd
    have hb := hWr t (List.mem_of_getElem? ht')
    have one : ∀ {P : RT → Prop}, P t → ∀ x ∈ [t], P x := fun hp x hx => by rw [List.mem_singleton] at hx; rw [hx]; exact hp
    have hlen := len_midF (L := T3) (M := [t]) (k := v) (j := v)
    rw [List.length_singleton] at hlen
    have rf : RfH ⟨ws, T3.take v ++ [t] ++ T3.drop v⟩ := by
      refine ⟨⟨gPre.ws, mem_mid preT3 (one fun l hl => by have := (hb.sh.e l hl).few; omega)⟩, fun z => ?_, shw_RH sbW (mem_mid sbT3 (one (sb_RT hb.sh))) (by omega) (by omega)⟩
      have h1 := z.ts t (List.mem_append_left _ (List.mem_append_right _ (List.mem_singleton.mpr rfl)))
      rw [hb.bad] at h1; cases h1
    exact .n (run_ifF (et_notT (et_B (ed_call (x := (⟨ws, T3.take v ++ [t] ++ T3.drop v⟩ : RHs)) (ea_d (ed_tup (ds := [.list (ws.map encRW), .list ((T3.take v ++ [t] ++ T3.drop v).map encRT)]) (ea_d (ed_var 2 rfl) (ea_d (en_mid (fe := encRT) (ed_var 3 rfl).l (ed_var 9 rfl) rfl (M := [t]) (en_lst (ds := [encRT t]) (ea_d (ed_var 12 rfl) ea_nil)).l (ed_var 9 rfl) rfl (by show _ ∧ 1 ≤ 1000; omega)).d ea_nil))) ea_nil) rfl rf))) run_next) (.eq (.un (.eq (.eq (.un (.eq (.eq (.un (.un (.eq (.un (.un (.un (.un (.un (.un (.un .nil)))))))))))))))))
  -- too few, too many
  refine run_seq (run_set (d := encRW plainW) (ed_tup (ds := [.int 0, .list [], .list [.tuple [.int 0, .tuple [.int 1, .int 1]]]]) (ea_d (ed_int 0) (ea_d (en_lst (ds := []) ea_nil).d (ea_d (en_r1 (ed_int 0) (ed_p2 (ed_int 1) (ed_int 1))).d ea_nil))))) ?_
  obtain ⟨m, hm, hme⟩ := fmod_nat (x := f0) (n := 4) (by decide)
  have hme : f0.fmod 4 = (m : Int) := hme
  have five : ∀ ev : EnvD, ev[6]? = some (.dat (.int f0)) → EvD K (tOp (rI0 fun i j => .int (i + j)) (tC (.int 5)) (tOp (rI (fun _ j => j ≠ 0) fun i j => .int (i.fmod j)) (tCB (fun xs H Q => (∃ i, xs = [.int i] ∧ Q (.int i) H) ∨ ∃ k, xs = [.bl k] ∧ Q (.int (if k then 1 else 0)) H) (tCons (tVar 6) tNil)) (tC (.int 4)))) ev (.int (5 + (m : Int))) := fun ev h6 => ed_I0 (ed_int 5) ((ed_I (ed_int1 (ed_var 6 h6)) (ed_int 4) (by decide)).is (congrArg PyData.int hme))
  have t00 : RT := ⟨0, []⟩
  have hsE : ∀ (ev : EnvD) (t1 t2 : TE) (w1 : List RWt) (t1s : List RT), EvD K t1 ev (.list (w1.map encRW)) → EvD K t2 ev (.list (t1s.map encRT)) → EvD K (tTup (tCons t1 (tCons t2 tNil))) ev (encRH ⟨w1, t1s⟩) := fun ev t1 t2 w1 t1s h1 h2 => ed_tup (ds := [.list (w1.map encRW), .list (t1s.map encRT)]) (ea_d h1 (ea_d h2 ea_nil))
  have repW : ∀ (n : Nat) (ev : EnvD) (te : TE) (x : Int), ev[13]? = some (.dat (encRW plainW)) → EvD K te ev (.int x) → x = (n : Int) → n ≤ 1000 → EvN K (tOp rRep (tLst (tCons (tVar 13) tNil)) te) ev ((List.replicate n plainW).map encRW) := fun n ev te x h13 he hx hn => (en_rep (en_lst (ds := [encRW plainW]) (ea_d (ed_var 13 h13) ea_nil)).l he (by rw [hx]; show 1 * (n : Int).toNat ≤ 1000000 ∧ _; omega)).is (by rw [hx, Int.toNat_natCast, rep_one, List.map_replicate])
  have repT : ∀ (n : Nat) (ev : EnvD) (te : TE) (x : Int), EvD K te ev (.int x) → x = (n : Int) → n ≤ 1000 → EvN K (tOp rRep (tLst (tCons (tTup (tCons (tC (.int 0)) (tCons (tLst tNil) tNil))) tNil)) te) ev ((List.replicate n (⟨0, []⟩ : RT)).map encRT) := fun n ev te x he hx hn => (en_rep (en_lst (ds := [encRT ⟨0, []⟩]) (ea_d (trE _ _ _ _ [] (ed_int 0) (en_lst (ds := []) ea_nil).d) ea_nil)).l he (by rw [hx]; show 1 * (n : Int).toNat ≤ 1000000 ∧ _; omega)).is (by rw [hx, Int.toNat_natCast, rep_one, List.map_replicate])
  have pT : ∀ t ∈ List.replicate (5 + m) (⟨0, []⟩ : RT), Sb 4 160 (encRT t) ∧ ∀ l ∈ t.ls, l.ps.length ≤ 100 := fun t ht => by
    rw [(List.mem_replicate.mp ht).2]
    exact ⟨sb_RT ⟨alln, by show 0 ≤ 5; decide, Bt.zero _⟩, alln⟩
  have pW : ∀ n : Nat, ∀ w ∈ List.replicate n plainW, Sb 5 8 (encRW w) ∧ wtPre w := fun n w hw => by
    rw [(List.mem_replicate.mp hw).2]
    exact ⟨plain_sb, plain_sh.pre⟩
  have rfs : ∀ h ∈ [(⟨[], T3⟩ : RHs), ⟨ws, []⟩, ⟨List.replicate (5 + m) plainW, T3⟩, ⟨ws, List.replicate (5 + m) ⟨0, []⟩⟩, ⟨List.replicate 400 plainW, T3⟩], RfH h := fun h hh => by
    simp only [List.mem_cons, List.not_mem_nil, or_false] at hh
    rcases hh with e | e | e | e | e <;> rw [e]
    · exact ⟨⟨fun w hw => (by cases hw), preT3⟩, fun z => (by have := z.nw; have h2 : 1 ≤ 0 := this.1; omega), shw_RH (k := 8) (fun w hw => by cases hw) sbT3 (by show 9 * 0 ≤ 6000; decide) (by omega)⟩
    · exact ⟨⟨gPre.ws, fun t ht => (by cases ht)⟩, fun z => (by have := z.nt; have h2 : 1 ≤ 0 := this.1; omega), shw_RH sbW (fun t ht => by cases ht) (by omega) (by show 0 ≤ 10; decide)⟩
    · exact ⟨⟨fun w hw => (pW _ w hw).2, preT3⟩, fun z => (by have h2 : (List.replicate (5 + m) plainW).length ≤ 4 := z.nw.2; rw [List.length_replicate] at h2; omega), shw_RH (fun w hw => (pW _ w hw).1) sbT3 (by rw [List.length_replicate]; omega) (by omega)⟩
    · exact ⟨⟨gPre.ws, fun t ht => (pT t ht).2⟩, fun z => (by have h2 : (List.replicate (5 + m) (⟨0, []⟩ : RT)).length ≤ 4 := z.nt.2; rw [List.length_replicate] at h2; omega), shw_RH sbW (fun t ht => (pT t ht).1) (by omega) (by rw [List.length_replicate]; omega)⟩
    · exact ⟨⟨fun w hw => (pW _ w hw).2, preT3⟩, fun z => (by have h2 : (List.replicate 400 plainW).length ≤ 4 := z.nw.2; rw [List.length_replicate] at h2; omega), shw_RH (fun w hw => (pW _ w hw).1) sbT3 (by rw [List.length_replicate]; decide) (by omega)⟩
  refine run_seq (run_for (ts := [8]) (ds := [(⟨[], T3⟩ : RHs), ⟨ws, []⟩, ⟨List.replicate (5 + m) plainW, T3⟩, ⟨ws, List.replicate (5 + m) ⟨0, []⟩⟩, ⟨List.replicate 400 plainW, T3⟩].map encRH) (fun _ => [.scr a, .un, .un, .un, .un, .un, .dat (.int f0), .un, .un, .un, .un, .un, .un, .dat (encRW plainW), .un, .un, .un]) (ei_list (en_lst (ds := [encRH ⟨[], T3⟩, encRH ⟨ws, []⟩, encRH ⟨List.replicate (5 + m) plainW, T3⟩, encRH ⟨ws, List.replicate (5 + m) ⟨0, []⟩⟩, encRH ⟨List.replicate 400 plainW, T3⟩]) (ea_d (hsE _ _ _ [] T3 (en_lst (ds := []) ea_nil).d (ed_var 3 rfl)) (ea_d (hsE _ _ _ ws [] (ed_var 2 rfl) (en_lst (ds := []) ea_nil).d) (ea_d (hsE _ _ _ _ T3 (repW (5 + m) _ _ _ rfl (five _ rfl) (by omega) (by omega)).d (ed_var 3 rfl)) (ea_d (hsE _ _ _ ws _ (ed_var 2 rfl) (repT (5 + m) _ _ _ (five _ rfl) (by omega) (by omega)).d) (ea_d (hsE _ _ _ _ T3 (repW 400 _ _ _ rfl (ed_int 400) rfl (by decide)).d (ed_var 3 rfl)) ea_nil)))))).d) (.eq (.un (.un (.un (.un (.un (.eq (.un (.un (.un (.un (.un (.un (.eq (.un (.un (.un .nil))))))))))))))))) (fun i d hi hd => ⟨_, eg_name (by decide), ?_⟩)) ?_
  · rw [List.getElem?_map] at hd
    obtain ⟨h, hh, rfl⟩ := Option.map_eq_some_iff.mp hd
    exact .n (run_ifF (et_notT (et_B (ed_call (x := h) (ea_d (ed_var 8 rfl) ea_nil) rfl (rfs h (List.mem_of_getElem? hh))))) run_next) (.eq (.un (.un (.un (.un (.un (.eq (.un (.un (.un (.un (.un (.un (.eq (.un (.un (.un .nil)))))))))))))))))
  -- full houses
  have wE : Wd [0, 1000] [1, f0] := ⟨rfl, by decide, by decide, fun x hx => by
    simp only [List.mem_cons, List.not_mem_nil, or_false] at hx
    rcases hx with e | e <;> omega⟩
  have vE : ∀ v ∈ [(0 : Int), 1000], 0 ≤ v ∧ v ≤ 1000 := by decide
  have hE := dm_of wE fun v hv => Bt.mono (n := 12) (bt_range (by have := vE v hv; omega) (by have := vE v hv; omega)) (by decide)
  have m33 : ∀ k : Nat, k < 100 → CMulX 33 (k : Int) := fun k hk => Bt.mulx (n := 10) (m := 10) (bt_range (by omega) (by omega)) (bt_range (by omega) (by omega)) (by decide)
  have eM1 : ((List.range 30).map fun k : Nat => PyData.int (33 * (k : Int))) = ((List.range 30).map fun k : Nat => 33 * (k : Int)).map PyData.int := by rw [List.map_map]; rfl
  have wM : Wd ((List.range 30).map fun k : Nat => 33 * (k : Int)) (List.replicate 30 1) := wd_ones (by decide) (by decide) (by decide)
  have vM : ∀ v ∈ ((List.range 30).map fun k : Nat => 33 * (k : Int)), 0 ≤ v ∧ v ≤ 1000 := by decide
  have hM := dm_of wM fun v hv => Bt.mono (n := 12) (bt_range (by have := vM v hv; omega) (by have := vM v hv; omega)) (by decide)
  have wT : Wd [0, 1, 2, 3] [1, 2, 3, f0] := ⟨rfl, by decide, by decide, fun x hx => by
    simp only [List.mem_cons, List.not_mem_nil, or_false] at hx
    rcases hx with e | e | e | e <;> omega⟩
  have hT := tu_wtd wT (n := 4) (by decide) (by decide)
  have wU : Wd [0, 1, 2] [1, f0, 2] := ⟨rfl, by decide, by decide, fun x hx => by
    simp only [List.mem_cons, List.not_mem_nil, or_false] at hx
    rcases hx with e | e | e <;> omega⟩
  have hU := tu_wtd wU (n := 3) (by decide) (by decide)
  have dE : ∀ vs ws : List Int, PyData.list ((gatF (wtd vs ws)).map encI) = encSp (rawOf (gatF (wtd vs ws))) := fun vs ws => raw_data _
  refine run_seq (run_set (d := encRW ⟨1000, [rawOf (gatF (wtd [0, 1000] [1, f0])), rawOf (gatF (wtd ((List.range 30).map fun k : Nat => 33 * (k : Int)) (List.replicate 30 1))), [(0, 1, 1)]], rawOf (gatF (wtd [0, 1, 2, 3] [1, 2, 3, f0]))⟩) (ed_tup (ds := [.int 1000, .list [encSp (rawOf (gatF (wtd [0, 1000] [1, f0]))), encSp (rawOf (gatF (wtd ((List.range 30).map fun k : Nat => 33 * (k : Int)) (List.replicate 30 1)))), encSp [(0, 1, 1)]], encSp (rawOf (gatF (wtd [0, 1, 2, 3] [1, 2, 3, f0])))]) (ea_d (ed_int 1000) (ea_d (en_lst (ds := [encSp (rawOf (gatF (wtd [0, 1000] [1, f0]))), encSp (rawOf (gatF (wtd ((List.range 30).map fun k : Nat => 33 * (k : Int)) (List.replicate 30 1)))), encSp [(0, 1, 1)]]) (ea_d ((en_call (x := ([0, 1000], [1, f0])) (ea_d (en_lst (ds := [.int 0, .int 1000]) (ea_d (ed_int 0) (ea_d (ed_int 1000) ea_nil))).d (ea_d (en_lst (ds := [.int 1, .int f0]) (ea_d (ed_int 1) (ea_d (ed_var 6 rfl) ea_nil))).d ea_nil)) rfl wE).d.is (dE _ _)) (ea_d ((en_call (x := ((List.range 30).map fun k : Nat => 33 * (k : Int), List.replicate 30 1)) (ea_d ((en_lc (ei_is (ei_rng1 (ed_int 30) (by decide)) (rng_map 30)) (ts := [16]) (by decide) (lc_map (xs := List.range 30) (fun j : Nat => PyData.int (j : Int)) (fun k => PyData.int (33 * (k : Int))) fun j hj => ⟨_, eg_name (by decide), et_yes, ed_I (ed_int 33) (ed_var 16 rfl) (m33 j (by rw [List.mem_range] at hj; omega))⟩) (by decide)).is eM1).d (ea_d ((en_rep (en_lst (ds := [.int 1]) (ea_d (ed_int 1) ea_nil)).l (ed_int 30) (by decide)).is (d' := (List.replicate 30 (1 : Int)).map PyData.int) (by rw [rep_one, List.map_replicate]; rfl)).d ea_nil)) rfl wM).d.is (dE _ _)) (ea_d (en_r1 (ed_int 0) (ed_p2 (ed_int 1) (ed_int 1))).d ea_nil)))).d (ea_d ((en_call (x := ([0, 1, 2, 3], [1, 2, 3, f0])) (ea_d (en_lst (ds := [.int 0, .int 1, .int 2, .int 3]) (ea_d (ed_int 0) (ea_d (ed_int 1) (ea_d (ed_int 2) (ea_d (ed_int 3) ea_nil))))).d (ea_d (en_lst (ds := [.int 1, .int 2, .int 3, .int f0]) (ea_d (ed_int 1) (ea_d (ed_int 2) (ea_d (ed_int 3) (ea_d (ed_var 6 rfl) ea_nil))))).d ea_nil)) rfl wT).d.is (dE _ _)) ea_nil))))) ?_
  have fullOk : wtR ⟨1000, [rawOf (gatF (wtd [0, 1000] [1, f0])), rawOf (gatF (wtd ((List.range 30).map fun k : Nat => 33 * (k : Int)) (List.replicate 30 1))), [(0, 1, 1)]], rawOf (gatF (wtd [0, 1, 2, 3] [1, 2, 3, f0]))⟩ 4 ∧ wtPre ⟨1000, [rawOf (gatF (wtd [0, 1000] [1, f0])), rawOf (gatF (wtd ((List.range 30).map fun k : Nat => 33 * (k : Int)) (List.replicate 30 1))), [(0, 1, 1)]], rawOf (gatF (wtd [0, 1, 2, 3] [1, 2, 3, f0]))⟩ :=
    ⟨⟨by show amB (.i 1000) = true; decide, by show 3 ≤ 3; decide, s1 (hE.ok (by decide) vE) (s1 (hM.ok (by decide) vM) (s1 pl_ok.1 s0)), hT.1⟩, ⟨s1 hE.pre (s1 hM.pre (s1 pl_ok.2.pre s0)), hT.2⟩⟩
  show Run K E _ [.scr a, .un, .un, .un, .un, .un, .dat (.int f0), .un, .un, .un, .un, .un, .un, .dat (encRW plainW), .dat (encRW ⟨1000, [rawOf (gatF (wtd [0, 1000] [1, f0])), rawOf (gatF (wtd ((List.range 30).map fun k : Nat => 33 * (k : Int)) (List.replicate 30 1))), [(0, 1, 1)]], rawOf (gatF (wtd [0, 1, 2, 3] [1, 2, 3, f0]))⟩), .un, .un] _
  generalize (⟨1000, [rawOf (gatF (wtd [0, 1000] [1, f0])), rawOf (gatF (wtd ((List.range 30).map fun k : Nat => 33 * (k : Int)) (List.replicate 30 1))), [(0, 1, 1)]], rawOf (gatF (wtd [0, 1, 2, 3] [1, 2, 3, f0]))⟩ : RWt) = FW at fullOk ⊢
  refine run_seq (run_set (d := encRW ⟨1, [], rawOf (gatF (wtd [0, 1, 2] [1, f0, 2]))⟩) (ed_tup (ds := [.int 1, .list [], encSp (rawOf (gatF (wtd [0, 1, 2] [1, f0, 2])))]) (ea_d (ed_int 1) (ea_d (en_lst (ds := []) ea_nil).d (ea_d ((en_call (x := ([0, 1, 2], [1, f0, 2])) (ea_d (en_lst (ds := [.int 0, .int 1, .int 2]) (ea_d (ed_int 0) (ea_d (ed_int 1) (ea_d (ed_int 2) ea_nil)))).d (ea_d (en_lst (ds := [.int 1, .int f0, .int 2]) (ea_d (ed_int 1) (ea_d (ed_var 6 rfl) (ea_d (ed_int 2) ea_nil)))).d ea_nil)) rfl wU).d.is (dE _ _)) ea_nil))))) ?_
  have threeOk : wtR ⟨1, [], rawOf (gatF (wtd [0, 1, 2] [1, f0, 2]))⟩ 3 ∧ wtPre ⟨1, [], rawOf (gatF (wtd [0, 1, 2] [1, f0, 2]))⟩ := ⟨⟨by show amB (.i 1) = true; decide, by show 0 ≤ 3; decide, s0, hU.1⟩, ⟨s0, hU.2⟩⟩
  show Run K E _ [.scr a, .un, .un, .un, .un, .un, .dat (.int f0), .un, .un, .un, .un, .un, .un, .dat (encRW plainW), .dat (encRW FW), .dat (encRW ⟨1, [], rawOf (gatF (wtd [0, 1, 2] [1, f0, 2]))⟩), .un] _
  generalize (⟨1, [], rawOf (gatF (wtd [0, 1, 2] [1, f0, 2]))⟩ : RWt) = TW at threeOk ⊢
  have one0 : ∀ t ∈ [(⟨0, []⟩ : RT)], trB t = true ∧ ∀ l ∈ t.ls, l.ps.length ≤ 100 := fun t ht => by rw [List.mem_singleton] at ht; rw [ht]; exact ⟨by decide, alln⟩
  have repE : ∀ (n : Nat) (x : Int) (j : Nat) (W : RWt) (ev : EnvD), ev[j]? = some (.dat (encRW W)) → x = (n : Int) → n ≤ 1000 → EvN K (tOp rRep (tLst (tCons (tVar j) tNil)) (tC (.int x))) ev ((List.replicate n W).map encRW) := fun n x j W ev hj hx hn => (en_rep (en_lst (ds := [encRW W]) (ea_d (ed_var j hj) ea_nil)).l (ed_int x) (by rw [hx]; show 1 * (n : Int).toNat ≤ 1000000 ∧ _; omega)).is (by rw [hx, Int.toNat_natCast, rep_one, List.map_replicate])
  have h3 : hsPre ⟨List.replicate 3 TW, [⟨0, []⟩]⟩ ∧ hsR ⟨List.replicate 3 TW, [⟨0, []⟩]⟩ := ⟨⟨fun w hw => (by rw [(List.mem_replicate.mp hw).2]; exact threeOk.2), fun t ht => (one0 t ht).2⟩, ⟨by show 1 ≤ 3 ∧ 3 ≤ 4; decide, by show 1 ≤ 1 ∧ 1 ≤ 4; decide, fun w hw => (by rw [(List.mem_replicate.mp hw).2]; exact threeOk.1), fun t ht => (one0 t ht).1⟩⟩
  have lt00 : ∀ ev : EnvD, EvD K (tLst (tCons (tTup (tCons (tC (.int 0)) (tCons (tLst tNil) tNil))) tNil)) ev (.list ([(⟨0, []⟩ : RT)].map encRT)) := fun ev => (en_lst (ds := [encRT ⟨0, []⟩]) (ea_d (trE _ _ _ _ [] (ed_int 0) (en_lst (ds := []) ea_nil).d) ea_nil)).d
  refine run_seq (run_ifF (et_test (ed_notN (ed_callX (x := (⟨List.replicate 3 TW, [⟨0, []⟩]⟩ : RHs)) (d := .none) (ea_d (hsE _ _ _ _ _ (repE 3 3 15 TW _ rfl rfl (by decide)).d (lt00 _)) ea_nil) rfl h3.1 (okO_some h3.2)).p)) run_next) ?_
  have lk := lim_e (x := 1000) (by decide)
  have t4 : trB ⟨1000, List.replicate 4 ⟨"limit", [.i 1000]⟩⟩ = true := trB_good (by decide) (by rw [List.length_replicate]; decide) fun l hl => by rw [(List.mem_replicate.mp hl).2]; exact lk.2
  have h4 : hsPre ⟨List.replicate 4 FW, List.replicate 4 ⟨1000, List.replicate 4 ⟨"limit", [.i 1000]⟩⟩⟩ ∧ hsR ⟨List.replicate 4 FW, List.replicate 4 ⟨1000, List.replicate 4 ⟨"limit", [.i 1000]⟩⟩⟩ := ⟨⟨fun w hw => (by rw [(List.mem_replicate.mp hw).2]; exact fullOk.2), fun t ht l hl => (by
    rw [(List.mem_replicate.mp ht).2] at hl
    rw [(List.mem_replicate.mp hl).2]; exact (by decide : 1 ≤ 100))⟩, ⟨by show 1 ≤ 4 ∧ 4 ≤ 4; decide, by show 1 ≤ 4 ∧ 4 ≤ 4; decide, fun w hw => (by rw [(List.mem_replicate.mp hw).2]; exact fullOk.1), fun t ht => (by rw [(List.mem_replicate.mp ht).2]; exact t4)⟩⟩
  have h1 : hsPre ⟨[plainW], [⟨0, []⟩]⟩ ∧ hsR ⟨[plainW], [⟨0, []⟩]⟩ := ⟨⟨fun w hw => (by rw [List.mem_singleton] at hw; rw [hw]; exact plain_sh.pre), fun t ht => (one0 t ht).2⟩, ⟨by show 1 ≤ 1 ∧ 1 ≤ 4; decide, by show 1 ≤ 1 ∧ 1 ≤ 4; decide, fun w hw => (by rw [List.mem_singleton] at hw; rw [hw]; exact plain_ok (by decide)), fun t ht => (one0 t ht).1⟩⟩
  exact run_ret ((ed_andV (ed_isN (ed_callX (x := (⟨List.replicate 4 FW, List.replicate 4 ⟨1000, List.replicate 4 ⟨"limit", [.i 1000]⟩⟩⟩ : RHs)) (d := .none) (ea_d (hsE _ _ _ _ _ (repE 4 4 14 FW _ rfl rfl (by decide)).d ((en_rep (en_lst (ds := [encRT ⟨1000, List.replicate 4 ⟨"limit", [.i 1000]⟩⟩]) (ea_d (trE _ _ _ _ (List.replicate 4 ⟨"limit", [.i 1000]⟩) (ed_int 1000) ((en_rep (en_lst (ds := [encR ⟨"limit", [.i 1000]⟩]) (ea_d (lim1 _ _ _ (ed_int 1000)) ea_nil)).l (ed_int 4) (by show 1 * (4 : Int).toNat ≤ 1000000 ∧ _; decide)).is (by rw [rep_one, List.map_replicate]; rfl)).d) ea_nil)).l (ed_int 4) (by show 1 * (4 : Int).toNat ≤ 1000000 ∧ _; decide)).is (by rw [rep_one, List.map_replicate]; rfl)).d) ea_nil) rfl h4.1 (okO_some h4.2)).p) (fun _ => (ed_isN (ed_callX (x := (⟨[plainW], [⟨0, []⟩]⟩ : RHs)) (d := .none) (ea_d (hsE _ _ _ _ _ (en_lst (ds := [encRW plainW]) (ea_d (ed_var 13 rfl) ea_nil)).d (lt00 _)) ea_nil) rfl h1.1 (okO_some h1.2)).p))).is rfl)

end
end KP

namespace KP
open PySem L2 DL MX
theorem law_start {K : PySem.W.Frag} {H : Hp} {a : Addr} {ns : List Int} (hl : ns.length ≤ 63) (hS : SqL K H a (ns.map V.int)) : sp_law K [.ref a] H (fun v _ => v = .bl true) fun _ _ _ => False :=
  ⟨ns, H, Same.refl _, .cons rfl ⟨a, rfl, hS⟩ .nil, hl, fun _ _ _ _ hv => hv.bl_inv⟩
/-! ### what the top has written -/
theorem all_mk {l : PySem.W.OpenLaw} {w : World} {K : PySem.W.Frag} {h : Heap} {mg : Str → Option Value} {fa : Addr} {od0 an0 : Option Addr} {sl0 : Array (Option Value)} {oc0 kV0 dc0 pm0 cd0 ct0 : Value} {f0 : Addr}
    {od1 an1 : Option Addr} {sl1 : Array (Option Value)} {oc1 kV1 dc1 pm1 cd1 ct1 : Value} {f1 : Addr}
    {od2 an2 : Option Addr} {sl2 : Array (Option Value)} {oc2 kV2 dc2 pm2 cd2 ct2 : Value} {f2 : Addr}
    {od3 an3 : Option Addr} {sl3 : Array (Option Value)} {oc3 kV3 dc3 pm3 cd3 ct3 : Value} {f3 : Addr}
    {od4 an4 : Option Addr} {sl4 : Array (Option Value)} {oc4 kV4 dc4 pm4 cd4 ct4 : Value} {f4 : Addr}
    {od5 an5 : Option Addr} {sl5 : Array (Option Value)} {oc5 kV5 dc5 pm5 cd5 ct5 : Value} {f5 : Addr}
    {od6 an6 : Option Addr} {sl6 : Array (Option Value)} {oc6 kV6 dc6 pm6 cd6 ct6 : Value} {f6 : Addr}
    {od7 an7 : Option Addr} {sl7 : Array (Option Value)} {oc7 kV7 dc7 pm7 cd7 ct7 : Value} {f7 : Addr}
    {od8 an8 : Option Addr} {sl8 : Array (Option Value)} {oc8 kV8 dc8 pm8 cd8 ct8 : Value} {f8 : Addr}
    {od9 an9 : Option Addr} {sl9 : Array (Option Value)} {oc9 kV9 dc9 pm9 cd9 ct9 : Value} {f9 : Addr}
    {od10 an10 : Option Addr} {sl10 : Array (Option Value)} {oc10 kV10 dc10 pm10 cd10 ct10 : Value} {f10 : Addr}
    {od11 an11 : Option Addr} {sl11 : Array (Option Value)} {oc11 kV11 dc11 pm11 cd11 ct11 : Value} {f11 : Addr}
    {od12 an12 : Option Addr} {sl12 : Array (Option Value)} {oc12 kV12 dc12 pm12 cd12 ct12 : Value} {f12 : Addr}
    {od13 an13 : Option Addr} {sl13 : Array (Option Value)} {oc13 kV13 dc13 pm13 cd13 ct13 : Value} {f13 : Addr}
    {od14 an14 : Option Addr} {sl14 : Array (Option Value)} {oc14 kV14 dc14 pm14 cd14 ct14 : Value} {f14 : Addr}
    {od15 an15 : Option Addr} {sl15 : Array (Option Value)} {oc15 kV15 dc15 pm15 cd15 ct15 : Value} {f15 : Addr}
    {od16 an16 : Option Addr} {sl16 : Array (Option Value)} {oc16 kV16 dc16 pm16 cd16 ct16 : Value} {f16 : Addr}
    {od17 an17 : Option Addr} {sl17 : Array (Option Value)} {oc17 kV17 dc17 pm17 cd17 ct17 : Value} {f17 : Addr}
    {od18 an18 : Option Addr} {sl18 : Array (Option Value)} {oc18 kV18 dc18 pm18 cd18 ct18 : Value} {f18 : Addr}
    {od19 an19 : Option Addr} {sl19 : Array (Option Value)} {oc19 kV19 dc19 pm19 cd19 ct19 : Value} {f19 : Addr}
    {od20 an20 : Option Addr} {sl20 : Array (Option Value)} {oc20 kV20 dc20 pm20 cd20 ct20 : Value} {f20 : Addr}
    {od21 an21 : Option Addr} {sl21 : Array (Option Value)} {oc21 kV21 dc21 pm21 cd21 ct21 : Value} {f21 : Addr}
    {od22 an22 : Option Addr} {sl22 : Array (Option Value)} {oc22 kV22 dc22 pm22 cd22 ct22 : Value} {f22 : Addr}
    {od23 an23 : Option Addr} {sl23 : Array (Option Value)} {oc23 kV23 dc23 pm23 cd23 ct23 : Value} {f23 : Addr}
    {od24 an24 : Option Addr} {sl24 : Array (Option Value)} {oc24 kV24 dc24 pm24 cd24 ct24 : Value} {f24 : Addr}
    {od25 an25 : Option Addr} {sl25 : Array (Option Value)} {oc25 kV25 dc25 pm25 cd25 ct25 : Value} {f25 : Addr}
    {tMOST_AMOUNT : _}
    {tMOST_VALUES : _}
    {tMOST_LAYERS : _}
    {tMOST_WEATHERS : _}
    {tMOST_TREATIES : _}
    {tMOST_LINES : _}
    {aZERO : Addr} {dZERO : Option Addr} {nZERO : Nat} {sZERO : Array (Option Value)} {tZERO0 : _} {tZERO1 : _}
    {aONE : Addr} {dONE : Option Addr} {nONE : Nat} {sONE : Array (Option Value)} {tONE0 : _} {tONE1 : _}
    {C : Addr}
    {C1 : Addr}
    {C2 : Addr}
    {C3 : Addr} (X : K.In h) (G : h.Ns mainGlobals mg) (hfa : mg "law" = some (.ref fa))
    (a0 : PySem.W.nsIn K mainGlobals "fraction" = some (some (.ref f0))) (l0 : K.lookup f0 = some ⟨oc0, od0, .func (PySem.W.fnOf "fraction" "fraction" (defArgs s_fraction) (defBody s_fraction) (defScope s_fraction) .none kV0 dc0 pm0 an0 cd0 ct0), sl0⟩) (c0 : PySem.W.codeIn K cd0 "fraction" = true) (k0 : PySem.W.keepIn K (.ref f0) = true)
    (a1 : PySem.W.nsIn K mainGlobals "is_fraction" = some (some (.ref f1))) (l1 : K.lookup f1 = some ⟨oc1, od1, .func (PySem.W.fnOf "is_fraction" "is_fraction" (defArgs s_is_fraction) (defBody s_is_fraction) (defScope s_is_fraction) .none kV1 dc1 pm1 an1 cd1 ct1), sl1⟩) (c1 : PySem.W.codeIn K cd1 "is_fraction" = true) (k1 : PySem.W.keepIn K (.ref f1) = true)
    (a2 : PySem.W.nsIn K mainGlobals "plus" = some (some (.ref f2))) (l2 : K.lookup f2 = some ⟨oc2, od2, .func (PySem.W.fnOf "plus" "plus" (defArgs s_plus) (defBody s_plus) (defScope s_plus) .none kV2 dc2 pm2 an2 cd2 ct2), sl2⟩) (c2 : PySem.W.codeIn K cd2 "plus" = true) (k2 : PySem.W.keepIn K (.ref f2) = true)
    (a3 : PySem.W.nsIn K mainGlobals "total" = some (some (.ref f3))) (l3 : K.lookup f3 = some ⟨oc3, od3, .func (PySem.W.fnOf "total" "total" (defArgs s_total) (defBody s_total) (defScope s_total) .none kV3 dc3 pm3 an3 cd3 ct3), sl3⟩) (c3 : PySem.W.codeIn K cd3 "total" = true) (k3 : PySem.W.keepIn K (.ref f3) = true)
    (a4 : PySem.W.nsIn K mainGlobals "check_spread" = some (some (.ref f4))) (l4 : K.lookup f4 = some ⟨oc4, od4, .func (PySem.W.fnOf "check_spread" "check_spread" (defArgs s_check_spread) (defBody s_check_spread) (defScope s_check_spread) .none kV4 dc4 pm4 an4 cd4 ct4), sl4⟩) (c4 : PySem.W.codeIn K cd4 "check_spread" = true) (k4 : PySem.W.keepIn K (.ref f4) = true)
    (a5 : PySem.W.nsIn K mainGlobals "is_amount" = some (some (.ref f5))) (l5 : K.lookup f5 = some ⟨oc5, od5, .func (PySem.W.fnOf "is_amount" "is_amount" (defArgs s_is_amount) (defBody s_is_amount) (defScope s_is_amount) .none kV5 dc5 pm5 an5 cd5 ct5), sl5⟩) (c5 : PySem.W.codeIn K cd5 "is_amount" = true) (k5 : PySem.W.keepIn K (.ref f5) = true)
    (a6 : PySem.W.nsIn K mainGlobals "is_share" = some (some (.ref f6))) (l6 : K.lookup f6 = some ⟨oc6, od6, .func (PySem.W.fnOf "is_share" "is_share" (defArgs s_is_share) (defBody s_is_share) (defScope s_is_share) .none kV6 dc6 pm6 an6 cd6 ct6), sl6⟩) (c6 : PySem.W.codeIn K cd6 "is_share" = true) (k6 : PySem.W.keepIn K (.ref f6) = true)
    (a7 : PySem.W.nsIn K mainGlobals "check_damage" = some (some (.ref f7))) (l7 : K.lookup f7 = some ⟨oc7, od7, .func (PySem.W.fnOf "check_damage" "check_damage" (defArgs s_check_damage) (defBody s_check_damage) (defScope s_check_damage) .none kV7 dc7 pm7 an7 cd7 ct7), sl7⟩) (c7 : PySem.W.codeIn K cd7 "check_damage" = true) (k7 : PySem.W.keepIn K (.ref f7) = true)
    (a8 : PySem.W.nsIn K mainGlobals "is_layer" = some (some (.ref f8))) (l8 : K.lookup f8 = some ⟨oc8, od8, .func (PySem.W.fnOf "is_layer" "is_layer" (defArgs s_is_layer) (defBody s_is_layer) (defScope s_is_layer) .none kV8 dc8 pm8 an8 cd8 ct8), sl8⟩) (c8 : PySem.W.codeIn K cd8 "is_layer" = true) (k8 : PySem.W.keepIn K (.ref f8) = true)
    (a9 : PySem.W.nsIn K mainGlobals "check_treaty" = some (some (.ref f9))) (l9 : K.lookup f9 = some ⟨oc9, od9, .func (PySem.W.fnOf "check_treaty" "check_treaty" (defArgs s_check_treaty) (defBody s_check_treaty) (defScope s_check_treaty) .none kV9 dc9 pm9 an9 cd9 ct9), sl9⟩) (c9 : PySem.W.codeIn K cd9 "check_treaty" = true) (k9 : PySem.W.keepIn K (.ref f9) = true)
    (a10 : PySem.W.nsIn K mainGlobals "check_turns" = some (some (.ref f10))) (l10 : K.lookup f10 = some ⟨oc10, od10, .func (PySem.W.fnOf "check_turns" "check_turns" (defArgs s_check_turns) (defBody s_check_turns) (defScope s_check_turns) .none kV10 dc10 pm10 an10 cd10 ct10), sl10⟩) (c10 : PySem.W.codeIn K cd10 "check_turns" = true) (k10 : PySem.W.keepIn K (.ref f10) = true)
    (a11 : PySem.W.nsIn K mainGlobals "check_weather" = some (some (.ref f11))) (l11 : K.lookup f11 = some ⟨oc11, od11, .func (PySem.W.fnOf "check_weather" "check_weather" (defArgs s_check_weather) (defBody s_check_weather) (defScope s_check_weather) .none kV11 dc11 pm11 an11 cd11 ct11), sl11⟩) (c11 : PySem.W.codeIn K cd11 "check_weather" = true) (k11 : PySem.W.keepIn K (.ref f11) = true)
    (a12 : PySem.W.nsIn K mainGlobals "check_house" = some (some (.ref f12))) (l12 : K.lookup f12 = some ⟨oc12, od12, .func (PySem.W.fnOf "check_house" "check_house" (defArgs s_check_house) (defBody s_check_house) (defScope s_check_house) .none kV12 dc12 pm12 an12 cd12 ct12), sl12⟩) (c12 : PySem.W.codeIn K cd12 "check_house" = true) (k12 : PySem.W.keepIn K (.ref f12) = true)
    (a13 : PySem.W.nsIn K mainGlobals "_law_cell" = some (some (.ref f13))) (l13 : K.lookup f13 = some ⟨oc13, od13, .func (PySem.W.fnOf "_law_cell" "_law_cell" (defArgs s__law_cell) (defBody s__law_cell) (defScope s__law_cell) .none kV13 dc13 pm13 an13 cd13 ct13), sl13⟩) (c13 : PySem.W.codeIn K cd13 "_law_cell" = true) (k13 : PySem.W.keepIn K (.ref f13) = true)
    (a14 : PySem.W.nsIn K mainGlobals "_law_draws" = some (some (.ref f14))) (l14 : K.lookup f14 = some ⟨oc14, od14, .func (PySem.W.fnOf "_law_draws" "_law_draws" (defArgs s__law_draws) (defBody s__law_draws) (defScope s__law_draws) .none kV14 dc14 pm14 an14 cd14 ct14), sl14⟩) (c14 : PySem.W.codeIn K cd14 "_law_draws" = true) (k14 : PySem.W.keepIn K (.ref f14) = true)
    (a15 : PySem.W.nsIn K mainGlobals "_law_gcd" = some (some (.ref f15))) (l15 : K.lookup f15 = some ⟨oc15, od15, .func (PySem.W.fnOf "_law_gcd" "_law_gcd" (defArgs s__law_gcd) (defBody s__law_gcd) (defScope s__law_gcd) .none kV15 dc15 pm15 an15 cd15 ct15), sl15⟩) (c15 : PySem.W.codeIn K cd15 "_law_gcd" = true) (k15 : PySem.W.keepIn K (.ref f15) = true)
    (a16 : PySem.W.nsIn K mainGlobals "_law_fraction" = some (some (.ref f16))) (l16 : K.lookup f16 = some ⟨oc16, od16, .func (PySem.W.fnOf "_law_fraction" "_law_fraction" (defArgs s__law_fraction) (defBody s__law_fraction) (defScope s__law_fraction) .none kV16 dc16 pm16 an16 cd16 ct16), sl16⟩) (c16 : PySem.W.codeIn K cd16 "_law_fraction" = true) (k16 : PySem.W.keepIn K (.ref f16) = true)
    (a17 : PySem.W.nsIn K mainGlobals "_law_plus" = some (some (.ref f17))) (l17 : K.lookup f17 = some ⟨oc17, od17, .func (PySem.W.fnOf "_law_plus" "_law_plus" (defArgs s__law_plus) (defBody s__law_plus) (defScope s__law_plus) .none kV17 dc17 pm17 an17 cd17 ct17), sl17⟩) (c17 : PySem.W.codeIn K cd17 "_law_plus" = true) (k17 : PySem.W.keepIn K (.ref f17) = true)
    (a18 : PySem.W.nsIn K mainGlobals "_law_gathered" = some (some (.ref f18))) (l18 : K.lookup f18 = some ⟨oc18, od18, .func (PySem.W.fnOf "_law_gathered" "_law_gathered" (defArgs s__law_gathered) (defBody s__law_gathered) (defScope s__law_gathered) .none kV18 dc18 pm18 an18 cd18 ct18), sl18⟩) (c18 : PySem.W.codeIn K cd18 "_law_gathered" = true) (k18 : PySem.W.keepIn K (.ref f18) = true)
    (a19 : PySem.W.nsIn K mainGlobals "_law_weighted" = some (some (.ref f19))) (l19 : K.lookup f19 = some ⟨oc19, od19, .func (PySem.W.fnOf "_law_weighted" "_law_weighted" (defArgs s__law_weighted) (defBody s__law_weighted) (defScope s__law_weighted) .none kV19 dc19 pm19 an19 cd19 ct19), sl19⟩) (c19 : PySem.W.codeIn K cd19 "_law_weighted" = true) (k19 : PySem.W.keepIn K (.ref f19) = true)
    (a20 : PySem.W.nsIn K mainGlobals "_law_spread" = some (some (.ref f20))) (l20 : K.lookup f20 = some ⟨oc20, od20, .func (PySem.W.fnOf "_law_spread" "_law_spread" (defArgs s__law_spread) (defBody s__law_spread) (defScope s__law_spread) .none kV20 dc20 pm20 an20 cd20 ct20), sl20⟩) (c20 : PySem.W.codeIn K cd20 "_law_spread" = true) (k20 : PySem.W.keepIn K (.ref f20) = true)
    (a21 : PySem.W.nsIn K mainGlobals "_law_treaty" = some (some (.ref f21))) (l21 : K.lookup f21 = some ⟨oc21, od21, .func (PySem.W.fnOf "_law_treaty" "_law_treaty" (defArgs s__law_treaty) (defBody s__law_treaty) (defScope s__law_treaty) .none kV21 dc21 pm21 an21 cd21 ct21), sl21⟩) (c21 : PySem.W.codeIn K cd21 "_law_treaty" = true) (k21 : PySem.W.keepIn K (.ref f21) = true)
    (a22 : PySem.W.nsIn K mainGlobals "_law_house" = some (some (.ref f22))) (l22 : K.lookup f22 = some ⟨oc22, od22, .func (PySem.W.fnOf "_law_house" "_law_house" (defArgs s__law_house) (defBody s__law_house) (defScope s__law_house) .none kV22 dc22 pm22 an22 cd22 ct22), sl22⟩) (c22 : PySem.W.codeIn K cd22 "_law_house" = true) (k22 : PySem.W.keepIn K (.ref f22) = true)
    (a23 : PySem.W.nsIn K mainGlobals "_law_refused" = some (some (.ref f23))) (l23 : K.lookup f23 = some ⟨oc23, od23, .func (PySem.W.fnOf "_law_refused" "_law_refused" (defArgs s__law_refused) (defBody s__law_refused) (defScope s__law_refused) .none kV23 dc23 pm23 an23 cd23 ct23), sl23⟩) (c23 : PySem.W.codeIn K cd23 "_law_refused" = true) (k23 : PySem.W.keepIn K (.ref f23) = true)
    (a24 : PySem.W.nsIn K mainGlobals "_law_bad_weathers" = some (some (.ref f24))) (l24 : K.lookup f24 = some ⟨oc24, od24, .func (PySem.W.fnOf "_law_bad_weathers" "_law_bad_weathers" (defArgs s__law_bad_weathers) (defBody s__law_bad_weathers) (defScope s__law_bad_weathers) .none kV24 dc24 pm24 an24 cd24 ct24), sl24⟩) (c24 : PySem.W.codeIn K cd24 "_law_bad_weathers" = true) (k24 : PySem.W.keepIn K (.ref f24) = true)
    (a25 : PySem.W.nsIn K mainGlobals "law" = some (some (.ref f25))) (l25 : K.lookup f25 = some ⟨oc25, od25, .func (PySem.W.fnOf "law" "law" (defArgs s_law) (defBody s_law) (defScope s_law) .none kV25 dc25 pm25 an25 cd25 ct25), sl25⟩) (c25 : PySem.W.codeIn K cd25 "law" = true) (k25 : PySem.W.keepIn K (.ref f25) = true)
    (z_len : PySem.W.nsIn K mainGlobals "len" = some none)
    (z_int : PySem.W.nsIn K mainGlobals "int" = some none)
    (z_abs : PySem.W.nsIn K mainGlobals "abs" = some none)
    (z_range : PySem.W.nsIn K mainGlobals "range" = some none)
    (z_isinstance : PySem.W.nsIn K mainGlobals "isinstance" = some none)
    (z_list : PySem.W.nsIn K mainGlobals "list" = some none)
    (z_repr : PySem.W.nsIn K mainGlobals "repr" = some none)
    (z_sorted : PySem.W.nsIn K mainGlobals "sorted" = some none)
    (z_sum : PySem.W.nsIn K mainGlobals "sum" = some none)
    (z_min : PySem.W.nsIn K mainGlobals "min" = some none)
    (z_max : PySem.W.nsIn K mainGlobals "max" = some none)
    (z_tuple : PySem.W.nsIn K mainGlobals "tuple" = some none)
    (z_ValueError : PySem.W.nsIn K mainGlobals "ValueError" = some none)
    (q_MOST_AMOUNT : PySem.W.nsIn K mainGlobals "MOST_AMOUNT" = some (some (.int 1000 tMOST_AMOUNT)))
    (q_MOST_VALUES : PySem.W.nsIn K mainGlobals "MOST_VALUES" = some (some (.int 30 tMOST_VALUES)))
    (q_MOST_LAYERS : PySem.W.nsIn K mainGlobals "MOST_LAYERS" = some (some (.int 4 tMOST_LAYERS)))
    (q_MOST_WEATHERS : PySem.W.nsIn K mainGlobals "MOST_WEATHERS" = some (some (.int 4 tMOST_WEATHERS)))
    (q_MOST_TREATIES : PySem.W.nsIn K mainGlobals "MOST_TREATIES" = some (some (.int 4 tMOST_TREATIES)))
    (q_MOST_LINES : PySem.W.nsIn K mainGlobals "MOST_LINES" = some (some (.int 3 tMOST_LINES)))
    (z_ZERO : PySem.W.nsIn K mainGlobals "ZERO" = some (some (.ref aZERO)))
    (y_ZERO : K.lookup aZERO = some ⟨.type "tuple", dZERO, .seq #[.int 0 tZERO0, .int 1 tZERO1] nZERO, sZERO⟩)
    (z_ONE : PySem.W.nsIn K mainGlobals "ONE" = some (some (.ref aONE)))
    (y_ONE : K.lookup aONE = some ⟨.type "tuple", dONE, .seq #[.int 1 tONE0, .int 1 tONE1] nONE, sONE⟩)
    (g_C : PySem.W.nsIn K mainGlobals "BadHouse" = some (some (.ref C)))
    (ex_C : PySem.W.excIn K C [.type "ValueError", .type "Exception", .type "BaseException", .type "object"] "ValueError.__new__" = true)
    (kp_C : PySem.W.keepIn K (.ref C) = true)
    (sub_C : PySem.W.subIn K (.ref C) (.type "BaseException") = some true)
    (ty_C : PySem.W.typeIn K (.ref C) = some (.type "type"))
    (hg_C : PySem.W.findIn K (.ref C) "__getattribute__" = some (some (.builtin "BaseException.__getattribute__")))
    (hk_C : PySem.W.findIn K (.ref C) "__getattr__" = some none)
    (hd_C : PySem.W.hasDictIn K C = true)
    (ha_C : PySem.W.findIn K (.ref C) "__class__" = some (some (.builtin "object.__class__")))
    (hn_C : PySem.W.specialIn K (.builtin "object.__class__") "__get__" = some (some (.builtin "getset_descriptor.__get__")))
    (ht_C : PySem.W.takesIn K (.builtin "object.__class__") = some true)
    (hm_C : PySem.W.mroIn K C (.type "object") = some true)
    (self_C : PySem.W.subIn K (.ref C) (.ref C) = some true)
    (g_C1 : PySem.W.nsIn K mainGlobals "CofferError" = some (some (.ref C1)))
    (g_C2 : PySem.W.nsIn K mainGlobals "BadSpread" = some (some (.ref C2)))
    (ex_C2 : PySem.W.excIn K C2 [.type "ValueError", .type "Exception", .type "BaseException", .type "object"] "ValueError.__new__" = true)
    (kp_C2 : PySem.W.keepIn K (.ref C2) = true)
    (sub_C2 : PySem.W.subIn K (.ref C2) (.type "BaseException") = some true)
    (ty_C2 : PySem.W.typeIn K (.ref C2) = some (.type "type"))
    (hg_C2 : PySem.W.findIn K (.ref C2) "__getattribute__" = some (some (.builtin "BaseException.__getattribute__")))
    (hk_C2 : PySem.W.findIn K (.ref C2) "__getattr__" = some none)
    (hd_C2 : PySem.W.hasDictIn K C2 = true)
    (ha_C2 : PySem.W.findIn K (.ref C2) "__class__" = some (some (.builtin "object.__class__")))
    (hn_C2 : PySem.W.specialIn K (.builtin "object.__class__") "__get__" = some (some (.builtin "getset_descriptor.__get__")))
    (ht_C2 : PySem.W.takesIn K (.builtin "object.__class__") = some true)
    (hm_C2 : PySem.W.mroIn K C2 (.type "object") = some true)
    (self_C2 : PySem.W.subIn K (.ref C2) (.ref C2) = some true)
    (g_C3 : PySem.W.nsIn K mainGlobals "OutOfRange" = some (some (.ref C3)))
    (ex_C3 : PySem.W.excIn K C3 [.type "ValueError", .type "Exception", .type "BaseException", .type "object"] "ValueError.__new__" = true)
    (kp_C3 : PySem.W.keepIn K (.ref C3) = true)
    (sub_C3 : PySem.W.subIn K (.ref C3) (.type "BaseException") = some true)
    (ty_C3 : PySem.W.typeIn K (.ref C3) = some (.type "type"))
    (hg_C3 : PySem.W.findIn K (.ref C3) "__getattribute__" = some (some (.builtin "BaseException.__getattribute__")))
    (hk_C3 : PySem.W.findIn K (.ref C3) "__getattr__" = some none)
    (hd_C3 : PySem.W.hasDictIn K C3 = true)
    (ha_C3 : PySem.W.findIn K (.ref C3) "__class__" = some (some (.builtin "object.__class__")))
    (hn_C3 : PySem.W.specialIn K (.builtin "object.__class__") "__get__" = some (some (.builtin "getset_descriptor.__get__")))
    (ht_C3 : PySem.W.takesIn K (.builtin "object.__class__") = some true)
    (hm_C3 : PySem.W.mroIn K C3 (.type "object") = some true)
    (self_C3 : PySem.W.subIn K (.ref C3) (.ref C3) = some true)
    (q_gcd : PySem.W.nsIn K mainGlobals "gcd" = some (some (.builtin "math.gcd")))
    (kk1 : PySem.W.kitOne K (.ref C) (.ref C1) = some true)
    (kkv : PySem.W.kitOne K (.ref C) (.type "ValueError") = some true)
    (kk2 : PySem.W.kitAny K (.ref C) [.ref C2, .ref C3] = some false) :
    ∃ fd : FuncData, (∀ (s : Shared) (v : Value), BindsTo s fd ⟨[v], []⟩ [("script", v)]) ∧ ∀ base : Heap, K.In base → base.Ns mainGlobals mg → FnG l.prog w K mg base 9 fa fd ["script"] (sp_law K) := by
  have e := hfa.symm.trans (PySem.W.mg_of X G a25)
  cases e
  have m_len : mg "len" = none := PySem.W.mg_none_of X G z_len
  have m_int : mg "int" = none := PySem.W.mg_none_of X G z_int
  have m_abs : mg "abs" = none := PySem.W.mg_none_of X G z_abs
  have m_range : mg "range" = none := PySem.W.mg_none_of X G z_range
  have m_isinstance : mg "isinstance" = none := PySem.W.mg_none_of X G z_isinstance
  have m_list : mg "list" = none := PySem.W.mg_none_of X G z_list
  have m_repr : mg "repr" = none := PySem.W.mg_none_of X G z_repr
  have m_sorted : mg "sorted" = none := PySem.W.mg_none_of X G z_sorted
  have m_sum : mg "sum" = none := PySem.W.mg_none_of X G z_sum
  have m_min : mg "min" = none := PySem.W.mg_none_of X G z_min
  have m_max : mg "max" = none := PySem.W.mg_none_of X G z_max
  have m_tuple : mg "tuple" = none := PySem.W.mg_none_of X G z_tuple
  have m_ValueError : mg "ValueError" = none := PySem.W.mg_none_of X G z_ValueError
  have m_MOST_AMOUNT := PySem.W.mg_of X G q_MOST_AMOUNT
  have m_MOST_VALUES := PySem.W.mg_of X G q_MOST_VALUES
  have m_MOST_LAYERS := PySem.W.mg_of X G q_MOST_LAYERS
  have m_MOST_WEATHERS := PySem.W.mg_of X G q_MOST_WEATHERS
  have m_MOST_TREATIES := PySem.W.mg_of X G q_MOST_TREATIES
  have m_MOST_LINES := PySem.W.mg_of X G q_MOST_LINES
  have m_ZERO := PySem.W.mg_of X G z_ZERO
  have c_ZERO : ∀ G : Hp, Dd K G (.ref aZERO) (encQ 0) := fun G => .tup (xs := [.int 0, .int 1]) (.inr ⟨_, _, _, y_ZERO, rfl, rfl, (by rw [sizeLine_eq]; show 2 ≤ 16777216; omega), (.cons ⟨tZERO0, rfl⟩ (.cons ⟨tZERO1, rfl⟩ .nil))⟩) (.cons (.int 0) (.cons (.int 1) .nil))
  have m_ONE := PySem.W.mg_of X G z_ONE
  have c_ONE : ∀ G : Hp, Dd K G (.ref aONE) (encQ 1) := fun G => .tup (xs := [.int 1, .int 1]) (.inr ⟨_, _, _, y_ONE, rfl, rfl, (by rw [sizeLine_eq]; show 2 ≤ 16777216; omega), (.cons ⟨tONE0, rfl⟩ (.cons ⟨tONE1, rfl⟩ .nil))⟩) (.cons (.int 1) (.cons (.int 1) .nil))
  have M_C := PySem.W.mg_of X G g_C
  have e_C : ErrC K mg "BadHouse" C := ⟨M_C, ex_C, kp_C, sub_C, ty_C, ⟨hg_C, hk_C, sub_C, hd_C, ha_C, hn_C, ht_C, hm_C⟩, self_C⟩
  have M_C1 := PySem.W.mg_of X G g_C1
  have M_C2 := PySem.W.mg_of X G g_C2
  have e_C2 : ErrC K mg "BadSpread" C2 := ⟨M_C2, ex_C2, kp_C2, sub_C2, ty_C2, ⟨hg_C2, hk_C2, sub_C2, hd_C2, ha_C2, hn_C2, ht_C2, hm_C2⟩, self_C2⟩
  have M_C3 := PySem.W.mg_of X G g_C3
  have e_C3 : ErrC K mg "OutOfRange" C3 := ⟨M_C3, ex_C3, kp_C3, sub_C3, ty_C3, ⟨hg_C3, hk_C3, sub_C3, hd_C3, ha_C3, hn_C3, ht_C3, hm_C3⟩, self_C3⟩
  have m_gcd := PySem.W.mg_of X G q_gcd
  have F_fraction := fun_mk (st := s_fraction) l0 c0 k0
  have F_is_fraction := fun_mk (st := s_is_fraction) l1 c1 k1
  have F_plus := fun_mk (st := s_plus) l2 c2 k2
  have F_total := fun_mk (st := s_total) l3 c3 k3
  have F_check_spread := fun_mk (st := s_check_spread) l4 c4 k4
  have F_is_amount := fun_mk (st := s_is_amount) l5 c5 k5
  have F_is_share := fun_mk (st := s_is_share) l6 c6 k6
  have F_check_damage := fun_mk (st := s_check_damage) l7 c7 k7
  have F_is_layer := fun_mk (st := s_is_layer) l8 c8 k8
  have F_check_treaty := fun_mk (st := s_check_treaty) l9 c9 k9
  have F_check_turns := fun_mk (st := s_check_turns) l10 c10 k10
  have F_check_weather := fun_mk (st := s_check_weather) l11 c11 k11
  have F_check_house := fun_mk (st := s_check_house) l12 c12 k12
  have F__law_cell := fun_mk (st := s__law_cell) l13 c13 k13
  have F__law_draws := fun_mk (st := s__law_draws) l14 c14 k14
  have F__law_gcd := fun_mk (st := s__law_gcd) l15 c15 k15
  have F__law_fraction := fun_mk (st := s__law_fraction) l16 c16 k16
  have F__law_plus := fun_mk (st := s__law_plus) l17 c17 k17
  have F__law_gathered := fun_mk (st := s__law_gathered) l18 c18 k18
  have F__law_weighted := fun_mk (st := s__law_weighted) l19 c19 k19
  have F__law_spread := fun_mk (st := s__law_spread) l20 c20 k20
  have F__law_treaty := fun_mk (st := s__law_treaty) l21 c21 k21
  have F__law_house := fun_mk (st := s__law_house) l22 c22 k22
  have F__law_refused := fun_mk (st := s__law_refused) l23 c23 k23
  have F__law_bad_weathers := fun_mk (st := s__law_bad_weathers) l24 c24 k24
  have F_law := fun_mk (st := s_law) l25 c25 k25
  refine ⟨PySem.W.fnOf "law" "law" (defArgs s_law) (defBody s_law) (defScope s_law) .none kV25 dc25 pm25 an25 cd25 ct25, fun s v => .of_eq rfl, fun base _ _ => ?_⟩
  have C_fraction : Callee l.prog w K mg base (L2.CX l.prog w) 1 "fraction" ["top", "low"] (sp_fraction K C3) := ⟨f0, _, ok_fraction F_fraction m_gcd e_C3, PySem.W.mg_of X G a0, k0, F_fraction.binds (ps := ["top", "low"]) fun _ _ _ _ _ _ us hl => match us, hl with | [_, _], _ => rfl⟩
  have C_is_fraction : Callee l.prog w K mg base CX0 1 "is_fraction" ["pair"] (sp_is_fraction K) := ⟨f1, _, ok_is_fraction F_is_fraction m_gcd, PySem.W.mg_of X G a1, k1, F_is_fraction.binds (ps := ["pair"]) fun _ _ _ _ _ _ us hl => match us, hl with | [_], _ => rfl⟩
  have C_plus : Callee l.prog w K mg base CX0 2 "plus" ["first", "second"] (sp_plus K) := ⟨f2, _, ok_plus F_plus C_fraction, PySem.W.mg_of X G a2, k2, F_plus.binds (ps := ["first", "second"]) fun _ _ _ _ _ _ us hl => match us, hl with | [_, _], _ => rfl⟩
  have C_total : Callee l.prog w K mg base CX0 3 "total" ["fractions"] (sp_total K) := ⟨f3, _, ok_total F_total m_ZERO c_ZERO C_plus, PySem.W.mg_of X G a3, k3, F_total.binds (ps := ["fractions"]) fun _ _ _ _ _ _ us hl => match us, hl with | [_], _ => rfl⟩
  have C_check_spread : Callee l.prog w K mg base (L2N.CX l.prog w) 4 "check_spread" ["spread"] (sp_check_spread K C2) := ⟨f4, _, ok_check_spreadN F_check_spread m_len m_range m_ONE c_ONE e_C2 C_is_fraction C_total, PySem.W.mg_of X G a4, k4, F_check_spread.binds (ps := ["spread"]) fun _ _ _ _ _ _ us hl => match us, hl with | [_], _ => rfl⟩
  have C_is_amount : Callee l.prog w K mg base CX0 1 "is_amount" ["part"] (sp_is_amount K) := ⟨f5, _, ok_is_amount F_is_amount m_isinstance m_int m_MOST_AMOUNT, PySem.W.mg_of X G a5, k5, F_is_amount.binds (ps := ["part"]) fun _ _ _ _ _ _ us hl => match us, hl with | [_], _ => rfl⟩
  have C_is_share : Callee l.prog w K mg base CX0 2 "is_share" ["part"] (sp_is_share K) := ⟨f6, _, ok_is_share F_is_share m_isinstance m_tuple C_is_fraction, PySem.W.mg_of X G a6, k6, F_is_share.binds (ps := ["part"]) fun _ _ _ _ _ _ us hl => match us, hl with | [_], _ => rfl⟩
  have C_check_damage : Callee l.prog w K mg base (L2.CX l.prog w) 5 "check_damage" ["spread"] (sp_check_damage K C) := ⟨f7, _, ok_check_damage F_check_damage m_len m_MOST_VALUES e_C e_C2 C_check_spread C_is_amount, PySem.W.mg_of X G a7, k7, F_check_damage.binds (ps := ["spread"]) fun _ _ _ _ _ _ us hl => match us, hl with | [_], _ => rfl⟩
  have C_is_layer : Callee l.prog w K mg base CX0 3 "is_layer" ["layer"] (sp_is_layer K) := ⟨f8, _, ok_is_layer F_is_layer m_len C_is_amount C_is_share, PySem.W.mg_of X G a8, k8, F_is_layer.binds (ps := ["layer"]) fun _ _ _ _ _ _ us hl => match us, hl with | [_], _ => rfl⟩
  have C_check_treaty : Callee l.prog w K mg base (L2.CX l.prog w) 4 "check_treaty" ["treaty"] (sp_check_treaty K C) := ⟨f9, _, ok_check_treaty F_check_treaty m_len m_MOST_LAYERS e_C C_is_amount C_is_layer, PySem.W.mg_of X G a9, k9, F_check_treaty.binds (ps := ["treaty"]) fun _ _ _ _ _ _ us hl => match us, hl with | [_], _ => rfl⟩
  have C_check_turns : Callee l.prog w K mg base (L2.CX l.prog w) 5 "check_turns" ["turns", "many"] (sp_check_turns K C) := ⟨f10, _, ok_check_turns F_check_turns e_C e_C2 C_check_spread, PySem.W.mg_of X G a10, k10, F_check_turns.binds (ps := ["turns", "many"]) fun _ _ _ _ _ _ us hl => match us, hl with | [_, _], _ => rfl⟩
  have C_check_weather : Callee l.prog w K mg base (L2.CX l.prog w) 6 "check_weather" ["weather", "many"] (sp_check_weather K C) := ⟨f11, _, ok_check_weather F_check_weather m_len m_MOST_LINES e_C C_is_amount C_check_damage C_check_turns, PySem.W.mg_of X G a11, k11, F_check_weather.binds (ps := ["weather", "many"]) fun _ _ _ _ _ _ us hl => match us, hl with | [_, _], _ => rfl⟩
  have C_check_house : Callee l.prog w K mg base (L2.CX l.prog w) 7 "check_house" ["house"] (sp_check_house K C) := ⟨f12, _, ok_check_house F_check_house m_len m_MOST_WEATHERS m_MOST_TREATIES e_C C_check_weather C_check_treaty, PySem.W.mg_of X G a12, k12, F_check_house.binds (ps := ["house"]) fun _ _ _ _ _ _ us hl => match us, hl with | [_], _ => rfl⟩
  have C__law_cell : Callee l.prog w K mg base CX0 1 "_law_cell" ["script", "k"] (sp__law_cell K) := ⟨f13, _, ok__law_cell F__law_cell m_len m_int, PySem.W.mg_of X G a13, k13, F__law_cell.binds (ps := ["script", "k"]) fun _ _ _ _ _ _ us hl => match us, hl with | [_, _], _ => rfl⟩
  have C__law_draws : Callee l.prog w K mg base CX0 1 "_law_draws" ["cell", "limits"] (sp__law_draws K) := ⟨f14, _, ok__law_draws F__law_draws m_abs m_int, PySem.W.mg_of X G a14, k14, F__law_draws.binds (ps := ["cell", "limits"]) fun _ _ _ _ _ _ us hl => match us, hl with | [_, _], _ => rfl⟩
  have C__law_gcd : Callee l.prog w K mg base CX0 1 "_law_gcd" ["a", "b"] (sp__law_gcd K) := ⟨f15, _, ok__law_gcd F__law_gcd m_abs m_int m_range, PySem.W.mg_of X G a15, k15, F__law_gcd.binds (ps := ["a", "b"]) fun _ _ _ _ _ _ us hl => match us, hl with | [_, _], _ => rfl⟩
  have C__law_fraction : Callee l.prog w K mg base CX0 2 "_law_fraction" ["top", "low"] (sp__law_fraction K) := ⟨f16, _, ok__law_fraction F__law_fraction C__law_gcd, PySem.W.mg_of X G a16, k16, F__law_fraction.binds (ps := ["top", "low"]) fun _ _ _ _ _ _ us hl => match us, hl with | [_, _], _ => rfl⟩
  have C__law_plus : Callee l.prog w K mg base CX0 3 "_law_plus" ["first", "second"] (sp__law_plus K) := ⟨f17, _, ok__law_plus F__law_plus C__law_fraction, PySem.W.mg_of X G a17, k17, F__law_plus.binds (ps := ["first", "second"]) fun _ _ _ _ _ _ us hl => match us, hl with | [_, _], _ => rfl⟩
  have C__law_gathered : Callee l.prog w K mg base CX0 4 "_law_gathered" ["items"] (sp__law_gathered K) := ⟨f18, _, ok__law_gathered F__law_gathered m_sorted C__law_plus, PySem.W.mg_of X G a18, k18, F__law_gathered.binds (ps := ["items"]) fun _ _ _ _ _ _ us hl => match us, hl with | [_], _ => rfl⟩
  have C__law_weighted : Callee l.prog w K mg base CX0 5 "_law_weighted" ["values", "weights"] (sp__law_weighted K) := ⟨f19, _, ok__law_weighted F__law_weighted m_len m_range m_sum C__law_fraction C__law_gathered, PySem.W.mg_of X G a19, k19, F__law_weighted.binds (ps := ["values", "weights"]) fun _ _ _ _ _ _ us hl => match us, hl with | [_, _], _ => rfl⟩
  have C__law_spread : Callee l.prog w K mg base CX0 6 "_law_spread" ["cell", "count", "low", "width"] (sp__law_spread K) := ⟨f20, _, ok__law_spread F__law_spread C__law_draws C__law_weighted, PySem.W.mg_of X G a20, k20, F__law_spread.binds (ps := ["cell", "count", "low", "width"]) fun _ _ _ _ _ _ us hl => match us, hl with | [_, _, _, _], _ => rfl⟩
  have C__law_treaty : Callee l.prog w K mg base CX0 3 "_law_treaty" ["cell", "most"] (sp__law_treaty K) := ⟨f21, _, ok__law_treaty F__law_treaty m_int m_max m_min m_range C__law_draws C__law_fraction, PySem.W.mg_of X G a21, k21, F__law_treaty.binds (ps := ["cell", "most"]) fun _ _ _ _ _ _ us hl => match us, hl with | [_, _], _ => rfl⟩
  have C__law_house : Callee l.prog w K mg base CX0 7 "_law_house" ["cell", "more", "places", "lines", "wide"] (sp__law_house K) := ⟨f22, _, ok__law_house F__law_house m_int m_range C__law_draws C__law_spread C__law_treaty, PySem.W.mg_of X G a22, k22, F__law_house.binds (ps := ["cell", "more", "places", "lines", "wide"]) fun _ _ _ _ _ _ us hl => match us, hl with | [_, _, _, _, _], _ => rfl⟩
  have C__law_refused : CalleeG l.prog w K mg base 8 "_law_refused" ["house"] (sp__law_refused K) := ⟨f23, _, ok__law_refused F__law_refused ⟨e_C, M_C1, M_C2, M_C3, m_ValueError, kk1, kkv, kk2⟩ m_isinstance m_repr C_check_house, PySem.W.mg_of X G a23, k23, F__law_refused.binds (ps := ["house"]) fun _ _ _ _ _ _ us hl => match us, hl with | [_], _ => rfl⟩
  have C__law_bad_weathers : Callee l.prog w K mg base CX0 6 "_law_bad_weathers" ["weathers", "at", "far"] (sp__law_bad_weathers K) := ⟨f24, _, ok__law_bad_weathers F__law_bad_weathers m_len m_int m_range C__law_weighted, PySem.W.mg_of X G a24, k24, F__law_bad_weathers.binds (ps := ["weathers", "at", "far"]) fun _ _ _ _ _ _ us hl => match us, hl with | [_, _, _], _ => rfl⟩
  exact ok_law (C := C) F_law m_len m_int m_range m_repr C_check_house C__law_cell C__law_draws C__law_weighted C__law_house C__law_refused C__law_bad_weathers
end KP
open PySem PySem.W PyProof.Rows
set_option maxHeartbeats 0 in
theorem PySem.Challenge.cw_lastcoffer_k08_houses_checked_holds : PySem.Challenge.rw_lastcoffer_k08_houses_checked.Holds := by
  w_on; o_law; k_head; (case hw => w_witness2)
  k_fill
  refine DL.law_G (l := PySem.Challenge.rw_lastcoffer_k08_houses_checked) (n := 63) (k := 9) (x := "script") (sp := fun w => KP.sp_law _) rfl (by decide) rfl ⟨rfl, by decide, by decide⟩ (fun w h Y => PySem.W.kIn_of Y) ?F (fun w H a ns hl hS => KP.law_start hl hS)
  case F =>
    intro w mg fa h KX G hmg
    refine' KP.all_mk KX G hmg ?a0 ?l0 ?c0 ?k0 ?a1 ?l1 ?c1 ?k1 ?a2 ?l2 ?c2 ?k2 ?a3 ?l3 ?c3 ?k3 ?a4 ?l4 ?c4 ?k4 ?a5 ?l5 ?c5 ?k5 ?a6 ?l6 ?c6 ?k6 ?a7 ?l7 ?c7 ?k7 ?a8 ?l8 ?c8 ?k8 ?a9 ?l9 ?c9 ?k9 ?a10 ?l10 ?c10 ?k10 ?a11 ?l11 ?c11 ?k11 ?a12 ?l12 ?c12 ?k12 ?a13 ?l13 ?c13 ?k13 ?a14 ?l14 ?c14 ?k14 ?a15 ?l15 ?c15 ?k15 ?a16 ?l16 ?c16 ?k16 ?a17 ?l17 ?c17 ?k17 ?a18 ?l18 ?c18 ?k18 ?a19 ?l19 ?c19 ?k19 ?a20 ?l20 ?c20 ?k20 ?a21 ?l21 ?c21 ?k21 ?a22 ?l22 ?c22 ?k22 ?a23 ?l23 ?c23 ?k23 ?a24 ?l24 ?c24 ?k24 ?a25 ?l25 ?c25 ?k25 ?z_len ?z_int ?z_abs ?z_range ?z_isinstance ?z_list ?z_repr ?z_sorted ?z_sum ?z_min ?z_max ?z_tuple ?z_ValueError ?q_MOST_AMOUNT ?q_MOST_VALUES ?q_MOST_LAYERS ?q_MOST_WEATHERS ?q_MOST_TREATIES ?q_MOST_LINES ?z_ZERO ?y_ZERO ?z_ONE ?y_ONE ?g_C ?ex_C ?kp_C ?sub_C ?ty_C ?hg_C ?hk_C ?hd_C ?ha_C ?hn_C ?ht_C ?hm_C ?self_C ?g_C1 ?g_C2 ?ex_C2 ?kp_C2 ?sub_C2 ?ty_C2 ?hg_C2 ?hk_C2 ?hd_C2 ?ha_C2 ?hn_C2 ?ht_C2 ?hm_C2 ?self_C2 ?g_C3 ?ex_C3 ?kp_C3 ?sub_C3 ?ty_C3 ?hg_C3 ?hk_C3 ?hd_C3 ?ha_C3 ?hn_C3 ?ht_C3 ?hm_C3 ?self_C3 ?q_gcd ?kk1 ?kkv ?kk2
    (case a0 => first | k_is | k_exc | rfl)
    (case l0 => first | k_is | k_exc | rfl)
    (case c0 => first | k_is | k_exc | rfl)
    (case k0 => first | k_is | k_exc | rfl)
    (case a1 => first | k_is | k_exc | rfl)
    (case l1 => first | k_is | k_exc | rfl)
    (case c1 => first | k_is | k_exc | rfl)
    (case k1 => first | k_is | k_exc | rfl)
    (case a2 => first | k_is | k_exc | rfl)
    (case l2 => first | k_is | k_exc | rfl)
    (case c2 => first | k_is | k_exc | rfl)
    (case k2 => first | k_is | k_exc | rfl)
    (case a3 => first | k_is | k_exc | rfl)
    (case l3 => first | k_is | k_exc | rfl)
    (case c3 => first | k_is | k_exc | rfl)
    (case k3 => first | k_is | k_exc | rfl)
    (case a4 => first | k_is | k_exc | rfl)
    (case l4 => first | k_is | k_exc | rfl)
    (case c4 => first | k_is | k_exc | rfl)
    (case k4 => first | k_is | k_exc | rfl)
    (case a5 => first | k_is | k_exc | rfl)
    (case l5 => first | k_is | k_exc | rfl)
    (case c5 => first | k_is | k_exc | rfl)
    (case k5 => first | k_is | k_exc | rfl)
    (case a6 => first | k_is | k_exc | rfl)
    (case l6 => first | k_is | k_exc | rfl)
    (case c6 => first | k_is | k_exc | rfl)
    (case k6 => first | k_is | k_exc | rfl)
    (case a7 => first | k_is | k_exc | rfl)
    (case l7 => first | k_is | k_exc | rfl)
    (case c7 => first | k_is | k_exc | rfl)
    (case k7 => first | k_is | k_exc | rfl)
    (case a8 => first | k_is | k_exc | rfl)
    (case l8 => first | k_is | k_exc | rfl)
    (case c8 => first | k_is | k_exc | rfl)
    (case k8 => first | k_is | k_exc | rfl)
    (case a9 => first | k_is | k_exc | rfl)
    (case l9 => first | k_is | k_exc | rfl)
    (case c9 => first | k_is | k_exc | rfl)
    (case k9 => first | k_is | k_exc | rfl)
    (case a10 => first | k_is | k_exc | rfl)
    (case l10 => first | k_is | k_exc | rfl)
    (case c10 => first | k_is | k_exc | rfl)
    (case k10 => first | k_is | k_exc | rfl)
    (case a11 => first | k_is | k_exc | rfl)
    (case l11 => first | k_is | k_exc | rfl)
    (case c11 => first | k_is | k_exc | rfl)
    (case k11 => first | k_is | k_exc | rfl)
    (case a12 => first | k_is | k_exc | rfl)
    (case l12 => first | k_is | k_exc | rfl)
    (case c12 => first | k_is | k_exc | rfl)
    (case k12 => first | k_is | k_exc | rfl)
    (case a13 => first | k_is | k_exc | rfl)
    (case l13 => first | k_is | k_exc | rfl)
    (case c13 => first | k_is | k_exc | rfl)
    (case k13 => first | k_is | k_exc | rfl)
    (case a14 => first | k_is | k_exc | rfl)
    (case l14 => first | k_is | k_exc | rfl)
    (case c14 => first | k_is | k_exc | rfl)
    (case k14 => first | k_is | k_exc | rfl)
    (case a15 => first | k_is | k_exc | rfl)
    (case l15 => first | k_is | k_exc | rfl)
    (case c15 => first | k_is | k_exc | rfl)
    (case k15 => first | k_is | k_exc | rfl)
    (case a16 => first | k_is | k_exc | rfl)
    (case l16 => first | k_is | k_exc | rfl)
    (case c16 => first | k_is | k_exc | rfl)
    (case k16 => first | k_is | k_exc | rfl)
    (case a17 => first | k_is | k_exc | rfl)
    (case l17 => first | k_is | k_exc | rfl)
    (case c17 => first | k_is | k_exc | rfl)
    (case k17 => first | k_is | k_exc | rfl)
    (case a18 => first | k_is | k_exc | rfl)
    (case l18 => first | k_is | k_exc | rfl)
    (case c18 => first | k_is | k_exc | rfl)
    (case k18 => first | k_is | k_exc | rfl)
    (case a19 => first | k_is | k_exc | rfl)
    (case l19 => first | k_is | k_exc | rfl)
    (case c19 => first | k_is | k_exc | rfl)
    (case k19 => first | k_is | k_exc | rfl)
    (case a20 => first | k_is | k_exc | rfl)
    (case l20 => first | k_is | k_exc | rfl)
    (case c20 => first | k_is | k_exc | rfl)
    (case k20 => first | k_is | k_exc | rfl)
    (case a21 => first | k_is | k_exc | rfl)
    (case l21 => first | k_is | k_exc | rfl)
    (case c21 => first | k_is | k_exc | rfl)
    (case k21 => first | k_is | k_exc | rfl)
    (case a22 => first | k_is | k_exc | rfl)
    (case l22 => first | k_is | k_exc | rfl)
    (case c22 => first | k_is | k_exc | rfl)
    (case k22 => first | k_is | k_exc | rfl)
    (case a23 => first | k_is | k_exc | rfl)
    (case l23 => first | k_is | k_exc | rfl)
    (case c23 => first | k_is | k_exc | rfl)
    (case k23 => first | k_is | k_exc | rfl)
    (case a24 => first | k_is | k_exc | rfl)
    (case l24 => first | k_is | k_exc | rfl)
    (case c24 => first | k_is | k_exc | rfl)
    (case k24 => first | k_is | k_exc | rfl)
    (case a25 => first | k_is | k_exc | rfl)
    (case l25 => first | k_is | k_exc | rfl)
    (case c25 => first | k_is | k_exc | rfl)
    (case k25 => first | k_is | k_exc | rfl)
    (case z_len => first | k_is | k_exc | rfl)
    (case z_int => first | k_is | k_exc | rfl)
    (case z_abs => first | k_is | k_exc | rfl)
    (case z_range => first | k_is | k_exc | rfl)
    (case z_isinstance => first | k_is | k_exc | rfl)
    (case z_list => first | k_is | k_exc | rfl)
    (case z_repr => first | k_is | k_exc | rfl)
    (case z_sorted => first | k_is | k_exc | rfl)
    (case z_sum => first | k_is | k_exc | rfl)
    (case z_min => first | k_is | k_exc | rfl)
    (case z_max => first | k_is | k_exc | rfl)
    (case z_tuple => first | k_is | k_exc | rfl)
    (case z_ValueError => first | k_is | k_exc | rfl)
    (case q_MOST_AMOUNT => first | k_is | k_exc | rfl)
    (case q_MOST_VALUES => first | k_is | k_exc | rfl)
    (case q_MOST_LAYERS => first | k_is | k_exc | rfl)
    (case q_MOST_WEATHERS => first | k_is | k_exc | rfl)
    (case q_MOST_TREATIES => first | k_is | k_exc | rfl)
    (case q_MOST_LINES => first | k_is | k_exc | rfl)
    (case z_ZERO => first | k_is | k_exc | rfl)
    (case y_ZERO => first | k_is | k_exc | rfl)
    (case z_ONE => first | k_is | k_exc | rfl)
    (case y_ONE => first | k_is | k_exc | rfl)
    (case g_C => first | k_is | k_exc | rfl)
    (case ex_C => first | k_is | k_exc | rfl)
    (case kp_C => first | k_is | k_exc | rfl)
    (case sub_C => first | k_is | k_exc | rfl)
    (case ty_C => first | k_is | k_exc | rfl)
    (case hg_C => first | k_is | k_exc | rfl)
    (case hk_C => first | k_is | k_exc | rfl)
    (case hd_C => first | k_is | k_exc | rfl)
    (case ha_C => first | k_is | k_exc | rfl)
    (case hn_C => first | k_is | k_exc | rfl)
    (case ht_C => first | k_is | k_exc | rfl)
    (case hm_C => first | k_is | k_exc | rfl)
    (case self_C => first | k_is | k_exc | rfl)
    (case g_C1 => first | k_is | k_exc | rfl)
    (case g_C2 => first | k_is | k_exc | rfl)
    (case ex_C2 => first | k_is | k_exc | rfl)
    (case kp_C2 => first | k_is | k_exc | rfl)
    (case sub_C2 => first | k_is | k_exc | rfl)
    (case ty_C2 => first | k_is | k_exc | rfl)
    (case hg_C2 => first | k_is | k_exc | rfl)
    (case hk_C2 => first | k_is | k_exc | rfl)
    (case hd_C2 => first | k_is | k_exc | rfl)
    (case ha_C2 => first | k_is | k_exc | rfl)
    (case hn_C2 => first | k_is | k_exc | rfl)
    (case ht_C2 => first | k_is | k_exc | rfl)
    (case hm_C2 => first | k_is | k_exc | rfl)
    (case self_C2 => first | k_is | k_exc | rfl)
    (case g_C3 => first | k_is | k_exc | rfl)
    (case ex_C3 => first | k_is | k_exc | rfl)
    (case kp_C3 => first | k_is | k_exc | rfl)
    (case sub_C3 => first | k_is | k_exc | rfl)
    (case ty_C3 => first | k_is | k_exc | rfl)
    (case hg_C3 => first | k_is | k_exc | rfl)
    (case hk_C3 => first | k_is | k_exc | rfl)
    (case hd_C3 => first | k_is | k_exc | rfl)
    (case ha_C3 => first | k_is | k_exc | rfl)
    (case hn_C3 => first | k_is | k_exc | rfl)
    (case ht_C3 => first | k_is | k_exc | rfl)
    (case hm_C3 => first | k_is | k_exc | rfl)
    (case self_C3 => first | k_is | k_exc | rfl)
    (case q_gcd => first | k_is | k_exc | rfl)
    (case kk1 => first | k_is | k_exc | rfl)
    (case kkv => first | k_is | k_exc | rfl)
    (case kk2 => first | k_is | k_exc | rfl)

