import PyProof.Rows.All
import Wide.All
import OpenK.AllK
import Wide.FinOn
import HandS.ForMost
import HandS.ForExc
import HandS.Wide
import HandS.WideBits
import HandS.Gcd
import HandS.IsInst
import HandS.ExcIs
import PySem.Challenge.RW_lastcoffer_k01_fractions_computed
set_option Elab.async false
set_option linter.all false
set_option maxRecDepth 100000
set_option maxHeartbeats 4000000
/-! Data upon the heap: what a body does, said of plain data. G is the published part (never written again), H all that is tracked. -/
namespace DL
open PySem L2
abbrev D := PyData

/-! ### data at a value -/
mutual
inductive Dd (K : PySem.W.Frag) (G : Hp) : V → D → Prop
  | non : Dd K G .non .none
  | bl (b : Bool) : Dd K G (.bl b) (.bool b)
  | int (i : Int) : Dd K G (.int i) (.int i)
  | str (x : Str) : Dd K G (.str x) (.str x)
  | lst {a : Addr} {xs : List V} {ds : List D} : G a = some (.lst xs) → Dds K G xs ds → Dd K G (.ref a) (.list ds)
  | tup {a : Addr} {xs : List V} {ds : List D} : SqT K G a xs → Dds K G xs ds → Dd K G (.ref a) (.tuple ds)
inductive Dds (K : PySem.W.Frag) (G : Hp) : List V → List D → Prop
  | nil : Dds K G [] []
  | cons {v : V} {vs : List V} {d : D} {ds : List D} : Dd K G v d → Dds K G vs ds → Dds K G (v :: vs) (d :: ds)
end
variable {K : PySem.W.Frag} {G G' G1 G2 H H' H1 H2 : Hp}

theorem sqT_mono {a : Addr} {xs : List V} (e : Same G G') (h : SqT K G a xs) : SqT K G' a xs := by
  rcases h with (h | ⟨o, h⟩) | h
  · exact .inl (.inl (e _ _ h))
  · exact .inl (.inr ⟨o, e _ _ h⟩)
  · exact .inr h
mutual
theorem Dd.mono (e : Same G G') : ∀ {v : V} {d : D}, Dd K G v d → Dd K G' v d
  | _, _, .non => .non
  | _, _, .bl b => .bl b
  | _, _, .int i => .int i
  | _, _, .str x => .str x
  | _, _, .lst h hs => .lst (e _ _ h) (hs.mono e)
  | _, _, .tup h hs => .tup (sqT_mono e h) (hs.mono e)
theorem Dds.mono (e : Same G G') : ∀ {vs : List V} {ds : List D}, Dds K G vs ds → Dds K G' vs ds
  | _, _, .nil => .nil
  | _, _, .cons h hs => .cons (h.mono e) (hs.mono e)
end
mutual
theorem Dd.dp : ∀ {v : V} {d : D}, Dd K G v d → Dp K G v d
  | _, _, .non => .non
  | _, _, .bl b => .bl b
  | _, _, .int i => .int i
  | _, _, .str x => .str x
  | _, _, .lst h hs => .lst (SqL.of h) hs.dp
  | _, _, .tup h hs => .tup h hs.dp
theorem Dds.dp : ∀ {vs : List V} {ds : List D}, Dds K G vs ds → DpAll K G vs ds
  | _, _, .nil => .nil
  | _, _, .cons h hs => .cons h.dp hs.dp
end
theorem Dds.len : ∀ {vs : List V} {ds : List D}, Dds K G vs ds → vs.length = ds.length
  | _, _, .nil => rfl
  | _, _, .cons _ hs => congrArg (· + 1) hs.len
theorem Dds.get : ∀ {vs : List V} {ds : List D} {i : Nat} {d : D}, Dds K G vs ds → ds[i]? = some d → ∃ v, vs[i]? = some v ∧ Dd K G v d
  | _, _, _, _, .nil, e => by simp at e
  | _, _, 0, _, .cons h _, e => ⟨_, rfl, by simp at e; subst e; exact h⟩
  | _, _, i + 1, d, .cons _ hs, e => by
    obtain ⟨v, h1, h2⟩ := hs.get (i := i) (d := d) (by simpa using e)
    exact ⟨v, by simpa using h1, h2⟩
theorem Dds.getV : ∀ {vs : List V} {ds : List D} {i : Nat} {v : V}, Dds K G vs ds → vs[i]? = some v → ∃ d, ds[i]? = some d ∧ Dd K G v d
  | _, _, _, _, .nil, e => by simp at e
  | _, _, 0, _, .cons h _, e => ⟨_, rfl, by simp at e; subst e; exact h⟩
  | _, _, i + 1, d, .cons _ hs, e => by
    obtain ⟨v, h1, h2⟩ := hs.getV (i := i) (v := d) (by simpa using e)
    exact ⟨v, by simpa using h1, h2⟩
theorem Dds.append : ∀ {vs ws : List V} {ds es : List D}, Dds K G vs ds → Dds K G ws es → Dds K G (vs ++ ws) (ds ++ es)
  | _, _, _, _, .nil, h => h
  | _, _, _, _, .cons a b, h => .cons a (b.append h)
theorem Dds.take (n : Nat) : ∀ {vs : List V} {ds : List D}, Dds K G vs ds → Dds K G (vs.take n) (ds.take n) := by
  induction n with
  | zero => intro vs ds _; simp; exact .nil
  | succ n ih =>
    intro vs ds h
    cases h with
    | nil => simp; exact .nil
    | cons a b => simp; exact .cons a (ih b)
theorem Dds.drop (n : Nat) : ∀ {vs : List V} {ds : List D}, Dds K G vs ds → Dds K G (vs.drop n) (ds.drop n) := by
  induction n with
  | zero => intro vs ds h; simpa using h
  | succ n ih =>
    intro vs ds h
    cases h with
    | nil => simp; exact .nil
    | cons a b => simpa using ih b
theorem Dds.set {v : V} {d : D} (hv : Dd K G v d) : ∀ {vs : List V} {ds : List D} (i : Nat), Dds K G vs ds → Dds K G (vs.set i v) (ds.set i d)
  | _, _, _, .nil => .nil
  | _, _, 0, .cons _ b => .cons hv b
  | _, _, i + 1, .cons a b => .cons a (Dds.set hv i b)
theorem Dd.int_inv {v : V} {i : Int} (h : Dd K G v (.int i)) : v = .int i := by cases h; rfl
theorem Dd.bl_inv {v : V} {b : Bool} (h : Dd K G v (.bool b)) : v = .bl b := by cases h; rfl
theorem Dd.str_inv {v : V} {x : Str} (h : Dd K G v (.str x)) : v = .str x := by cases h; rfl
theorem Dd.non_inv {v : V} (h : Dd K G v .none) : v = .non := by cases h; rfl
theorem Dd.tup_inv {v : V} {ds : List D} (h : Dd K G v (.tuple ds)) : ∃ a xs, v = .ref a ∧ SqT K G a xs ∧ Dds K G xs ds := by cases h with | tup a b => exact ⟨_, _, rfl, a, b⟩
theorem Dd.lst_inv {v : V} {ds : List D} (h : Dd K G v (.list ds)) : ∃ a xs, v = .ref a ∧ G a = some (.lst xs) ∧ Dds K G xs ds := by cases h with | lst a b => exact ⟨_, _, rfl, a, b⟩
theorem Dds.ints_inv : ∀ {vs : List V} {ns : List Int}, Dds K G vs (ns.map PyData.int) → vs = ns.map V.int
  | _, [], .nil => rfl
  | _, n :: ns, .cons h hs => by rw [h.int_inv, hs.ints_inv]; rfl
theorem Dds.ints : ∀ (ns : List Int), Dds K G (ns.map V.int) (ns.map PyData.int)
  | [] => .nil
  | n :: ns => .cons (.int n) (Dds.ints ns)
theorem Dds.bls_inv : ∀ {vs : List V} {ns : List Bool}, Dds K G vs (ns.map PyData.bool) → vs = ns.map V.bl
  | _, [], .nil => rfl
  | _, n :: ns, .cons h hs => by rw [h.bl_inv, hs.bls_inv]; rfl

/-! ### going on: G' publishes more, H' keeps all -/
structure Fw (G H G' H' : Hp) : Prop where
  gg : Same G G'
  gh : Same G' H'
  hh : Same H H'
  fr : ∀ l, H l ≠ none → G l = none → G' l = none
theorem Fw.refl (gh : Same G H) : Fw G H G H := ⟨Same.refl _, gh, Same.refl _, fun _ _ h => h⟩
theorem Fw.trans (a : Fw G H G1 H1) (b : Fw G1 H1 G2 H2) : Fw G H G2 H2 :=
  ⟨a.gg.trans b.gg, b.gh, a.hh.trans b.hh, fun l hl gl => b.fr l (fun z => hl (by
    cases q : H l with
    | none => rfl
    | some o => rw [a.hh l o q] at z; cases z)) (a.fr l hl gl)⟩
theorem same_upd {p : Addr} {o : HO} (h : H p = none) : Same H (upd H p o) := fun b x e => by
  rw [upd_ne (ne_of_none e h)]; exact e
theorem same_upd2 {p : Addr} {o : HO} (gh : Same G H) (h : G p = none) : Same G (upd H p o) := fun b x e => by
  rw [upd_ne (ne_of_none e h)]; exact gh _ _ e
/-- a new object, published at once -/
theorem Fw.new {p : Addr} {o : HO} (gh : Same G H) (h : H p = none) : Fw G H (upd G p o) (upd H p o) := by
  have hg : G p = none := gh.free h
  refine ⟨same_upd hg, fun b x e => ?_, same_upd h, fun l hl gl => ?_⟩
  · by_cases hb : b = p
    · subst hb; rw [upd_same] at e ⊢; exact e
    · rw [upd_ne hb] at e ⊢; exact gh _ _ e
  · rw [upd_ne (fun z => hl (by rw [z]; exact h))]; exact gl
/-- a new object, not published -/
theorem Fw.hid {p : Addr} {o : HO} (gh : Same G H) (h : H p = none) : Fw G H G (upd H p o) :=
  ⟨Same.refl _, same_upd2 gh (gh.free h), same_upd h, fun _ _ g => g⟩
/-- what stands hidden is published -/
theorem Fw.pub {p : Addr} {o : HO} (a : Fw G H G' H') (h : H p = none) (h' : H' p = some o) (g' : G' p = none) : Fw G H (upd G' p o) H' := by
  refine ⟨a.gg.trans (same_upd g'), fun b x e => ?_, a.hh, fun l hl gl => ?_⟩
  · by_cases hb : b = p
    · subst hb; rw [upd_same] at e; rw [h', e]
    · rw [upd_ne hb] at e; exact a.gh _ _ e
  · rw [upd_ne (fun z => hl (by rw [z]; exact h))]; exact a.fr l hl gl

/-! ### slots -/
inductive SD
  | un
  | dat (d : D)
  | ml (ds : List D)
  | md (kvs : List (Key × D))
  | raw (v : V)
  | scr (ns : List Int)
def SlOk (K : PySem.W.Frag) (G H : Hp) (o : Option V) : SD → Prop
  | .un => True
  | .dat d => ∃ v, o = some v ∧ Dd K G v d
  | .ml ds => ∃ l xs, o = some (.ref l) ∧ G l = none ∧ H l = some (.lst xs) ∧ Dds K G xs ds
  | .md kvs => ∃ l kv, o = some (.ref l) ∧ G l = none ∧ H l = some (.dK kv) ∧ kv.map (·.1) = kvs.map (·.1) ∧ Dds K G (kv.map (·.2)) (kvs.map (·.2))
  | .raw v => o = some v
  | .scr ns => ∃ a, o = some (.ref a) ∧ SqL K G a (ns.map V.int)
def SD.isMut : SD → Bool
  | .ml _ => true
  | .md _ => true
  | _ => false
abbrev EnvD := List SD
/-- the body's state: entered at G0, H0; now G, H; the slots are as env says -/
structure Ok (K : PySem.W.Frag) (G0 H0 G H : Hp) (σ : St) (env : EnvD) : Prop where
  gh : Same G H
  fw : Fw G0 H0 G H
  len : σ.length = env.length
  sl : ∀ (i : Nat) (s : SD), env[i]? = some s → ∃ o, σ[i]? = some o ∧ SlOk K G H o s
  fresh : ∀ (i : Nat) (s : SD) (l : Addr), env[i]? = some s → s.isMut = true → σ[i]? = some (some (.ref l)) → H0 l = none
  apart : ∀ (i j : Nat) (s t : SD) (l m : Addr), i ≠ j → env[i]? = some s → env[j]? = some t → s.isMut = true → t.isMut = true → σ[i]? = some (some (.ref l)) → σ[j]? = some (some (.ref m)) → l ≠ m
variable {G0 H0 : Hp} {σ σ' : St} {env env' : EnvD}

theorem SlOk.fw {o : Option V} {s : SD} (a : Fw G H G' H') (h : SlOk K G H o s) : SlOk K G' H' o s := by
  cases s with
  | un => trivial
  | dat d => obtain ⟨v, e, hd⟩ := h; exact ⟨v, e, hd.mono a.gg⟩
  | ml ds => obtain ⟨l, xs, e, g, hl, hs⟩ := h; exact ⟨l, xs, e, a.fr l (by rw [hl]; simp) g, a.hh _ _ hl, hs.mono a.gg⟩
  | md kvs => obtain ⟨l, kv, e, g, hl, hk, hs⟩ := h; exact ⟨l, kv, e, a.fr l (by rw [hl]; simp) g, a.hh _ _ hl, hk, hs.mono a.gg⟩
  | raw v => exact h
  | scr ns => obtain ⟨l, e, hl⟩ := h; exact ⟨l, e, a.gg.seq hl⟩
theorem Ok.go (ok : Ok K G0 H0 G H σ env) (a : Fw G H G' H') : Ok K G0 H0 G' H' σ env :=
  ⟨a.gh, ok.fw.trans a, ok.len, fun i s hi => let ⟨o, h1, h2⟩ := ok.sl i s hi; ⟨o, h1, h2.fw a⟩, ok.fresh, ok.apart⟩
theorem get_set {α : Type} {l : List α} {i j : Nat} {x y : α} (h : (l.set i x)[j]? = some y) : (i = j ∧ j < l.length ∧ y = x) ∨ (i ≠ j ∧ l[j]? = some y) := by
  by_cases e : i = j
  · subst e
    rw [List.getElem?_set_self'] at h
    cases q : l[i]? with
    | none => rw [q] at h; simp at h
    | some z =>
      rw [q] at h
      simp at h
      exact .inl ⟨rfl, (List.getElem?_eq_some_iff.mp q).1, h.symm⟩
  · rw [List.getElem?_set_ne e] at h
    exact .inr ⟨e, h⟩
/-- a slot is set; d is no mutable thing -/
theorem Ok.set (ok : Ok K G0 H0 G H σ env) (i : Nat) {v : V} {s : SD} (hm : s.isMut = false) (h : SlOk K G H (some v) s) : Ok K G0 H0 G H (σ.set i (some v)) (env.set i s) := by
  have hl := ok.len
  have key : ∀ (j : Nat) (t : SD) (l : Addr), (env.set i s)[j]? = some t → t.isMut = true → (σ.set i (some v))[j]? = some (some (.ref l)) → env[j]? = some t ∧ σ[j]? = some (some (.ref l)) := fun j t l ht hmt hj => by
    rcases get_set ht with ⟨e, _, e2⟩ | ⟨e, h2⟩
    · rw [e2, hm] at hmt; cases hmt
    · rcases get_set hj with ⟨e', _, _⟩ | ⟨_, h3⟩
      · exact absurd e' e
      · exact ⟨h2, h3⟩
  refine ⟨ok.gh, ok.fw, by rw [List.length_set, List.length_set]; exact hl, fun j t ht => ?_, fun j t l ht hmt hj => ?_, fun j k t u l m hjk ht hu hmt hmu hj hk => ?_⟩
  · rcases get_set ht with ⟨e, hj, e2⟩ | ⟨e, h2⟩
    · subst e2
      subst e
      refine ⟨some v, ?_, h⟩
      rw [List.getElem?_set_self (by omega)]
    · obtain ⟨o, h3, h4⟩ := ok.sl j t h2
      exact ⟨o, by rw [List.getElem?_set_ne e]; exact h3, h4⟩
  · obtain ⟨a, b⟩ := key j t l ht hmt hj
    exact ok.fresh j t l a hmt b
  · obtain ⟨a, b⟩ := key j t l ht hmt hj
    obtain ⟨c, d⟩ := key k u m hu hmu hk
    exact ok.apart j k t u l m hjk a c hmt hmu b d
/-- a slot is set to a new hidden object -/
theorem Ok.setMut (ok : Ok K G0 H0 G H σ env) (i : Nat) {p : Addr} {s : SD} (h : SlOk K G H (some (.ref p)) s) (h0 : H0 p = none)
    (ha : ∀ (j : Nat) (t : SD) (l : Addr), env[j]? = some t → t.isMut = true → σ[j]? = some (some (.ref l)) → l ≠ p) : Ok K G0 H0 G H (σ.set i (some (.ref p))) (env.set i s) := by
  have hl := ok.len
  have key : ∀ (j : Nat) (t : SD) (l : Addr), (env.set i s)[j]? = some t → t.isMut = true → (σ.set i (some (.ref p)))[j]? = some (some (.ref l)) → (i = j ∧ l = p) ∨ (i ≠ j ∧ env[j]? = some t ∧ σ[j]? = some (some (.ref l))) := fun j t l ht hmt hj => by
    rcases get_set ht with ⟨e, _, e2⟩ | ⟨e, h2⟩
    · rcases get_set hj with ⟨_, _, e3⟩ | ⟨e', _⟩
      · injection e3 with e3; injection e3 with e3; exact .inl ⟨e, e3⟩
      · exact absurd e e'
    · rcases get_set hj with ⟨e', _, _⟩ | ⟨_, h3⟩
      · exact absurd e' e
      · exact .inr ⟨e, h2, h3⟩
  refine ⟨ok.gh, ok.fw, by rw [List.length_set, List.length_set]; exact hl, fun j t ht => ?_, fun j t l ht hmt hj => ?_, fun j k t u l m hjk ht hu hmt hmu hj hk => ?_⟩
  · rcases get_set ht with ⟨e, hj, e2⟩ | ⟨e, h2⟩
    · subst e2
      subst e
      refine ⟨some (.ref p), ?_, h⟩
      rw [List.getElem?_set_self (by omega)]
    · obtain ⟨o, h3, h4⟩ := ok.sl j t h2
      exact ⟨o, by rw [List.getElem?_set_ne e]; exact h3, h4⟩
  · rcases key j t l ht hmt hj with ⟨_, e⟩ | ⟨_, a, b⟩
    · rw [e]; exact h0
    · exact ok.fresh j t l a hmt b
  · rcases key j t l ht hmt hj with ⟨e1, e⟩ | ⟨_, a, b⟩
    · rcases key k u m hu hmu hk with ⟨e2, e'⟩ | ⟨_, c, d⟩
      · exact absurd (e1.symm.trans e2) hjk
      · rw [e]; exact (ha k u m c hmu d).symm
    · rcases key k u m hu hmu hk with ⟨e2, e'⟩ | ⟨_, c, d⟩
      · rw [e']; exact ha j t l a hmt b
      · exact ok.apart j k t u l m hjk a c hmt hmu b d
theorem Ok.mutAt (ok : Ok K G0 H0 G H σ env) {j : Nat} {t : SD} {l : Addr} (h : env[j]? = some t) (hm : t.isMut = true) (hj : σ[j]? = some (some (.ref l))) : G l = none ∧ H l ≠ none := by
  obtain ⟨o, h1, h2⟩ := ok.sl j t h
  rw [hj] at h1
  cases h1
  cases t with
  | ml ds => obtain ⟨l', xs, e, g, hl, _⟩ := h2; cases e; exact ⟨g, by rw [hl]; simp⟩
  | md kvs => obtain ⟨l', xs, e, g, hl, _⟩ := h2; cases e; exact ⟨g, by rw [hl]; simp⟩
  | un => cases hm
  | dat _ => cases hm
  | raw _ => cases hm
  | scr _ => cases hm
/-- the hidden object of slot i is written -/
theorem Ok.write (ok : Ok K G0 H0 G H σ env) {i : Nat} {s t : SD} {l : Addr} {o : HO} (hi : env[i]? = some s) (hm : s.isMut = true) (hs : σ[i]? = some (some (.ref l))) (ht : SlOk K G (upd H l o) (some (.ref l)) t) (hmt : t.isMut = true) : Ok K G0 H0 G (upd H l o) σ (env.set i t) := by
  obtain ⟨gl, hl⟩ := ok.mutAt hi hm hs
  have h0 := ok.fresh i s l hi hm hs
  have mutKey : ∀ (j : Nat) (u : SD) (m : Addr), (env.set i t)[j]? = some u → u.isMut = true → ∃ u', env[j]? = some u' ∧ u'.isMut = true := fun j u m hu hmu => by
    rcases get_set hu with ⟨e, _, _⟩ | ⟨_, h2⟩
    · exact ⟨s, by rw [← e]; exact hi, hm⟩
    · exact ⟨u, h2, hmu⟩
  refine ⟨same_upd2 ok.gh gl, ⟨ok.fw.gg, same_upd2 ok.gh gl, fun b x e => ?_, ok.fw.fr⟩, by rw [List.length_set]; exact ok.len, fun j u hu => ?_, fun j u m hu hmu hj => ?_, fun j k u v m n hjk hu hv hmu hmv hj hk => ?_⟩
  · rw [upd_ne (ne_of_none e h0)]; exact ok.fw.hh _ _ e
  · rcases get_set hu with ⟨e, _, e2⟩ | ⟨e, h2⟩
    · subst e2; subst e
      exact ⟨_, hs, ht⟩
    · obtain ⟨ov, h3, h4⟩ := ok.sl j u h2
      refine ⟨ov, h3, ?_⟩
      cases u with
      | un => trivial
      | dat d => exact h4
      | raw v => exact h4
      | scr ns => exact h4
      | ml ds =>
        obtain ⟨m, xs, e1, g, hm', hd⟩ := h4
        subst e1
        have ne : m ≠ l := ok.apart j i _ _ m l (Ne.symm e) h2 hi rfl hm h3 hs
        exact ⟨m, xs, rfl, g, by rw [upd_ne ne]; exact hm', hd⟩
      | md kvs =>
        obtain ⟨m, xs, e1, g, hm', hk, hd⟩ := h4
        subst e1
        have ne : m ≠ l := ok.apart j i _ _ m l (Ne.symm e) h2 hi rfl hm h3 hs
        exact ⟨m, xs, rfl, g, by rw [upd_ne ne]; exact hm', hk, hd⟩
  · obtain ⟨u', h1, h2⟩ := mutKey j u m hu hmu
    exact ok.fresh j u' m h1 h2 hj
  · obtain ⟨u', h1, h2⟩ := mutKey j u m hu hmu
    obtain ⟨v', h3, h4⟩ := mutKey k v n hv hmv
    exact ok.apart j k u' v' m n hjk h1 h3 h2 h4 hj hk
/-- a hidden list of slot i is published -/
theorem Ok.publish (ok : Ok K G0 H0 G H σ env) {i : Nat} {ds : List D} (hi : env[i]? = some (.ml ds)) : ∃ G', Ok K G0 H0 G' H σ (env.set i (.dat (.list ds))) := by
  obtain ⟨o, h1, l, xs, e, gl, hl, hd⟩ := ok.sl i _ hi
  subst e
  have h0 := ok.fresh i _ l hi rfl h1
  have fw2 : Fw G0 H0 (upd G l (.lst xs)) H := Fw.pub ok.fw h0 hl gl
  refine ⟨upd G l (.lst xs), fw2.gh, fw2, by rw [List.length_set]; exact ok.len, fun j u hu => ?_, fun j u m hu hmu hj => ?_, fun j k u v m n hjk hu hv hmu hmv hj hk => ?_⟩
  · rcases get_set hu with ⟨e, _, e2⟩ | ⟨e, h2⟩
    · subst e2; subst e
      exact ⟨_, h1, _, rfl, .lst upd_same (hd.mono (same_upd gl))⟩
    · obtain ⟨ov, h3, h4⟩ := ok.sl j u h2
      refine ⟨ov, h3, ?_⟩
      cases u with
      | un => trivial
      | raw v => exact h4
      | scr ns => obtain ⟨m, e1, hv⟩ := h4; exact ⟨m, e1, (same_upd gl).seq hv⟩
      | dat d => obtain ⟨v, e1, hv⟩ := h4; exact ⟨v, e1, hv.mono (same_upd gl)⟩
      | ml es =>
        obtain ⟨m, ys, e1, g, hm', hd'⟩ := h4
        subst e1
        have ne : m ≠ l := ok.apart j i _ _ m l (Ne.symm e) h2 hi rfl rfl h3 h1
        exact ⟨m, ys, rfl, by rw [upd_ne ne]; exact g, hm', hd'.mono (same_upd gl)⟩
      | md kvs =>
        obtain ⟨m, ys, e1, g, hm', hk, hd'⟩ := h4
        subst e1
        have ne : m ≠ l := ok.apart j i _ _ m l (Ne.symm e) h2 hi rfl rfl h3 h1
        exact ⟨m, ys, rfl, by rw [upd_ne ne]; exact g, hm', hk, hd'.mono (same_upd gl)⟩
  · rcases get_set hu with ⟨_, _, e2⟩ | ⟨e, h2⟩
    · subst e2; cases hmu
    · exact ok.fresh j u m h2 hmu hj
  · rcases get_set hu with ⟨_, _, e2⟩ | ⟨e, h2⟩
    · subst e2; cases hmu
    · rcases get_set hv with ⟨_, _, e3⟩ | ⟨e', h3⟩
      · subst e3; cases hmv
      · exact ok.apart j k u v m n hjk h2 h3 hmu hmv hj hk
end DL

/-! What expressions, targets, iterators and statements do, said of plain data. -/
namespace DL
open PySem L2
variable {K : PySem.W.Frag} {E : XK} {env env' e1 e2 : EnvD}

/-! ### judgements -/
def EvD (K : PySem.W.Frag) (te : TE) (env : EnvD) (d : D) : Prop := ∀ (G0 H0 G H : Hp) (σ : L2.St), Ok K G0 H0 G H σ env → ∀ Q : VK, (∀ v G' H', Fw G H G' H' → Dd K G' v d → Q v H') → te σ H Q
/-- data that need not be published -/
def EvP (K : PySem.W.Frag) (te : TE) (env : EnvD) (d : D) : Prop := ∀ (G0 H0 G H : Hp) (σ : L2.St), Ok K G0 H0 G H σ env → ∀ Q : VK, (∀ v G' H', Fw G H G' H' → Dd K H' v d → Q v H') → te σ H Q
/-- a new list -/
def EvN (K : PySem.W.Frag) (te : TE) (env : EnvD) (ds : List D) : Prop := ∀ (G0 H0 G H : Hp) (σ : L2.St), Ok K G0 H0 G H σ env → ∀ Q : VK,
  (∀ p xs G' H', Fw G H G' H' → H p = none → G' p = none → H' p = some (.lst xs) → Dds K G' xs ds → Q (.ref p) H') → te σ H Q
def EvT (K : PySem.W.Frag) (tt : TT) (env : EnvD) (b : Bool) : Prop := ∀ (G0 H0 G H : Hp) (σ : L2.St), Ok K G0 H0 G H σ env → ∀ Q : Bool → Hp → Prop, (∀ G' H', Fw G H G' H' → Q b H') → tt σ H Q
inductive Args (K : PySem.W.Frag) (G H : Hp) : List V → List SD → Prop
  | nil : Args K G H [] []
  | cons {v : V} {vs : List V} {s : SD} {ss : List SD} : s.isMut = false → SlOk K G H (some v) s → Args K G H vs ss → Args K G H (v :: vs) (s :: ss)
theorem Args.fw {G H G' H' : Hp} (a : Fw G H G' H') : ∀ {vs : List V} {ss : List SD}, Args K G H vs ss → Args K G' H' vs ss
  | _, _, .nil => .nil
  | _, _, .cons m h hs => .cons m (h.fw a) (hs.fw a)
theorem Args.len {G H : Hp} : ∀ {vs : List V} {ss : List SD}, Args K G H vs ss → vs.length = ss.length
  | _, _, .nil => rfl
  | _, _, .cons _ _ hs => congrArg (· + 1) hs.len
def EvA (K : PySem.W.Frag) (ta : TA) (env : EnvD) (ss : List SD) : Prop := ∀ (G0 H0 G H : Hp) (σ : L2.St), Ok K G0 H0 G H σ env → ∀ Q : List V → Hp → Prop, (∀ vs G' H', Fw G H G' H' → Args K G' H' vs ss → Q vs H') → ta σ H Q
/-- the exact value, nothing made -/
def EvV (K : PySem.W.Frag) (te : TE) (env : EnvD) (s : SD) : Prop := ∀ (G0 H0 G H : Hp) (σ : L2.St), Ok K G0 H0 G H σ env → ∀ Q : VK, (∀ v G' H', Fw G H G' H' → SlOk K G' H' (some v) s → Q v H') → te σ H Q

theorem EvN.d {te : TE} {ds : List D} (h : EvN K te env ds) : EvD K te env (.list ds) := fun G0 H0 G H σ ok Q q =>
  h G0 H0 G H σ ok Q fun p xs G' H' a hp g' h' hs => q _ _ _ (Fw.pub a hp h' g') (.lst upd_same (hs.mono (same_upd g')))
theorem EvD.p {te : TE} {d : D} (h : EvD K te env d) : EvP K te env d := fun G0 H0 G H σ ok Q q => h G0 H0 G H σ ok Q fun v G' H' a hd => q v G' H' a (hd.mono a.gh)
theorem EvN.p {te : TE} {ds : List D} (h : EvN K te env ds) : EvP K te env (.list ds) := h.d.p
theorem EvD.v {te : TE} {d : D} (h : EvD K te env d) : EvV K te env (.dat d) := fun G0 H0 G H σ ok Q q => h G0 H0 G H σ ok Q fun v G' H' a hd => q v G' H' a ⟨v, rfl, hd⟩
theorem EvD.is {te : TE} {d d' : D} (h : EvD K te env d) (e : d = d') : EvD K te env d' := e ▸ h
theorem EvN.is {te : TE} {d d' : List D} (h : EvN K te env d) (e : d = d') : EvN K te env d' := e ▸ h
theorem EvT.is {te : TT} {d d' : Bool} (h : EvT K te env d) (e : d = d') : EvT K te env d' := e ▸ h

/-! ### names, constants -/
theorem ed_var {d : D} (i : Nat) (h : env[i]? = some (.dat d) := by rfl) : EvD K (tVar i) env d := fun G0 H0 G H σ ok Q q => by
  obtain ⟨o, h1, v, e, hd⟩ := ok.sl i _ h
  subst e
  exact ⟨v, h1, q v G H (Fw.refl ok.gh) hd⟩
theorem ep_var {ds : List D} (i : Nat) (h : env[i]? = some (.ml ds) := by rfl) : EvP K (tVar i) env (.list ds) := fun G0 H0 G H σ ok Q q => by
  obtain ⟨o, h1, l, xs, e, g, hl, hd⟩ := ok.sl i _ h
  subst e
  exact ⟨_, h1, q _ G H (Fw.refl ok.gh) (.lst hl (hd.mono ok.gh))⟩
theorem ev_raw {v : V} (i : Nat) (h : env[i]? = some (.raw v) := by rfl) : EvV K (tVar i) env (.raw v) := fun G0 H0 G H σ ok Q q => by
  obtain ⟨o, h1, e⟩ := ok.sl i _ h
  exact ⟨v, by rw [h1, show o = some v from e], q v G H (Fw.refl ok.gh) rfl⟩
theorem ed_int (n : Int) : EvD K (tC (.int n)) env (.int n) := fun _ _ G H _ ok _ q => q _ G H (Fw.refl ok.gh) (.int n)
theorem ed_bl (n : Bool) : EvD K (tC (.bl n)) env (.bool n) := fun _ _ G H _ ok _ q => q _ G H (Fw.refl ok.gh) (.bl n)
theorem ed_str (x : Str) : EvD K (tC (.str x)) env (.str x) := fun _ _ G H _ ok _ q => q _ G H (Fw.refl ok.gh) (.str x)
theorem ed_non : EvD K (tC .non) env .none := fun _ _ G H _ ok _ q => q _ G H (Fw.refl ok.gh) .non
/-- a constant of the written part -/
theorem ed_con {v : V} {d : D} (h : ∀ G : Hp, Dd K G v d) : EvD K (tC v) env d := fun _ _ G H _ ok _ q => q _ G H (Fw.refl ok.gh) (h G)

/-! ### operators -/
section
variable {ta tb tc : TE} {i j : Int} {x y : D}
theorem ed_2 {r : R2} {z : D} (ha : EvD K ta env x) (hb : EvD K tb env y) (hr : ∀ (v u : V) (G H : Hp), Same G H → Dd K G v x → Dd K G u y → ∀ Q : VK, (∀ w, Dd K G w z → Q w H) → r v u H Q) : EvD K (tOp r ta tb) env z :=
  fun G0 H0 G H σ ok Q q => ha G0 H0 G H σ ok _ fun v G1 H1 a1 hv => hb G0 H0 G1 H1 σ (ok.go a1) _ fun u G2 H2 a2 hu => hr v u G2 H2 a2.gh (hv.mono a2.gg) hu Q fun w hw => q w G2 H2 (a1.trans a2) hw
theorem ed_I {C : Int → Int → Prop} {g : Int → Int → Int} (ha : EvD K ta env (.int i)) (hb : EvD K tb env (.int j)) (hc : C i j) : EvD K (tOp (rI C fun i j => .int (g i j)) ta tb) env (.int (g i j)) :=
  ed_2 ha hb fun v u G H _ hv hu Q q => ⟨i, j, hv.int_inv, hu.int_inv, hc, q _ (.int _)⟩
theorem ed_I0 {g : Int → Int → Int} (ha : EvD K ta env (.int i)) (hb : EvD K tb env (.int j)) : EvD K (tOp (rI0 fun i j => .int (g i j)) ta tb) env (.int (g i j)) :=
  ed_2 ha hb fun v u G H _ hv hu Q q => ⟨i, j, hv.int_inv, hu.int_inv, q _ (.int _)⟩
theorem ed_B0 {g : Int → Int → Bool} (ha : EvD K ta env (.int i)) (hb : EvD K tb env (.int j)) : EvD K (tOp (rI0 fun i j => .bl (g i j)) ta tb) env (.bool (g i j)) :=
  ed_2 ha hb fun v u G H _ hv hu Q q => ⟨i, j, hv.int_inv, hu.int_inv, q _ (.bl _)⟩
theorem dec_int {i j : Int} : decide ((V.int i) = V.int j) = decide (i = j) := by
  by_cases h : i = j
  · subst h; simp
  · rw [decide_eq_false h, decide_eq_false (fun z => h (V.int.inj z))]
theorem dec_bl {i j : Bool} : decide ((V.bl i) = V.bl j) = decide (i = j) := by
  by_cases h : i = j
  · subst h; simp
  · rw [decide_eq_false h, decide_eq_false (fun z => h (V.bl.inj z))]
theorem dec_str {i j : Str} : decide ((V.str i) = V.str j) = decide (i = j) := by
  by_cases h : i = j
  · subst h; simp
  · rw [decide_eq_false h, decide_eq_false (fun z => h (V.str.inj z))]
theorem ed_eqI (ha : EvD K ta env (.int i)) (hb : EvD K tb env (.int j)) : EvD K (tOp rEq ta tb) env (.bool (decide (i = j))) :=
  ed_2 ha hb fun v u G H _ hv hu Q q => by rw [hv.int_inv, hu.int_inv]; exact ⟨rfl, by rw [dec_int]; exact q _ (.bl _)⟩
theorem ed_neI (ha : EvD K ta env (.int i)) (hb : EvD K tb env (.int j)) : EvD K (tOp rNe ta tb) env (.bool (!decide (i = j))) :=
  ed_2 ha hb fun v u G H _ hv hu Q q => by rw [hv.int_inv, hu.int_inv]; exact ⟨rfl, by rw [dec_int]; exact q _ (.bl _)⟩
theorem ed_eqB {i j : Bool} (ha : EvD K ta env (.bool i)) (hb : EvD K tb env (.bool j)) : EvD K (tOp rEq ta tb) env (.bool (decide (i = j))) :=
  ed_2 ha hb fun v u G H _ hv hu Q q => by rw [hv.bl_inv, hu.bl_inv]; exact ⟨rfl, by rw [dec_bl]; exact q _ (.bl _)⟩
theorem ed_neB {i j : Bool} (ha : EvD K ta env (.bool i)) (hb : EvD K tb env (.bool j)) : EvD K (tOp rNe ta tb) env (.bool (!decide (i = j))) :=
  ed_2 ha hb fun v u G H _ hv hu Q q => by rw [hv.bl_inv, hu.bl_inv]; exact ⟨rfl, by rw [dec_bl]; exact q _ (.bl _)⟩
theorem ed_eqS {i j : Str} (ha : EvD K ta env (.str i)) (hb : EvD K tb env (.str j)) : EvD K (tOp rEq ta tb) env (.bool (decide (i = j))) :=
  ed_2 ha hb fun v u G H _ hv hu Q q => by rw [hv.str_inv, hu.str_inv]; exact ⟨rfl, by rw [dec_str]; exact q _ (.bl _)⟩
theorem ed_neS {i j : Str} (ha : EvD K ta env (.str i)) (hb : EvD K tb env (.str j)) : EvD K (tOp rNe ta tb) env (.bool (!decide (i = j))) :=
  ed_2 ha hb fun v u G H _ hv hu Q q => by rw [hv.str_inv, hu.str_inv]; exact ⟨rfl, by rw [dec_str]; exact q _ (.bl _)⟩
theorem ep_2 {r : R2} {z : D} (ha : EvP K ta env x) (hb : EvP K tb env y) (hr : ∀ (v u : V) (H : Hp), Dd K H v x → Dd K H u y → ∀ Q : VK, (∀ w, (∀ G, Dd K G w z) → Q w H) → r v u H Q) : EvD K (tOp r ta tb) env z :=
  fun G0 H0 G H σ ok Q q => ha G0 H0 G H σ ok _ fun v G1 H1 a1 hv => hb G0 H0 G1 H1 σ (ok.go a1) _ fun u G2 H2 a2 hu => hr v u H2 (hv.mono a2.hh) hu Q fun w hw => q w G2 H2 (a1.trans a2) (hw G2)
/-- data compared -/
theorem ed_eqD (ha : EvP K ta env x) (hb : EvP K tb env y) (hx : SeqAt.shaped x = true) (hy : SeqAt.shaped y = true) : EvD K (tOp (rEqD K) ta tb) env (.bool (PyData.eqv x y)) :=
  ep_2 ha hb fun v u H hv hu Q q => ⟨x, y, hv.dp, hu.dp, hx, hy, q _ fun _ => .bl _⟩
theorem ed_neD (ha : EvP K ta env x) (hb : EvP K tb env y) (hx : SeqAt.shaped x = true) (hy : SeqAt.shaped y = true) : EvD K (tOp (rNeD K) ta tb) env (.bool (!PyData.eqv x y)) :=
  ep_2 ha hb fun v u H hv hu Q q => ⟨x, y, hv.dp, hu.dp, hx, hy, q _ fun _ => .bl _⟩
theorem ed_neg (ha : EvD K ta env (.int i)) : EvD K (tUn (rU fun i => .int (-i)) ta) env (.int (-i)) := fun G0 H0 G H σ ok Q q =>
  ha G0 H0 G H σ ok _ fun v G1 H1 a hv => ⟨i, hv.int_inv, q _ G1 H1 a (.int _)⟩
/-- items -/
theorem ed_ixT {ds : List D} {z : D} (ha : EvD K ta env (.tuple ds)) (hb : EvD K tb env (.int i)) (hz : atI ds i = some z) : EvD K (tOp (rIxT K) ta tb) env z :=
  ed_2 ha hb fun v u G H gh hv hu Q q => by
    obtain ⟨a, xs, e, hs, hd⟩ := hv.tup_inv
    subst e
    unfold atI at hz
    cases hk : ixN ds.length i with
    | none => rw [hk] at hz; cases hz
    | some k =>
      rw [hk] at hz
      obtain ⟨w, h1, h2⟩ := hd.get (i := k) (d := z) hz
      exact ⟨a, xs, i, w, rfl, hu.int_inv, sqT_mono gh hs, by unfold atI; rw [hd.len, hk]; exact h1, q w h2⟩
theorem ed_ixL {ds : List D} {z : D} (ha : EvD K ta env (.list ds)) (hb : EvD K tb env (.int i)) (hz : atI ds i = some z) : EvD K (tOp (rIxL K) ta tb) env z :=
  ed_2 ha hb fun v u G H gh hv hu Q q => by
    obtain ⟨a, xs, e, hs, hd⟩ := hv.lst_inv
    subst e
    unfold atI at hz
    cases hk : ixN ds.length i with
    | none => rw [hk] at hz; cases hz
    | some k =>
      rw [hk] at hz
      obtain ⟨w, h1, h2⟩ := hd.get (i := k) (d := z) hz
      exact ⟨a, xs, i, w, rfl, hu.int_inv, .inl (.inl (gh _ _ hs)), by unfold atI; rw [hd.len, hk]; exact h1, q w h2⟩
end
/-- an item of a hidden list -/
theorem ed_ixM {tb : TE} {m : Nat} {i : Int} {ds : List D} {z : D} (h : env[m]? = some (.ml ds)) (hb : EvD K tb env (.int i)) (hz : atI ds i = some z) : EvD K (tOp (rIxL K) (tVar m) tb) env z :=
  fun G0 H0 G H σ ok Q q => by
    obtain ⟨o, h1, l, xs, e, g, hl, hd⟩ := ok.sl m _ h
    subst e
    refine ⟨_, h1, hb G0 H0 G H σ ok _ fun u G1 H1 a hu => ?_⟩
    unfold atI at hz
    cases hk : ixN ds.length i with
    | none => rw [hk] at hz; cases hz
    | some k =>
      rw [hk] at hz
      obtain ⟨w, h1, h2⟩ := hd.get (i := k) (d := z) hz
      exact ⟨l, xs, i, w, rfl, hu.int_inv, .inl (.inl (a.hh _ _ hl)), by unfold atI; rw [hd.len, hk]; exact h1, q w G1 H1 a (h2.mono a.gg)⟩

/-! ### displays, arguments, calls -/
section
variable {ta tb tc te : TE} {t : TA} {s : SD} {ss : List SD}
theorem ea_nil : EvA K tNil env [] := fun _ _ G H _ ok _ q => q [] G H (Fw.refl ok.gh) .nil
theorem ea_cons (h : EvV K ta env s) (hm : s.isMut = false) (hs : EvA K t env ss) : EvA K (tCons ta t) env (s :: ss) := fun G0 H0 G H σ ok Q q =>
  h G0 H0 G H σ ok _ fun v G1 H1 a1 hv => hs G0 H0 G1 H1 σ (ok.go a1) _ fun vs G2 H2 a2 hvs => q _ G2 H2 (a1.trans a2) (.cons hm (hv.fw a2) hvs)
theorem ea_d {d : D} (h : EvD K ta env d) (hs : EvA K t env ss) : EvA K (tCons ta t) env (.dat d :: ss) := ea_cons h.v rfl hs
theorem Args.dds {G H : Hp} : ∀ {vs : List V} {ds : List D}, Args K G H vs (ds.map SD.dat) → Dds K G vs ds
  | _, [], .nil => .nil
  | _, d :: ds, .cons _ h hs => by
    obtain ⟨v, e, hd⟩ := h
    cases e
    exact .cons hd hs.dds
theorem ed_tup {ds : List D} (h : EvA K t env (ds.map SD.dat)) (hl : Nat.ble ds.length 1000 = true := by rfl) : EvD K (tTup t) env (.tuple ds) := fun G0 H0 G H σ ok Q q =>
  h G0 H0 G H σ ok _ fun vs G1 H1 a hv => ⟨by rw [hv.dds.len]; exact Nat.le_of_lt (small1000 (Nat.le_of_ble_eq_true hl)), fun p hp => q _ _ _ (a.trans (Fw.new a.gh hp)) (.tup (SqT.of upd_same) (hv.dds.mono (same_upd (a.gh.free hp))))⟩
theorem en_lst {ds : List D} (h : EvA K t env (ds.map SD.dat)) (hl : Nat.ble ds.length 1000 = true := by rfl) : EvN K (tLst t) env ds := fun G0 H0 G H σ ok Q q =>
  h G0 H0 G H σ ok _ fun vs G1 H1 a hv => ⟨by rw [hv.dds.len]; exact Nat.le_of_lt (small1000 (Nat.le_of_ble_eq_true hl)), fun p hp => q p vs G1 _ (a.trans (Fw.hid a.gh hp)) (by
    cases z : H p with
    | none => rfl
    | some o => rw [a.hh _ _ z] at hp; cases hp) (a.gh.free hp) upd_same hv.dds⟩
/-- built-in calls by values -/
theorem ed_CB {r : List V → Hp → VK → Prop} {z : D} (h : EvA K t env ss) (hr : ∀ (vs : List V) (G H : Hp), Same G H → Args K G H vs ss → ∀ Q : VK, (∀ w, Dd K G w z → Q w H) → r vs H Q) : EvD K (tCB r t) env z := fun G0 H0 G H σ ok Q q =>
  h G0 H0 G H σ ok _ fun vs G1 H1 a hv => hr vs G1 H1 a.gh hv Q fun w hw => q w G1 H1 a hw
theorem args1 {G H : Hp} {vs : List V} {d : D} (h : Args K G H vs [.dat d]) : ∃ v, vs = [v] ∧ Dd K G v d := by
  cases h with
  | cons _ h hs => cases hs; obtain ⟨v, e, hd⟩ := h; cases e; exact ⟨_, rfl, hd⟩
theorem args2 {G H : Hp} {vs : List V} {d e : D} (h : Args K G H vs [.dat d, .dat e]) : ∃ v u, vs = [v, u] ∧ Dd K G v d ∧ Dd K G u e := by
  cases h with
  | cons _ h hs =>
    obtain ⟨v, e, hd⟩ := h; cases e
    cases hs with
    | cons _ h hs => cases hs; obtain ⟨u, e, he⟩ := h; cases e; exact ⟨_, _, rfl, hd, he⟩
theorem ed_int1 {i : Int} (h : EvD K ta env (.int i)) : EvD K (tCB (fun xs H Q => (∃ i, xs = [.int i] ∧ Q (.int i) H) ∨ ∃ k, xs = [.bl k] ∧ Q (.int (if k then 1 else 0)) H) (tCons ta tNil)) env (.int i) :=
  ed_CB (ea_d h ea_nil) fun vs G H _ hv Q q => by
    obtain ⟨v, rfl, hd⟩ := args1 hv
    rw [hd.int_inv]
    exact .inl ⟨i, rfl, q _ (.int i)⟩
theorem ed_abs {i : Int} (h : EvD K ta env (.int i)) : EvD K (tCB (fun xs H Q => ∃ i, xs = [.int i] ∧ Q (.int (if i < 0 then -i else i)) H) (tCons ta tNil)) env (.int (if i < 0 then -i else i)) :=
  ed_CB (ea_d h ea_nil) fun vs G H _ hv Q q => by
    obtain ⟨v, rfl, hd⟩ := args1 hv
    rw [hd.int_inv]
    exact ⟨i, rfl, q _ (.int _)⟩
theorem ed_min2 {i j : Int} (h : EvD K ta env (.int i)) (h' : EvD K tb env (.int j)) : EvD K (tCB (fun xs H Q => ∃ i j, xs = [.int i, .int j] ∧ Q (.int (if j < i then j else i)) H) (tCons ta (tCons tb tNil))) env (.int (if j < i then j else i)) :=
  ed_CB (ea_d h (ea_d h' ea_nil)) fun vs G H _ hv Q q => by
    obtain ⟨v, u, rfl, hd, he⟩ := args2 hv
    rw [hd.int_inv, he.int_inv]
    exact ⟨i, j, rfl, q _ (.int _)⟩
theorem ed_max2 {i j : Int} (h : EvD K ta env (.int i)) (h' : EvD K tb env (.int j)) : EvD K (tCB (fun xs H Q => ∃ i j, xs = [.int i, .int j] ∧ Q (.int (if j > i then j else i)) H) (tCons ta (tCons tb tNil))) env (.int (if j > i then j else i)) :=
  ed_CB (ea_d h (ea_d h' ea_nil)) fun vs G H _ hv Q q => by
    obtain ⟨v, u, rfl, hd, he⟩ := args2 hv
    rw [hd.int_inv, he.int_inv]
    exact ⟨i, j, rfl, q _ (.int _)⟩
theorem ed_gcd {i j : Int} (h : EvD K ta env (.int i)) (h' : EvD K tb env (.int j)) : EvD K (tCB rGcd (tCons ta (tCons tb tNil))) env (.int ((Nat.gcd i.natAbs j.natAbs : Nat) : Int)) :=
  ed_CB (ea_d h (ea_d h' ea_nil)) fun vs G H _ hv Q q => by
    obtain ⟨v, u, rfl, hd, he⟩ := args2 hv
    rw [hd.int_inv, he.int_inv]
    exact ⟨i, j, rfl, q _ (.int _)⟩
theorem ed_bits {i : Int} (h : EvD K ta env (.int i)) : EvD K (tBits ta) env (.int (Builtin.Int.intBits i : Nat)) := fun G0 H0 G H σ ok Q q =>
  h G0 H0 G H σ ok _ fun v G1 H1 a hv => ⟨i, hv.int_inv, q _ G1 H1 a (.int _)⟩
/-- len of data -/
theorem ed_lenL {ds : List D} (h : EvP K ta env (.list ds)) : EvD K (tCB (fun xs H Q => ∃ p ys, xs = [.ref p] ∧ (SqL K H p ys ∨ SqT K H p ys) ∧ Q (.int ys.length) H) (tCons ta tNil)) env (.int ds.length) := fun G0 H0 G H σ ok Q q =>
  h G0 H0 G H σ ok _ fun v G1 H1 a hv => by
    obtain ⟨p, xs, e, hs, hd⟩ := hv.lst_inv
    subst e
    exact ⟨p, xs, rfl, .inl (SqL.of hs), by rw [hd.len]; exact q _ G1 H1 a (.int _)⟩
theorem ed_lenT {ds : List D} (h : EvP K ta env (.tuple ds)) : EvD K (tCB (fun xs H Q => ∃ p ys, xs = [.ref p] ∧ (SqL K H p ys ∨ SqT K H p ys) ∧ Q (.int ys.length) H) (tCons ta tNil)) env (.int ds.length) := fun G0 H0 G H σ ok Q q =>
  h G0 H0 G H σ ok _ fun v G1 H1 a hv => by
    obtain ⟨p, xs, e, hs, hd⟩ := hv.tup_inv
    subst e
    exact ⟨p, xs, rfl, .inr hs, by rw [hd.len]; exact q _ G1 H1 a (.int _)⟩

/-! ### promises -/
variable {α : Type} {fs : α → List SD} {pre : α → Prop} {f : α → D} {fl : α → List D} {fo : α → Option D} {C : Value} {E' : XK}
/-- hands back data -/
def SpD (K : PySem.W.Frag) (fs : α → List SD) (pre : α → Prop) (f : α → D) : Sp := fun vs H Q _ => ∃ (x : α) (G : Hp), Same G H ∧ Args K G H vs (fs x) ∧ pre x ∧ ∀ v G' H', Fw G H G' H' → Dd K G' v (f x) → Q v H'
/-- hands back a new list -/
def SpN (K : PySem.W.Frag) (fs : α → List SD) (pre : α → Prop) (fl : α → List D) : Sp := fun vs H Q _ => ∃ (x : α) (G : Hp), Same G H ∧ Args K G H vs (fs x) ∧ pre x ∧
  ∀ p xs G' H', Fw G H G' H' → H p = none → G' p = none → H' p = some (.lst xs) → Dds K G' xs (fl x) → Q (.ref p) H'
/-- hands back data, or raises an error of the class C -/
def SpX (K : PySem.W.Frag) (fs : α → List SD) (pre : α → Prop) (C : Value) (fo : α → Option D) : Sp := fun vs H Q E => ∃ (x : α) (G : Hp), Same G H ∧ Args K G H vs (fs x) ∧ pre x ∧
  (∀ d, fo x = some d → ∀ v G' H', Fw G H G' H' → Dd K G' v d → Q v H') ∧ (fo x = none → ∀ G' H', Fw G H G' H' → E C none H')
theorem ed_call {x : α} (h : EvA K t env ss) (e : ss = fs x) (hp : pre x) : EvD K (tCall (SpD K fs pre f) [] E' t) env (f x) := fun G0 H0 G H σ ok Q q =>
  h G0 H0 G H σ ok _ fun vs G1 H1 a hv => ⟨x, G1, a.gh, by rw [List.append_nil, ← e]; exact hv, hp, fun v G2 H2 a2 hd => q v G2 H2 (a.trans a2) hd⟩
theorem en_call {x : α} (h : EvA K t env ss) (e : ss = fs x) (hp : pre x) : EvN K (tCall (SpN K fs pre fl) [] E' t) env (fl x) := fun G0 H0 G H σ ok Q q =>
  h G0 H0 G H σ ok _ fun vs G1 H1 a hv => ⟨x, G1, a.gh, by rw [List.append_nil, ← e]; exact hv, hp, fun p xs G2 H2 a2 hp g2 h2 hd => q p xs G2 H2 (a.trans a2) (by
    cases z : H p with
    | none => rfl
    | some o => rw [a.hh _ _ z] at hp; cases hp) g2 h2 hd⟩
/-- .. where it does not raise -/
theorem ed_callX {x : α} {d : D} (h : EvA K t env ss) (e : ss = fs x) (hp : pre x) (hd : fo x = some d) : EvD K (tCall (SpX K fs pre C fo) [] E' t) env d := fun G0 H0 G H σ ok Q q =>
  h G0 H0 G H σ ok _ fun vs G1 H1 a hv => ⟨x, G1, a.gh, by rw [List.append_nil, ← e]; exact hv, hp, fun d' hd' v G2 H2 a2 hv2 => q v G2 H2 (a.trans a2) (by rw [hd] at hd'; cases hd'; exact hv2), fun z => by rw [hd] at z; cases z⟩

/-! ### tests -/
theorem et_test {b : Bool} (h : EvD K te env (.bool b)) : EvT K (tTest te) env b := fun G0 H0 G H σ ok Q q => h G0 H0 G H σ ok _ fun v G1 H1 a hv => ⟨b, hv.bl_inv, q G1 H1 a⟩
theorem et_B {b : Bool} (h : EvD K te env (.bool b)) : EvT K (tB te) env b := fun G0 H0 G H σ ok Q q => h G0 H0 G H σ ok _ fun v G1 H1 a hv => ⟨b, hv.bl_inv, q G1 H1 a⟩
theorem et_not {t1 : TT} {b : Bool} (h : EvT K t1 env b) : EvT K (tNot t1) env (!b) := fun G0 H0 G H σ ok Q q => h G0 H0 G H σ ok _ fun G1 H1 a => q G1 H1 a
theorem et_and {t1 t2 : TT} {b c : Bool} (h : EvT K t1 env b) (h2 : b = true → EvT K t2 env c) : EvT K (tAnd t1 t2) env (b && c) := fun G0 H0 G H σ ok Q q => h G0 H0 G H σ ok _ fun G1 H1 a => by
  cases b with
  | true => exact iteT (h2 rfl G0 H0 G1 H1 σ (ok.go a) _ fun G2 H2 a2 => q G2 H2 (a.trans a2))
  | false => exact iteF (q G1 H1 a)
theorem et_or {t1 t2 : TT} {b c : Bool} (h : EvT K t1 env b) (h2 : b = false → EvT K t2 env c) : EvT K (tOr t1 t2) env (b || c) := fun G0 H0 G H σ ok Q q => h G0 H0 G H σ ok _ fun G1 H1 a => by
  cases b with
  | true => exact iteT (q G1 H1 a)
  | false => exact iteF (h2 rfl G0 H0 G1 H1 σ (ok.go a) _ fun G2 H2 a2 => q G2 H2 (a.trans a2))
theorem ed_andV {b c : Bool} (h : EvD K ta env (.bool b)) (h2 : b = true → EvD K tb env (.bool c)) : EvD K (tAndV ta tb) env (.bool (b && c)) := fun G0 H0 G H σ ok Q q => h G0 H0 G H σ ok _ fun v G1 H1 a hv => ⟨b, hv.bl_inv, by
  cases b with
  | true => exact iteT (h2 rfl G0 H0 G1 H1 σ (ok.go a) _ fun w G2 H2 a2 hw => q w G2 H2 (a.trans a2) hw)
  | false => exact iteF (q _ G1 H1 a (.bl false))⟩
theorem ed_orV {b c : Bool} (h : EvD K ta env (.bool b)) (h2 : b = false → EvD K tb env (.bool c)) : EvD K (tOrV ta tb) env (.bool (b || c)) := fun G0 H0 G H σ ok Q q => h G0 H0 G H σ ok _ fun v G1 H1 a hv => ⟨b, hv.bl_inv, by
  cases b with
  | true => exact iteT (q _ G1 H1 a (.bl true))
  | false => exact iteF (h2 rfl G0 H0 G1 H1 σ (ok.go a) _ fun w G2 H2 a2 hw => q w G2 H2 (a.trans a2) hw)⟩
theorem ed_notV {b : Bool} (h : EvD K ta env (.bool b)) : EvD K (tNotV ta) env (.bool (!b)) := fun G0 H0 G H σ ok Q q => h G0 H0 G H σ ok _ fun v G1 H1 a hv => ⟨b, hv.bl_inv, q _ G1 H1 a (.bl _)⟩
theorem ed_if {t1 : TT} {b : Bool} {d : D} (h : EvT K t1 env b) (h1 : b = true → EvD K ta env d) (h2 : b = false → EvD K tb env d) : EvD K (tIf t1 ta tb) env d := fun G0 H0 G H σ ok Q q => h G0 H0 G H σ ok _ fun G1 H1 a => by
  cases b with
  | true => exact iteT (h1 rfl G0 H0 G1 H1 σ (ok.go a) _ fun w G2 H2 a2 hw => q w G2 H2 (a.trans a2) hw)
  | false => exact iteF (h2 rfl G0 H0 G1 H1 σ (ok.go a) _ fun w G2 H2 a2 hw => q w G2 H2 (a.trans a2) hw)
end

/-! ### targets -/
def Sets (ts : List Nat) (σ σ' : L2.St) : Prop := σ'.length = σ.length ∧ ∀ i, i ∉ ts → σ'[i]? = σ[i]?
theorem Sets.refl (ts : List Nat) (σ : L2.St) : Sets ts σ σ := ⟨rfl, fun _ _ => rfl⟩
theorem Sets.trans {ts : List Nat} {a b c : L2.St} (h : Sets ts a b) (h' : Sets ts b c) : Sets ts a c := ⟨h'.1.trans h.1, fun i hi => (h'.2 i hi).trans (h.2 i hi)⟩
theorem Sets.set {ts : List Nat} {σ : L2.St} {i : Nat} {v : Option V} (h : i ∈ ts) : Sets ts σ (σ.set i v) := ⟨List.length_set, fun j hj => List.getElem?_set_ne fun e => hj (by rw [← e]; exact h)⟩
/-- the target takes the data d -/
def EvG (K : PySem.W.Frag) (g : TG) (ts : List Nat) (env : EnvD) (d : D) (env' : EnvD) : Prop := ∀ (G0 H0 G H : Hp) (σ : L2.St) (v : V) (Nx : L2.St → Hp → Prop), Ok K G0 H0 G H σ env → Dd K G v d → (∀ σ', Sets ts σ σ' → Ok K G0 H0 G H σ' env' → Nx σ' H) → g v σ H Nx
def EvGs (K : PySem.W.Frag) (g : TGs) (ts : List Nat) (env : EnvD) (ds : List D) (env' : EnvD) : Prop := ∀ (G0 H0 G H : Hp) (σ : L2.St) (vs : List V) (Nx : L2.St → Hp → Prop), Ok K G0 H0 G H σ env → Dds K G vs ds → (∀ σ', Sets ts σ σ' → Ok K G0 H0 G H σ' env' → Nx σ' H) → g vs σ H Nx
theorem eg_name {ts : List Nat} {i : Nat} {d : D} (h : i ∈ ts) : EvG K (gName i) ts env d (env.set i (.dat d)) := fun G0 H0 G H σ v Nx ok hv q => q _ (Sets.set h) (ok.set i rfl ⟨v, rfl, hv⟩)
theorem egs_nil {ts : List Nat} : EvGs K gNil ts env [] env := fun G0 H0 G H σ vs Nx ok hv q => by
  cases hv
  exact ⟨rfl, q σ (Sets.refl _ _) ok⟩
theorem egs_cons {ts : List Nat} {g : TG} {gs : TGs} {d : D} {ds : List D} (h : EvG K g ts env d e1) (hs : EvGs K gs ts e1 ds e2) : EvGs K (gCons g gs) ts env (d :: ds) e2 := fun G0 H0 G H σ vs Nx ok hv q => by
  cases hv with
  | cons a b => exact ⟨_, _, rfl, h G0 H0 G H σ _ _ ok a fun σ1 s1 ok1 => hs G0 H0 G H σ1 _ _ ok1 b fun σ2 s2 ok2 => q σ2 (s1.trans s2) ok2⟩
theorem eg_tup {ts : List Nat} {n : Nat} {gs : TGs} {ds : List D} (h : EvGs K gs ts env ds env') (hn : ds.length = n) : EvG K (gTup K n gs) ts env (.tuple ds) env' := fun G0 H0 G H σ v Nx ok hv q => by
  obtain ⟨a, xs, e, hs, hd⟩ := hv.tup_inv
  subst e
  exact ⟨a, xs, rfl, sqT_mono ok.gh hs, by rw [hd.len]; exact hn, h G0 H0 G H σ xs Nx ok hd q⟩

/-! ### what a for walks -/
/-- it draws the data ds, one after the other -/
structure Walks (K : PySem.W.Frag) (J : It) (G1 : Hp) (ds : List D) : Prop where
  stop : ∀ (G H : Hp), Same G1 G → Same G H → J.stop ds.length H
  go : ∀ (i : Nat) (d : D) (G H : Hp), ds[i]? = some d → Same G1 G → Same G H → J.go i H ∧ ∀ x H', J.yld i H x H' → ∃ G', Fw G H G' H' ∧ Dd K G' x d
def EvI (K : PySem.W.Frag) (wi : TI) (env : EnvD) (ds : List D) : Prop := ∀ (G0 H0 G H : Hp) (σ : L2.St), Ok K G0 H0 G H σ env → ∀ R : It → Hp → Prop, (∀ J G' H', Fw G H G' H' → Walks K J G' ds → R J H') → wi σ H R
theorem SqL.gh {G H : Hp} {a : Addr} {xs : List V} (gh : Same G H) (h : G a = some (.lst xs)) : SqL K H a xs := .inl (.inl (gh _ _ h))
theorem ei_list {tl : TE} {ds : List D} (h : EvD K tl env (.list ds)) : EvI K (iList K tl) env ds := fun G0 H0 G H σ ok R q =>
  h G0 H0 G H σ ok _ fun v G1 H1 a hv => by
    obtain ⟨p, xs, e, hs, hd⟩ := hv.lst_inv
    subst e
    refine ⟨p, rfl, ⟨xs, SqL.gh a.gh hs⟩, q _ G1 H1 a ⟨fun G2 H2 g1 g2 => ⟨xs, SqL.gh g2 (g1 _ _ hs), by rw [hd.len]; exact Nat.le_refl _⟩, fun i d G2 H2 hi g1 g2 => ?_⟩⟩
    obtain ⟨w, h1, h2⟩ := hd.get hi
    refine ⟨⟨xs, w, SqL.gh g2 (g1 _ _ hs), h1⟩, fun x H' hy => ?_⟩
    obtain ⟨e1, e2⟩ := hy
    have e3 := e2 xs (SqL.gh g2 (g1 _ _ hs))
    rw [h1] at e3
    cases e3
    rw [e1]
    exact ⟨G2, Fw.refl g2, h2.mono g1⟩
theorem ei_tup {tl : TE} {ds : List D} (h : EvD K tl env (.tuple ds)) : EvI K (iTup K tl) env ds := fun G0 H0 G H σ ok R q =>
  h G0 H0 G H σ ok _ fun v G1 H1 a hv => by
    obtain ⟨p, xs, e, hs, hd⟩ := hv.tup_inv
    subst e
    refine ⟨p, rfl, ⟨xs, sqT_mono a.gh hs⟩, q _ G1 H1 a ⟨fun G2 H2 g1 g2 => ⟨xs, sqT_mono g2 (sqT_mono g1 hs), by rw [hd.len]; exact Nat.le_refl _⟩, fun i d G2 H2 hi g1 g2 => ?_⟩⟩
    obtain ⟨w, h1, h2⟩ := hd.get hi
    refine ⟨⟨xs, w, sqT_mono g2 (sqT_mono g1 hs), h1⟩, fun x H' hy => ?_⟩
    obtain ⟨e1, e2⟩ := hy
    have e3 := e2 xs (sqT_mono g2 (sqT_mono g1 hs))
    rw [h1] at e3
    cases e3
    rw [e1]
    exact ⟨G2, Fw.refl g2, h2.mono g1⟩
/-- lo, lo + c, .. -/
def rngD (lo c : Int) (n : Nat) : List D := (List.range n).map fun (i : Nat) => .int (lo + (i : Int) * c)
theorem rngD_len (lo c : Int) (n : Nat) : (rngD lo c n).length = n := by unfold rngD; rw [List.length_map, List.length_range]
theorem rngD_get {lo c : Int} {n i : Nat} {d : D} (h : (rngD lo c n)[i]? = some d) : i < n ∧ d = .int (lo + (i : Int) * c) := by
  have hi : i < n := by
    have := (List.getElem?_eq_some_iff.mp h).1
    rwa [rngD_len] at this
  refine ⟨hi, ?_⟩
  unfold rngD at h
  rw [List.getElem?_map, List.getElem?_range hi] at h
  simpa using h.symm
theorem rngD_at {lo c : Int} {n i : Nat} (h : i < n) : (rngD lo c n)[i]? = some (.int (lo + (i : Int) * c)) := by
  unfold rngD
  rw [List.getElem?_map, List.getElem?_range h]
  rfl
theorem walks_r {lo : Int} {n : Nat} {G1 : Hp} : Walks K (Itr lo n) G1 (rngD lo 1 n) := by
  refine ⟨fun G H _ _ => ?_, fun i d G H hi _ gh => ?_⟩
  · rw [rngD_len]; exact Nat.le_refl _
  · obtain ⟨h1, h2⟩ := rngD_get hi
    refine ⟨h1, fun x H' hy => ?_⟩
    obtain ⟨e1, e2⟩ := hy
    rw [e1, e2, h2, Int.mul_one]
    exact ⟨G, Fw.refl gh, .int _⟩
theorem walks_c {lo c : Int} {n : Nat} {G1 : Hp} : Walks K (Itc lo c n) G1 (rngD lo c n) := by
  refine ⟨fun G H _ _ => ?_, fun i d G H hi _ gh => ?_⟩
  · rw [rngD_len]; exact Nat.le_refl _
  · obtain ⟨h1, h2⟩ := rngD_get hi
    refine ⟨h1, fun x H' hy => ?_⟩
    obtain ⟨e1, e2⟩ := hy
    rw [e1, e2, h2]
    exact ⟨G, Fw.refl gh, .int _⟩
theorem ei_rng1 {ta : TE} {j : Int} (h : EvD K ta env (.int j)) (hb : -(2 ^ 62) ≤ j ∧ j < 2 ^ 62) : EvI K (iRng1 (tCons ta tNil)) env (rngD 0 1 j.toNat) := fun G0 H0 G H σ ok R q =>
  h G0 H0 G H σ ok _ fun v G1 H1 a hv => ⟨j, by rw [hv.int_inv], hb.1, hb.2, q _ G1 H1 a walks_r⟩
theorem ei_rng2 {ta tb : TE} {i j : Int} (h : EvD K ta env (.int i)) (h' : EvD K tb env (.int j)) (hb : -(2 ^ 62) ≤ i ∧ i < 2 ^ 62 ∧ -(2 ^ 62) ≤ j ∧ j < 2 ^ 62) : EvI K (iRng2 (tCons ta (tCons tb tNil))) env (rngD i 1 (j - i).toNat) := fun G0 H0 G H σ ok R q =>
  h G0 H0 G H σ ok _ fun v G1 H1 a hv => h' G0 H0 G1 H1 σ (ok.go a) _ fun u G2 H2 a2 hu => ⟨i, j, by rw [hv.int_inv, hu.int_inv], hb, q _ G2 H2 (a.trans a2) walks_r⟩
theorem ei_rng3 {ta tb tc : TE} {i j c : Int} {n : Nat} (h : EvD K ta env (.int i)) (h' : EvD K tb env (.int j)) (h'' : EvD K tc env (.int c)) (hb : RgC i j c n) : EvI K (iRng3 (tCons ta (tCons tb (tCons tc tNil)))) env (rngD i c n) := fun G0 H0 G H σ ok R q =>
  h G0 H0 G H σ ok _ fun v G1 H1 a hv => h' G0 H0 G1 H1 σ (ok.go a) _ fun u G2 H2 a2 hu => h'' G0 H0 G2 H2 σ ((ok.go a).go a2) _ fun w G3 H3 a3 hw => ⟨i, j, c, n, by rw [hv.int_inv, hu.int_inv, hw.int_inv], hb, q _ G3 H3 ((a.trans a2).trans a3) walks_c⟩
end DL

namespace DL
open PySem L2
variable {K : PySem.W.Frag} {E : XK} {env env' e1 e2 : EnvD}

/-! ### statements -/
inductive RD
  | nx (env : EnvD)
  | rt (d : D)
  | rn (ds : List D)
  | ex (cls : Value)
  | bk (env : EnvD)
  | ct (env : EnvD)
def Post (K : PySem.W.Frag) (E : XK) (G0 H0 : Hp) (D : Ends) : RD → Prop
  | .nx e => ∀ G H σ, Ok K G0 H0 G H σ e → D.nx σ H
  | .bk e => ∀ G H σ, Ok K G0 H0 G H σ e → D.bk σ H
  | .ct e => ∀ G H σ, Ok K G0 H0 G H σ e → D.ct σ H
  | .rt d => ∀ v G H, Fw G0 H0 G H → Dd K G v d → D.rt v H
  | .rn ds => ∀ p xs G H, Fw G0 H0 G H → H0 p = none → G p = none → H p = some (.lst xs) → Dds K G xs ds → D.rt (.ref p) H
  | .ex c => ∀ G H, Fw G0 H0 G H → E c none H
def Run (K : PySem.W.Frag) (E : XK) (ts : TS) (env : EnvD) (r : RD) : Prop := ∀ (G0 H0 G H : Hp) (σ : L2.St) (D : Ends), Ok K G0 H0 G H σ env → Post K E G0 H0 D r → ts D σ H
section
variable {t u : TS} {te : TE} {r : RD} {tc : TT}
theorem run_seq (h : Run K E t env (.nx e1)) (h' : Run K E u e1 r) : Run K E (tSeq t u) env r := fun G0 H0 G H σ D ok q => h G0 H0 G H σ _ ok fun G1 H1 σ1 ok1 => h' G0 H0 G1 H1 σ1 D ok1 q
theorem run_seqX (h : Run K E t env r) (hr : ∀ e, r ≠ .nx e) : Run K E (tSeq t u) env r := fun G0 H0 G H σ D ok q => h G0 H0 G H σ _ ok (by
  cases r with
  | nx e => exact absurd rfl (hr e)
  | rt d => exact q
  | rn d => exact q
  | ex d => exact q
  | bk d => exact q
  | ct d => exact q)
theorem run_seqR {d : D} (h : Run K E t env (.rt d)) : Run K E (tSeq t u) env (.rt d) := run_seqX h fun _ z => nomatch z
theorem run_seqN {d : List D} (h : Run K E t env (.rn d)) : Run K E (tSeq t u) env (.rn d) := run_seqX h fun _ z => nomatch z
theorem run_seqE {c : Value} (h : Run K E t env (.ex c)) : Run K E (tSeq t u) env (.ex c) := run_seqX h fun _ z => nomatch z
theorem run_next : Run K E tNext env (.nx env) := fun G0 H0 G H σ D ok q => q G H σ ok
theorem run_break : Run K E tBreak env (.bk env) := fun G0 H0 G H σ D ok q => q G H σ ok
theorem run_cont : Run K E tCont env (.ct env) := fun G0 H0 G H σ D ok q => q G H σ ok
theorem run_set {i : Nat} {d : D} (h : EvD K te env d) : Run K E (tAsg te (gName i)) env (.nx (env.set i (.dat d))) := fun G0 H0 G H σ D ok q =>
  h G0 H0 G H σ ok _ fun v G1 H1 a hv => q G1 H1 _ ((ok.go a).set i rfl ⟨v, rfl, hv⟩)
theorem free0 {G H G' H' : Hp} {p : Addr} (a : Fw G H G' H') (h : H' p = none) : H p = none := a.hh.free h
theorem run_setN {i : Nat} {ds : List D} (h : EvN K te env ds) : Run K E (tAsg te (gName i)) env (.nx (env.set i (.ml ds))) := fun G0 H0 G H σ D ok q =>
  h G0 H0 G H σ ok _ fun p xs G1 H1 a hp g1 h1 hd => q G1 H1 _ ((ok.go a).setMut i ⟨p, xs, rfl, g1, h1, hd⟩ (free0 ok.fw hp) fun j t l hj hm hs e => (ok.mutAt hj hm hs).2 (by rw [e]; exact hp))
theorem run_asg {g : TG} {ts : List Nat} {d : D} (h : EvD K te env d) (hg : EvG K g ts env d e1) : Run K E (tAsg te g) env (.nx e1) := fun G0 H0 G H σ D ok q =>
  h G0 H0 G H σ ok _ fun v G1 H1 a hv => hg G0 H0 G1 H1 σ v _ (ok.go a) hv fun σ' _ ok' => q G1 H1 σ' ok'
theorem run_ret {d : D} (h : EvD K te env d) : Run K E (tRet te) env (.rt d) := fun G0 H0 G H σ D ok q =>
  h G0 H0 G H σ ok _ fun v G1 H1 a hv => q v G1 H1 (ok.fw.trans a) hv
theorem run_retN {ds : List D} (h : EvN K te env ds) : Run K E (tRet te) env (.rn ds) := fun G0 H0 G H σ D ok q =>
  h G0 H0 G H σ ok _ fun p xs G1 H1 a hp g1 h1 hd => q p xs G1 H1 (ok.fw.trans a) (free0 ok.fw hp) g1 h1 hd
/-- a hidden list is handed back -/
theorem run_retM (i : Nat) {ds : List D} (h : env[i]? = some (.ml ds) := by rfl) : Run K E (tRet (tVar i)) env (.rn ds) := fun G0 H0 G H σ D ok q => by
  obtain ⟨o, h1, l, xs, e, g, hl, hd⟩ := ok.sl i _ h
  subst e
  exact ⟨_, h1, q l xs G H ok.fw (ok.fresh i _ l h rfl h1) g hl hd⟩
theorem run_retNone : Run K E tRetN env (.rt .none) := fun G0 H0 G H σ D ok q => q _ G H ok.fw .non
theorem run_if {b : Bool} (h : EvT K tc env b) (h1 : b = true → Run K E t env r) (h2 : b = false → Run K E u env r) : Run K E (tIfS tc t u) env r := fun G0 H0 G H σ D ok q => h G0 H0 G H σ ok _ fun G1 H1 a => by
  cases b with
  | true => exact iteT (h1 rfl G0 H0 G1 H1 σ D (ok.go a) q)
  | false => exact iteF (h2 rfl G0 H0 G1 H1 σ D (ok.go a) q)
theorem run_drop {s : SD} (h : EvV K te env s) : Run K E (tDrop te) env (.nx env) := fun G0 H0 G H σ D ok q => h G0 H0 G H σ ok _ fun v G1 H1 a _ => q G1 H1 σ (ok.go a)
theorem run_is {r' : RD} (h : Run K E t env r) (e : r = r') : Run K E t env r' := e ▸ h
/-- a hidden list is published ahead of a statement -/
theorem run_pub (i : Nat) {ds : List D} (hi : env[i]? = some (.ml ds)) (h : Run K E t (env.set i (.dat (.list ds))) r) : Run K E t env r := fun G0 H0 G H σ D ok q => by
  obtain ⟨G', ok'⟩ := ok.publish hi
  exact h G0 H0 G' H σ D ok' q
/-- xs.append(e) -/
theorem run_append {i : Nat} {ds : List D} {d : D} (hi : env[i]? = some (.ml ds)) (h : EvD K te env d) (hl : ds.length < 10000000) : Run K E (tDrop (tBM K "list" rAppend (tVar i) (tCons te tNil))) env (.nx (env.set i (.ml (ds ++ [d])))) := fun G0 H0 G H σ D ok q => by
  obtain ⟨o, h1, l, xs, e, g, hl0, hd⟩ := ok.sl i _ hi
  subst e
  refine ⟨_, h1, .inl ⟨rfl, xs, SqL.of hl0⟩, h G0 H0 G H σ ok _ fun v G1 H1 a hv => ⟨l, xs, v, rfl, rfl, a.hh _ _ hl0, ?_, ?_⟩⟩
  · rw [hd.len, sizeLine_eq]; omega
  · have g1 : G1 l = none := a.fr l (by rw [hl0]; simp) g
    exact q G1 _ σ ((ok.go a).write hi rfl h1 ⟨l, _, rfl, g1, upd_same, (hd.mono a.gg).append (.cons hv .nil)⟩ rfl)
end

/-! ### less said of the slots -/
inductive Less : EnvD → EnvD → Prop
  | nil : Less [] []
  | un {s : SD} {a b : EnvD} : Less a b → Less (s :: a) (.un :: b)
  | eq {s : SD} {a b : EnvD} : Less a b → Less (s :: a) (s :: b)
theorem Less.refl : ∀ e : EnvD, Less e e
  | [] => .nil
  | _ :: e => .eq (Less.refl e)
theorem Less.get : ∀ {a b : EnvD}, Less a b → ∀ (i : Nat) (s : SD), b[i]? = some s → s = .un ∧ i < a.length ∨ a[i]? = some s
  | _, _, .nil, i, s, h => by simp at h
  | _, _, .un l, 0, s, h => by simp at h; exact .inl ⟨h.symm, by simp⟩
  | _, _, .un l, i + 1, s, h => by
    rcases l.get i s (by simpa using h) with ⟨e, hi⟩ | e
    · exact .inl ⟨e, by simpa using hi⟩
    · exact .inr (by simpa using e)
  | _, _, .eq l, 0, s, h => by simp at h; exact .inr (by simp [h])
  | _, _, .eq l, i + 1, s, h => by
    rcases l.get i s (by simpa using h) with ⟨e, hi⟩ | e
    · exact .inl ⟨e, by simpa using hi⟩
    · exact .inr (by simpa using e)
theorem Less.len : ∀ {a b : EnvD}, Less a b → a.length = b.length
  | _, _, .nil => rfl
  | _, _, .un l => congrArg (· + 1) l.len
  | _, _, .eq l => congrArg (· + 1) l.len
theorem Ok.less {G0 H0 G H : Hp} {σ : L2.St} (ok : Ok K G0 H0 G H σ env) (l : Less env env') : Ok K G0 H0 G H σ env' := by
  have key : ∀ (i : Nat) (s : SD), env'[i]? = some s → s.isMut = true → env[i]? = some s := fun i s hi hm => by
    rcases l.get i s hi with ⟨e, _⟩ | e
    · rw [e] at hm; cases hm
    · exact e
  refine ⟨ok.gh, ok.fw, ok.len.trans l.len, fun i s hi => ?_, fun i s a hi hm hs => ok.fresh i s a (key i s hi hm) hm hs, fun i j s t a b hij hi hj hs ht h1 h2 => ok.apart i j s t a b hij (key i s hi hs) (key j t hj ht) hs ht h1 h2⟩
  rcases l.get i s hi with ⟨e, hl⟩ | e
  · subst e
    have : i < σ.length := by rw [ok.len]; exact hl
    exact ⟨σ[i], List.getElem?_eq_getElem this, trivial⟩
  · exact ok.sl i s e
theorem run_less {t : TS} (h : Run K E t env (.nx e1)) (l : Less e1 e2) : Run K E t env (.nx e2) := fun G0 H0 G H σ D ok q => h G0 H0 G H σ D ok fun G1 H1 σ1 ok1 => q G1 H1 σ1 (ok1.less l)
theorem run_more {t : TS} {r : RD} (l : Less env e1) (h : Run K E t e1 r) : Run K E t env r := fun G0 H0 G H σ D ok q => h G0 H0 G H σ D (ok.less l) q

/-! ### for -/
theorem Fw.base {G0 H0 G1 H1 G H : Hp} (a : Fw G0 H0 G1 H1) (b : Fw G1 H0 G H) : Fw G0 H0 G H := ⟨a.gg.trans b.gg, b.gh, b.hh, fun l hl gl => b.fr l hl (a.fr l hl gl)⟩
theorem Ok.rebase {G0 H0 G H : Hp} {σ : L2.St} (ok : Ok K G0 H0 G H σ env) : Ok K G H0 G H σ env := ⟨ok.gh, ⟨Same.refl _, ok.gh, ok.fw.hh, fun _ _ h => h⟩, ok.len, ok.sl, ok.fresh, ok.apart⟩
theorem Ok.unbase {G0 H0 G1 H1 G H : Hp} {σ : L2.St} (a : Fw G0 H0 G1 H1) (ok : Ok K G1 H0 G H σ env) : Ok K G0 H0 G H σ env := ⟨ok.gh, a.base ok.fw, ok.len, ok.sl, ok.fresh, ok.apart⟩
theorem Post.base {G0 H0 G1 H1 : Hp} {D : Ends} {r : RD} (a : Fw G0 H0 G1 H1) (q : Post K E G0 H0 D r) : Post K E G1 H0 D r := by
  cases r with
  | nx e => exact fun G H σ ok => q G H σ (ok.unbase a)
  | bk e => exact fun G H σ ok => q G H σ (ok.unbase a)
  | ct e => exact fun G H σ ok => q G H σ (ok.unbase a)
  | rt d => exact fun v G H f hv => q v G H (a.base f) hv
  | rn ds => exact fun p xs G H f => q p xs G H (a.base f)
  | ex c => exact fun G H f => q G H (a.base f)
/-- what a turn leaves: the next turn's slots -/
def Turn1 (K : PySem.W.Frag) (E : XK) (tb : TS) (env e' : EnvD) : Prop := Run K E tb env (.nx e') ∨ Run K E tb env (.ct e')
theorem Turn1.n {tb : TS} (h : Run K E tb env (.nx e1)) (l : Less e1 e2) : Turn1 K E tb env e2 := .inl (run_less h l)
/-- n turns go on, then the loop ends (n is all), or the turn n leaves it -/
theorem run_forX {wi : TI} {g : TG} {tb : TS} {ts : List Nat} {ds : List D} {r : RD} (Es : Nat → EnvD) (n : Nat) (hi : EvI K wi env ds) (h0 : Less env (Es 0))
    (ht : ∀ (i : Nat) (d : D), i < n → ds[i]? = some d → ∃ em, EvG K g ts (Es i) d em ∧ Turn1 K E tb em (Es (i + 1)))
    (he : (n = ds.length ∧ r = .nx (Es n)) ∨ (∃ d em, ds[n]? = some d ∧ EvG K g ts (Es n) d em ∧ ((Run K E tb em r ∧ (∀ e, r ≠ .nx e) ∧ (∀ e, r ≠ .ct e) ∧ (∀ e, r ≠ .bk e)) ∨ ∃ e, r = .nx e ∧ Run K E tb em (.bk e)))) :
    Run K E (tFor wi g tb) env r := fun G0 H0 G H σ D ok q =>
  hi G0 H0 G H σ ok _ fun J G1 H1 a wk => by
    have hn : n ≤ ds.length := by
      rcases he with ⟨e, _⟩ | ⟨d, em, h, _⟩
      · omega
      · have := (List.getElem?_eq_some_iff.mp h).1; omega
    refine ⟨fun i m σ2 H2 => i + m = n ∧ ∃ G2, Same G1 G2 ∧ Ok K G0 H0 G2 H2 σ2 (Es i), ⟨n, Nat.zero_add _, G1, Same.refl _, (ok.go a).less h0⟩, ?_⟩
    rintro i m σ2 H2 ⟨him, G2, g2, ok2⟩
    by_cases hlt : i < n
    · have hd := List.getElem?_eq_getElem (show i < ds.length by omega)
      obtain ⟨hgo, hy⟩ := wk.go i _ G2 H2 hd g2 ok2.gh
      refine .inr ⟨hgo, fun σ' H' => ∃ G3, Same G1 G3 ∧ Ok K G0 H0 G3 H' σ' (Es (i + 1)), fun σ' H' hN => ⟨m - 1, by omega, by omega, hN⟩, fun x H3 hx => ?_⟩
      obtain ⟨G3, a3, hx3⟩ := hy x H3 hx
      obtain ⟨em, hg, htb⟩ := ht i _ hlt hd
      refine hg G0 H0 G3 H3 σ2 x _ (ok2.go a3) hx3 fun σ3 _ ok3 => ?_
      have g13 : Same G1 G3 := g2.trans a3.gg
      rcases htb with htb | htb
      · exact htb G3 H0 G3 H3 σ3 _ ok3.rebase fun G4 H4 σ4 ok4 => ⟨G4, g13.trans ok4.fw.gg, ok4.unbase ok3.fw⟩
      · exact htb G3 H0 G3 H3 σ3 _ ok3.rebase fun G4 H4 σ4 ok4 => ⟨G4, g13.trans ok4.fw.gg, ok4.unbase ok3.fw⟩
    · have e : i = n := by omega
      subst e
      rcases he with ⟨e, er⟩ | ⟨d, em, hd, hg, hr⟩
      · subst e
        subst er
        exact .inl ⟨wk.stop G2 H2 g2 ok2.gh, q G2 H2 σ2 ok2⟩
      · obtain ⟨hgo, hy⟩ := wk.go i d G2 H2 hd g2 ok2.gh
        refine .inr ⟨hgo, fun _ _ => False, fun _ _ z => z.elim, fun x H3 hx => ?_⟩
        obtain ⟨G3, a3, hx3⟩ := hy x H3 hx
        refine hg G0 H0 G3 H3 σ2 x _ (ok2.go a3) hx3 fun σ3 _ ok3 => ?_
        rcases hr with ⟨hr, r1, r2, r3⟩ | ⟨e, er, hr⟩
        · refine hr G0 H0 G3 H3 σ3 _ ok3 ?_
          cases r with
          | nx e => exact absurd rfl (r1 e)
          | ct e => exact absurd rfl (r2 e)
          | bk e => exact absurd rfl (r3 e)
          | rt d => exact q
          | rn d => exact q
          | ex d => exact q
        · subst er
          exact hr G0 H0 G3 H3 σ3 _ ok3 q
theorem run_for {wi : TI} {g : TG} {tb : TS} {ts : List Nat} {ds : List D} (Es : Nat → EnvD) (hi : EvI K wi env ds) (h0 : Less env (Es 0))
    (ht : ∀ (i : Nat) (d : D), i < ds.length → ds[i]? = some d → ∃ em, EvG K g ts (Es i) d em ∧ Turn1 K E tb em (Es (i + 1))) : Run K E (tFor wi g tb) env (.nx (Es ds.length)) :=
  run_forX Es ds.length hi h0 ht (.inl ⟨rfl, rfl⟩)
/-- the turn n hands back d -/
theorem run_forR {wi : TI} {g : TG} {tb : TS} {ts : List Nat} {ds : List D} {z : D} (Es : Nat → EnvD) (n : Nat) (hi : EvI K wi env ds) (h0 : Less env (Es 0))
    (ht : ∀ (i : Nat) (d : D), i < n → ds[i]? = some d → ∃ em, EvG K g ts (Es i) d em ∧ Turn1 K E tb em (Es (i + 1)))
    {d : D} {em : EnvD} (hd : ds[n]? = some d) (hg : EvG K g ts (Es n) d em) (hr : Run K E tb em (.rt z)) : Run K E (tFor wi g tb) env (.rt z) :=
  run_forX Es n hi h0 ht (.inr ⟨d, em, hd, hg, .inl ⟨hr, (by intro _ z; cases z), (by intro _ z; cases z), (by intro _ z; cases z)⟩⟩)

/-! ### comprehensions -/
def wipeD (env : EnvD) : List Nat → EnvD
  | [] => env
  | v :: vs => (wipeD env vs).set v .un
theorem Ok.unset {G0 H0 G H : Hp} {σ : L2.St} (ok : Ok K G0 H0 G H σ env) (i : Nat) : Ok K G0 H0 G H (σ.set i none) (env.set i .un) := by
  have key : ∀ (j : Nat) (t : SD) (o : Option V), (env.set i .un)[j]? = some t → t.isMut = true → (σ.set i none)[j]? = some o → env[j]? = some t ∧ σ[j]? = some o := fun j t o ht hm hj => by
    rcases get_set ht with ⟨e, _, e2⟩ | ⟨e, h2⟩
    · rw [e2] at hm; cases hm
    · rw [List.getElem?_set_ne e] at hj
      exact ⟨h2, hj⟩
  refine ⟨ok.gh, ok.fw, by rw [List.length_set, List.length_set]; exact ok.len, fun j t ht => ?_, fun j t l ht hm hj => ?_, fun j k t u l m hjk ht hu hmt hmu hj hk => ?_⟩
  · rcases get_set ht with ⟨e, hj, e2⟩ | ⟨e, h2⟩
    · subst e2
      refine ⟨none, ?_, trivial⟩
      rw [← e, List.getElem?_set_self (by rw [ok.len]; omega)]
    · obtain ⟨o, h3, h4⟩ := ok.sl j t h2
      exact ⟨o, by rw [List.getElem?_set_ne e]; exact h3, h4⟩
  · obtain ⟨a, b⟩ := key j t _ ht hm hj
    exact ok.fresh j t l a hm b
  · obtain ⟨a, b⟩ := key j t _ ht hmt hj
    obtain ⟨c, d⟩ := key k u _ hu hmu hk
    exact ok.apart j k t u l m hjk a c hmt hmu b d
theorem Ok.wipe {G0 H0 G H : Hp} {σ : L2.St} (ok : Ok K G0 H0 G H σ env) : ∀ vs : List Nat, Ok K G0 H0 G H (L2.wipe σ vs) (wipeD env vs)
  | [] => ok
  | v :: vs => (Ok.wipe ok vs).unset v
theorem wipe_get (σ : L2.St) : ∀ (vs : List Nat) (i : Nat), (L2.wipe σ vs)[i]? = if i ∈ vs then (if i < σ.length then some none else none) else σ[i]?
  | [], i => by simp [L2.wipe]
  | v :: vs, i => by
    show ((L2.wipe σ vs).set v none)[i]? = _
    by_cases e : v = i
    · subst e
      rw [if_pos (by simp)]
      by_cases hl : v < σ.length
      · rw [if_pos hl, List.getElem?_set_self (by rw [wipe_length]; exact hl)]
      · rw [if_neg hl, List.getElem?_eq_none (by rw [List.length_set, wipe_length]; omega)]
    · rw [List.getElem?_set_ne e, wipe_get σ vs i]
      have : (i ∈ v :: vs) ↔ (i ∈ vs) := by
        simp only [List.mem_cons]
        exact ⟨fun h => h.resolve_left (fun z => e z.symm), .inr⟩
      by_cases hm : i ∈ vs
      · rw [if_pos hm, if_pos (this.mpr hm)]
      · rw [if_neg hm, if_neg (fun z => hm (this.mp z))]
theorem wipe_sets {σ σ2 : L2.St} {vs ts : List Nat} (h : Sets ts (L2.wipe σ vs) σ2) (hs : ∀ i ∈ ts, i ∈ vs) : L2.wipe σ2 vs = L2.wipe σ vs := by
  have hl : σ2.length = σ.length := by rw [h.1, wipe_length]
  refine List.ext_getElem? fun i => ?_
  rw [wipe_get, wipe_get, hl]
  by_cases hm : i ∈ vs
  · rw [if_pos hm, if_pos hm]
  · rw [if_neg hm, if_neg hm, h.2 i (fun z => hm (hs i z)), wipe_get, if_neg hm]
/-- which items a comprehension keeps -/
inductive Lc (K : PySem.W.Frag) (g : TG) (ts : List Nat) (tt : TT) (te : TE) (env : EnvD) : List D → List D → Prop
  | nil : Lc K g ts tt te env [] []
  | keep {d z : D} {ds zs : List D} {em : EnvD} : EvG K g ts env d em → EvT K tt em true → EvD K te em z → Lc K g ts tt te env ds zs → Lc K g ts tt te env (d :: ds) (z :: zs)
  | skip {d : D} {ds zs : List D} {em : EnvD} : EvG K g ts env d em → EvT K tt em false → Lc K g ts tt te env ds zs → Lc K g ts tt te env (d :: ds) zs
theorem et_yes : EvT K tYes env true := fun _ _ G H σ ok Q q => q G H (Fw.refl ok.gh)
theorem Lc.le {g : TG} {ts : List Nat} {tt : TT} {te : TE} : ∀ {ds zs : List D}, Lc K g ts tt te env ds zs → zs.length ≤ ds.length
  | _, _, .nil => Nat.le_refl _
  | _, _, .keep _ _ _ l => Nat.succ_le_succ l.le
  | _, _, .skip _ _ l => Nat.le_succ_of_le l.le
/-- the turn i: what is left of ds from i on, what is left of zs from j on -/
theorem Lc.at {g : TG} {ts : List Nat} {tt : TT} {te : TE} : ∀ {ds zs : List D}, Lc K g ts tt te env ds zs → ∀ (i : Nat), i ≤ ds.length → ∃ j, j ≤ zs.length ∧ j ≤ i ∧ (i = ds.length → j = zs.length) ∧ Lc K g ts tt te env (ds.drop i) (zs.drop j) ∧ Lc K g ts tt te env (ds.take i) (zs.take j)
  | _, _, .nil, i, hi => ⟨0, Nat.le_refl _, Nat.zero_le _, fun _ => rfl, by simpa using Lc.nil, by simpa using Lc.nil⟩
  | d :: ds, z :: zs, .keep a b c l, 0, hi => ⟨0, Nat.zero_le _, Nat.le_refl _, fun e => by simp at e, .keep a b c l, .nil⟩
  | d :: ds, z :: zs, .keep a b c l, i + 1, hi => by
    obtain ⟨j, h1, h2, h3, h4, h5⟩ := l.at i (by simpa using hi)
    exact ⟨j + 1, by simpa using h1, by omega, fun e => by have := h3 (by simpa using e); simp [this], by simpa using h4, by simpa using Lc.keep a b c h5⟩
  | d :: ds, zs, .skip a b l, 0, hi => ⟨0, Nat.zero_le _, Nat.le_refl _, fun e => by simp at e, .skip a b l, by simpa using Lc.nil⟩
  | d :: ds, zs, .skip a b l, i + 1, hi => by
    obtain ⟨j, h1, h2, h3, h4, h5⟩ := l.at i (by simpa using hi)
    exact ⟨j, h1, by omega, fun e => h3 (by simpa using e), by simpa using h4, by simpa using Lc.skip a b h5⟩
theorem en_lc {wi : TI} {g : TG} {tt : TT} {te : TE} {vs ts : List Nat} {ds zs : List D} (hi : EvI K wi env ds) (hts : ∀ i ∈ ts, i ∈ vs) (hl : Lc K g ts tt te (wipeD env vs) ds zs) (hlen : ds.length ≤ 10000000) : EvN K (tLc wi g tt te vs) env zs := fun G0 H0 G H σ ok Q q =>
  hi G0 H0 G H σ ok _ fun J G1 H1 a wk Dl hD => by
    have hz := hl.le
    have fr1 : Fw G H G1 (upd H1 Dl (.lst [])) := a.trans (Fw.hid a.gh hD)
    have hDH : H Dl = none := a.hh.free hD
    -- turn i: j items so far
    refine ⟨fun i m H2 => i + m = ds.length ∧ ∃ (G2 : Hp) (j : Nat) (acc : List V), Same G1 G2 ∧ Fw G H G2 H2 ∧ G2 Dl = none ∧ H2 Dl = some (.lst acc) ∧ Dds K G2 acc (zs.take j) ∧ j ≤ i ∧ j ≤ zs.length ∧ (i = ds.length → j = zs.length) ∧ Lc K g ts tt te (wipeD env vs) (ds.drop i) (zs.drop j),
      ⟨ds.length, Nat.zero_add _, G1, 0, [], Same.refl _, fr1, a.gh.free hD, upd_same, .nil, Nat.le_refl _, Nat.zero_le _, fun e => by have := hz; omega, hl⟩, ?_⟩
    rintro i m H2 ⟨him, G2, j, acc, g12, f2, gD, hDl, hacc, hji, hjz, hend, hlc⟩
    by_cases hlt : i < ds.length
    · have hd := List.getElem?_eq_getElem hlt
      obtain ⟨hgo, hy⟩ := wk.go i _ G2 H2 hd g12 f2.gh
      refine .inr ⟨hgo, fun H' => ∃ (G3 : Hp) (j' : Nat) (acc' : List V), Same G1 G3 ∧ Fw G H G3 H' ∧ G3 Dl = none ∧ H' Dl = some (.lst acc') ∧ Dds K G3 acc' (zs.take j') ∧ j' ≤ i + 1 ∧ j' ≤ zs.length ∧ (i + 1 = ds.length → j' = zs.length) ∧ Lc K g ts tt te (wipeD env vs) (ds.drop (i + 1)) (zs.drop j'), fun H' hN => ⟨m - 1, by omega, by omega, hN⟩, fun x H3 hx => ?_⟩
      obtain ⟨G3, a3, hx3⟩ := hy x H3 hx
      have ok3 : Ok K G0 H0 G3 H3 (L2.wipe σ vs) (wipeD env vs) := ((ok.go f2).go a3).wipe vs
      have e1 : ds.drop i = ds[i] :: ds.drop (i + 1) := List.drop_eq_getElem_cons hlt
      rw [e1] at hlc
      have hDne : H2 Dl ≠ none := by rw [hDl]; simp
      generalize hr1 : ds.drop (i + 1) = r1 at hlc ⊢
      generalize hr2 : zs.drop j = r2 at hlc
      have endLen : i + 1 = ds.length → r1 = [] := fun e => by rw [← hr1, e]; simp
      cases hlc with
      | keep hg ht he hl' =>
        refine hg G0 H0 G3 H3 _ x _ ok3 hx3 fun σ4 s4 ok4 => ⟨wipe_sets s4 hts, ht G0 H0 G3 H3 σ4 ok4 _ fun G5 H5 a5 => iteT (he G0 H0 G5 H5 σ4 (ok4.go a5) _ fun y G6 H6 a6 hy6 => ?_)⟩
        rename_i z zs'
        have hjz' : j < zs.length := by
          by_cases hh : j < zs.length
          · exact hh
          · rw [List.drop_eq_nil_of_le (by omega)] at hr2; cases hr2
        have ez : zs.drop j = zs[j] :: zs.drop (j + 1) := List.drop_eq_getElem_cons hjz'
        rw [ez] at hr2
        injection hr2 with hr2a hr2b
        have a36 : Fw G2 H2 G6 H6 := (a3.trans a5).trans a6
        have g6 : G6 Dl = none := a36.fr Dl hDne gD
        refine ⟨acc, a36.hh _ _ hDl, ?_, G6, j + 1, acc ++ [y], g12.trans a36.gg, ?_, g6, upd_same, ?_, by omega, by omega, fun e => ?_, ?_⟩
        · rw [hacc.len, List.length_take, sizeLine_eq]; omega
        · exact ⟨(f2.trans a36).gg, same_upd2 a36.gh g6, fun b o e => by rw [upd_ne (ne_of_none e hDH)]; exact (f2.trans a36).hh _ _ e, (f2.trans a36).fr⟩
        · rw [List.take_add_one, List.getElem?_eq_getElem hjz']
          refine (hacc.mono a36.gg).append ?_
          rw [hr2a]
          exact .cons hy6 .nil
        · have hl2 := hl'.le
          rw [endLen e] at hl2
          rw [← hr2b, List.length_drop] at hl2
          simp at hl2
          omega
        · rw [hr2b]; exact hl'
      | skip hg ht hl' =>
        refine hg G0 H0 G3 H3 _ x _ ok3 hx3 fun σ4 s4 ok4 => ⟨wipe_sets s4 hts, ht G0 H0 G3 H3 σ4 ok4 _ fun G5 H5 a5 => iteF ?_⟩
        have a36 : Fw G2 H2 G5 H5 := a3.trans a5
        refine ⟨G5, j, acc, g12.trans a36.gg, f2.trans a36, a36.fr Dl hDne gD, a36.hh _ _ hDl, hacc.mono a36.gg, by omega, hjz, fun e => ?_, ?_⟩
        · have hl2 := hl'.le
          rw [endLen e, ← hr2, List.length_drop] at hl2
          simp at hl2
          omega
        · rw [hr2]; exact hl'
    · have e : i = ds.length := by omega
      subst e
      have ej := hend rfl
      subst ej
      rw [List.take_length] at hacc
      exact .inl ⟨wk.stop G2 H2 g12 f2.gh, q Dl acc G2 H2 f2 hDH gD hDl hacc⟩
end DL

namespace DL
open PySem L2
variable {K : PySem.W.Frag} {E : XK} {env env' e1 e2 : EnvD}

/-! ### defs -/
theorem args_get {G H : Hp} : ∀ {vs : List V} {ss : List SD}, Args K G H vs ss → ∀ (i : Nat) (s : SD), ss[i]? = some s → s.isMut = false ∧ ∃ v, vs[i]? = some v ∧ SlOk K G H (some v) s
  | _, _, .nil, i, s, h => by simp at h
  | _, _, .cons m a r, 0, s, h => by simp at h; subst h; exact ⟨m, _, rfl, a⟩
  | _, _, .cons m a r, i + 1, s, h => by
    obtain ⟨m', v, h1, h2⟩ := args_get r i s (by simpa using h)
    exact ⟨m', v, by simpa using h1, h2⟩
/-- the slots at the entry -/
def envOf (N : List Str) (ss : List SD) : EnvD := ss ++ List.replicate (N.length - ss.length) .un
theorem ok_start {G H : Hp} {N : List Str} {vs : List V} {ss : List SD} (gh : Same G H) (h : Args K G H vs ss) : Ok K G H G H (L2.start N vs) (envOf N ss) := by
  have hl := h.len
  have mutNo : ∀ (i : Nat) (s : SD), (envOf N ss)[i]? = some s → s.isMut = true → False := fun i s hi hm => by
    unfold envOf at hi
    by_cases hlt : i < ss.length
    · rw [List.getElem?_append_left hlt] at hi
      have := (args_get h i s hi).1
      rw [this] at hm; cases hm
    · rw [List.getElem?_append_right (by omega), List.getElem?_replicate] at hi
      split at hi
      · cases hi; cases hm
      · cases hi
  refine ⟨gh, Fw.refl gh, ?_, fun i s hi => ?_, fun i s l hi hm _ => (mutNo i s hi hm).elim, fun i j s t l m _ hi _ hm _ _ _ => (mutNo i s hi hm).elim⟩
  · unfold L2.start envOf
    simp only [List.length_append, List.length_map, List.length_replicate]
    omega
  · unfold envOf at hi
    unfold L2.start
    by_cases hlt : i < ss.length
    · rw [List.getElem?_append_left hlt] at hi
      obtain ⟨_, v, h1, h2⟩ := args_get h i s hi
      refine ⟨some v, ?_, h2⟩
      rw [List.getElem?_append_left (by rw [List.length_map]; omega), List.getElem?_map, h1]
      rfl
    · rw [List.getElem?_append_right (by omega), List.getElem?_replicate] at hi
      split at hi
      · cases hi
        refine ⟨none, ?_, trivial⟩
        rw [List.getElem?_append_right (by rw [List.length_map]; omega), List.getElem?_replicate, List.length_map, if_pos (by omega)]
      · cases hi
section
variable {P : Program} {w : World} {mg : Str → Option Value} {base : Heap} {x qual : Str} {st : Stmt} {f : Addr} {fd : FuncData} {N ps : List Str} {k : Nat} {α : Type} {fs : α → List SD} {pre : α → Prop} {fv : α → D} {fl : α → List D} {fo : α → Option D} {C : Value}
abbrev cx0 (P : Program) (w : World) (K : PySem.W.Frag) (mg : Str → Option Value) (base : Heap) (N : List Str) (qual : Str) (st : Stmt) (f : Addr) (cdv : Value) (A : Around) (outer : List Env) (s : Shared) (H : Hp) (E : XK) : Cx := (cxOf CX0 P w K mg base N qual (defScope st) f cdv A outer s H E).nox
abbrev cxX (P : Program) (w : World) (K : PySem.W.Frag) (mg : Str → Option Value) (base : Heap) (N : List Str) (qual : Str) (st : Stmt) (f : Addr) (cdv : Value) (A : Around) (outer : List Env) (s : Shared) (H : Hp) (E : XK) : Cx := cxOf (L2.CX P w) P w K mg base N qual (defScope st) f cdv A outer s H E
/-- a def that hands back data -/
theorem fn_D (F : Fun K x qual st f fd) (S : FnScope N ps (defScope st)) (hn : ∀ a, (fs a).length = ps.length)
    (body : ∀ (cdv : Value) (A : Around) (outer : List Env) (s : Shared) (H : Hp) (E : XK), Room k (A.deeper (PyProof.Rows.envOfC qual (defScope st) s.heap.objs.size f cdv)) →
      ∃ t, PSs (cx0 P w K mg base N qual st f cdv A outer s H E) (defBody st) t ∧ ∀ a, pre a → Run K E t (envOf N (fs a)) (.rt (fv a))) : FnOk P w K mg base CX0 (k + 1) f fd ps (SpD K fs pre fv) := by
  refine F.ok S (fun vs H Q E h => ?_) (fun cdv A outer s H vs Q E hr h => ?_)
  · obtain ⟨a, G, gh, ha, _⟩ := h
    rw [ha.len, hn a]
  · obtain ⟨a, G, gh, ha, hp, q⟩ := h
    obtain ⟨t, h1, h2⟩ := body cdv A outer s H E hr
    exact ⟨t, h1, h2 a hp G H G H _ _ (ok_start gh ha) fun v G' H' fw hv => q v G' H' fw hv⟩
/-- a def that runs to its end: None -/
theorem fn_0 (F : Fun K x qual st f fd) (S : FnScope N ps (defScope st)) (hn : ∀ a, (fs a).length = ps.length)
    (body : ∀ (cdv : Value) (A : Around) (outer : List Env) (s : Shared) (H : Hp) (E : XK), Room k (A.deeper (PyProof.Rows.envOfC qual (defScope st) s.heap.objs.size f cdv)) →
      ∃ t, PSs (cx0 P w K mg base N qual st f cdv A outer s H E) (defBody st) t ∧ ∀ a, pre a → ∃ e, Run K E t (envOf N (fs a)) (.nx e)) : FnOk P w K mg base CX0 (k + 1) f fd ps (SpD K fs pre fun _ => .none) := by
  refine F.ok S (fun vs H Q E h => ?_) (fun cdv A outer s H vs Q E hr h => ?_)
  · obtain ⟨a, G, gh, ha, _⟩ := h
    rw [ha.len, hn a]
  · obtain ⟨a, G, gh, ha, hp, q⟩ := h
    obtain ⟨t, h1, h2⟩ := body cdv A outer s H E hr
    obtain ⟨e, h3⟩ := h2 a hp
    exact ⟨t, h1, h3 G H G H _ _ (ok_start gh ha) fun G' H' σ' ok' => q _ G' H' ok'.fw .non⟩
/-- a def that hands back a new list -/
theorem fn_N (F : Fun K x qual st f fd) (S : FnScope N ps (defScope st)) (hn : ∀ a, (fs a).length = ps.length)
    (body : ∀ (cdv : Value) (A : Around) (outer : List Env) (s : Shared) (H : Hp) (E : XK), Room k (A.deeper (PyProof.Rows.envOfC qual (defScope st) s.heap.objs.size f cdv)) →
      ∃ t, PSs (cx0 P w K mg base N qual st f cdv A outer s H E) (defBody st) t ∧ ∀ a, pre a → Run K E t (envOf N (fs a)) (.rn (fl a))) : FnOk P w K mg base CX0 (k + 1) f fd ps (SpN K fs pre fl) := by
  refine F.ok S (fun vs H Q E h => ?_) (fun cdv A outer s H vs Q E hr h => ?_)
  · obtain ⟨a, G, gh, ha, _⟩ := h
    rw [ha.len, hn a]
  · obtain ⟨a, G, gh, ha, hp, q⟩ := h
    obtain ⟨t, h1, h2⟩ := body cdv A outer s H E hr
    exact ⟨t, h1, h2 a hp G H G H _ _ (ok_start gh ha) fun p xs G' H' fw h0 g' h' hd => q p xs G' H' fw h0 g' h' hd⟩
/-- a def that hands back data or raises -/
theorem fn_X (F : Fun K x qual st f fd) (S : FnScope N ps (defScope st)) (hn : ∀ a, (fs a).length = ps.length)
    (body : ∀ (cdv : Value) (A : Around) (outer : List Env) (s : Shared) (H : Hp) (E : XK), Room k (A.deeper (PyProof.Rows.envOfC qual (defScope st) s.heap.objs.size f cdv)) →
      ∃ t, PSs (cxX P w K mg base N qual st f cdv A outer s H E) (defBody st) t ∧ ∀ a, pre a → (∀ d, fo a = some d → Run K E t (envOf N (fs a)) (.rt d) ∨ (d = .none ∧ ∃ e, Run K E t (envOf N (fs a)) (.nx e))) ∧ (fo a = none → Run K E t (envOf N (fs a)) (.ex C))) :
    FnOk P w K mg base (L2.CX P w) (k + 1) f fd ps (SpX K fs pre C fo) := by
  refine F.okX S (fun vs H Q E h => ?_) (fun cdv A outer s H vs Q E hr h => ?_)
  · obtain ⟨a, G, gh, ha, _⟩ := h
    rw [ha.len, hn a]
  · obtain ⟨a, G, gh, ha, hp, q1, q2⟩ := h
    obtain ⟨t, h1, h2⟩ := body cdv A outer s H E hr
    refine ⟨t, h1, ?_⟩
    obtain ⟨h3, h4⟩ := h2 a hp
    cases e : fo a with
    | none => exact h4 e G H G H _ _ (ok_start gh ha) fun G' H' fw => q2 e G' H' fw
    | some d =>
      rcases h3 d e with h5 | ⟨ed, en, h5⟩
      · exact h5 G H G H _ _ (ok_start gh ha) fun v G' H' fw hv => q1 d e v G' H' fw hv
      · subst ed
        exact h5 G H G H _ _ (ok_start gh ha) fun G' H' σ' ok' => q1 _ e _ G' H' ok'.fw .non
/-- a def that stands in the module's names -/
def Callee (P : Program) (w : World) (K : PySem.W.Frag) (mg : Str → Option Value) (base : Heap) (CX : CXT) (k : Nat) (x : Str) (ps : List Str) (sp : Sp) : Prop :=
  ∃ f fd, FnOk P w K mg base CX k f fd ps sp ∧ mg x = some (.ref f) ∧ PySem.W.keepIn K (.ref f) = true ∧ Binds K fd ps []
end
section
variable {X : Cx} {CX : CXT} {k : Nat} {ps : List Str} {sp : Sp} {x : Str} {p pos : Pos} {e : Expr} {es : List Expr} {t : TA}
theorem pe_c (C : Callee X.prog X.w X.K X.mg X.base CX k x ps sp) (hr : Room k X.A) (hx : Passes CX X E) (ha : PA X (e :: es) t) (hg : Gl X x := by rfl)
    (hdb : (x == ("__debug__" : Str)) = false := by decide) (he : starEach (e :: es) X.env = (false, eval e X.env) :: starEach es X.env := by rfl) (hpl : (backTo pos (starEach es X.env)).any (·.1) = false := by rfl) :
    PE X (.Call (.Name x p) (e :: es) [] pos) (tCall sp [] E t) := by
  obtain ⟨f, fd, F, m, kp, b⟩ := C
  exact pe_call F hr hg m kp b .nil hx ha hdb he hpl
end
/-- // by any divisor but 0, below 2 ^ 9000 -/
def CDivZ (_ j : Int) : Prop := j ≠ 0 ∧ j.natAbs.log2 < 9000
theorem op_fdivZ {X : Cx} : OpR X (binaryOp .FloorDiv) (rI CDivZ fun i j => .int (i.fdiv j)) := opI fun i j _ _ _ _ _ hc q =>
  PyProof.Rows.floordiv_int hc.1 q (.inl (PyProof.noPylong_of_log2 hc.2))
end DL

namespace DL
open PySem L2
variable {K : PySem.W.Frag} {E : XK} {env env' e1 e2 : EnvD}
/-! ### lists, published or not -/
def EvL (K : PySem.W.Frag) (te : TE) (env : EnvD) (ds : List D) : Prop := ∀ (G0 H0 G H : Hp) (σ : L2.St), Ok K G0 H0 G H σ env → ∀ Q : VK, (∀ p xs G' H', Fw G H G' H' → H' p = some (.lst xs) → Dds K G' xs ds → Q (.ref p) H') → te σ H Q
theorem EvD.l {te : TE} {ds : List D} (h : EvD K te env (.list ds)) : EvL K te env ds := fun G0 H0 G H σ ok Q q => h G0 H0 G H σ ok _ fun v G1 H1 a hv => by
  obtain ⟨p, xs, e, hs, hd⟩ := hv.lst_inv
  subst e
  exact q p xs G1 H1 a (a.gh _ _ hs) hd
theorem EvN.l {te : TE} {ds : List D} (h : EvN K te env ds) : EvL K te env ds := fun G0 H0 G H σ ok Q q => h G0 H0 G H σ ok _ fun p xs G1 H1 a _ _ h1 hd => q p xs G1 H1 a h1 hd
theorem EvL.p {te : TE} {ds : List D} (h : EvL K te env ds) : EvP K te env (.list ds) := fun G0 H0 G H σ ok Q q => h G0 H0 G H σ ok _ fun p xs G1 H1 a h1 hd => q _ G1 H1 a (.lst h1 (hd.mono a.gh))
theorem el_var {ds : List D} (i : Nat) (h : env[i]? = some (.ml ds)) : EvL K (tVar i) env ds := fun G0 H0 G H σ ok Q q => by
  obtain ⟨o, h1, l, xs, e, g, hl, hd⟩ := ok.sl i _ h
  subst e
  exact ⟨_, h1, q _ xs G H (Fw.refl ok.gh) hl hd⟩
section
variable {ta tb tc te : TE} {ds es : List D} {i j : Int} {z : D}
theorem ed_ixl (ha : EvL K ta env ds) (hb : EvD K tb env (.int i)) (hz : atI ds i = some z) : EvD K (tOp (rIxL K) ta tb) env z := fun G0 H0 G H σ ok Q q =>
  ha G0 H0 G H σ ok _ fun p xs G1 H1 a h1 hd => hb G0 H0 G1 H1 σ (ok.go a) _ fun u G2 H2 a2 hu => by
    unfold atI at hz
    cases hk : ixN ds.length i with
    | none => rw [hk] at hz; cases hz
    | some k =>
      rw [hk] at hz
      obtain ⟨w, h3, h4⟩ := hd.get (i := k) (d := z) hz
      exact ⟨p, xs, i, w, rfl, hu.int_inv, .inl (.inl (a2.hh _ _ h1)), by unfold atI; rw [hd.len, hk]; exact h3, q w G2 H2 (a.trans a2) (h4.mono a2.gg)⟩
theorem ed_lenl (ha : EvL K ta env ds) : EvD K (tCB (fun xs H Q => ∃ p ys, xs = [.ref p] ∧ (SqL K H p ys ∨ SqT K H p ys) ∧ Q (.int ys.length) H) (tCons ta tNil)) env (.int ds.length) := ed_lenL ha.p
theorem en_cat (ha : EvL K ta env ds) (hb : EvL K tb env es) (hl : ds.length + es.length ≤ 1000000) : EvN K (tOp rCat ta tb) env (ds ++ es) := fun G0 H0 G H σ ok Q q =>
  ha G0 H0 G H σ ok _ fun p xs G1 H1 a h1 hd => hb G0 H0 G1 H1 σ (ok.go a) _ fun u ys G2 H2 a2 h2 he =>
    ⟨p, u, xs, ys, rfl, rfl, a2.hh _ _ h1, h2, by rw [hd.len, he.len, sizeLine_eq]; omega, fun r hr => q r _ G2 _ ((a.trans a2).trans (Fw.hid a2.gh hr)) ((a.trans a2).hh.free hr) (a2.gh.free hr) upd_same ((hd.mono a2.gg).append he)⟩
theorem Dds.rep {G : Hp} {xs : List V} (h : Dds K G xs ds) : ∀ n : Nat, Dds K G (List.replicate n xs).flatten (List.replicate n ds).flatten
  | 0 => .nil
  | n + 1 => by rw [List.replicate_succ, List.replicate_succ, List.flatten_cons, List.flatten_cons]; exact h.append (Dds.rep h n)
theorem en_rep (ha : EvL K ta env ds) (hb : EvD K tb env (.int i)) (hl : ds.length * i.toNat ≤ 1000000 ∧ -1000000 ≤ i ∧ i ≤ 1000000) : EvN K (tOp rRep ta tb) env (List.replicate i.toNat ds).flatten := fun G0 H0 G H σ ok Q q =>
  ha G0 H0 G H σ ok _ fun p xs G1 H1 a h1 hd => hb G0 H0 G1 H1 σ (ok.go a) _ fun u G2 H2 a2 hu =>
    ⟨p, i, xs, rfl, hu.int_inv, a2.hh _ _ h1, by omega, by omega, by rw [hd.len, sizeLine_eq]; omega, fun r hr => q r _ G2 _ ((a.trans a2).trans (Fw.hid a2.gh hr)) ((a.trans a2).hh.free hr) (a2.gh.free hr) upd_same ((hd.mono a2.gg).rep _)⟩
/-- slices -/
def EvO (K : PySem.W.Frag) (to : TO) (env : EnvD) (o : Option Int) : Prop := ∀ (G0 H0 G H : Hp) (σ : L2.St), Ok K G0 H0 G H σ env → ∀ Q : Option Int → Hp → Prop, (∀ G' H', Fw G H G' H' → Q o H') → to σ H Q
theorem eo_none : EvO K tNoPart env none := fun _ _ G H _ ok _ q => q G H (Fw.refl ok.gh)
theorem eo_some (h : EvD K ta env (.int i)) : EvO K (tPart ta) env (some i) := fun G0 H0 G H σ ok Q q => h G0 H0 G H σ ok _ fun v G1 H1 a hv => ⟨i, hv.int_inv, q G1 H1 a⟩
def cutD (xs : List D) (lo hi : Option Int) : List D := (xs.drop (HT.sIx xs.length 0 lo)).take (HT.sIx xs.length xs.length hi - HT.sIx xs.length 0 lo)
theorem en_slice {tl th : TO} {lo hi : Option Int} (ha : EvL K ta env ds) (hl : EvO K tl env lo) (hh : EvO K th env hi) : EvN K (tSl (rSlL K) ta tl th) env (cutD ds lo hi) := fun G0 H0 G H σ ok Q q =>
  ha G0 H0 G H σ ok _ fun p xs G1 H1 a h1 hd => hl G0 H0 G1 H1 σ (ok.go a) _ fun G2 H2 a2 => hh G0 H0 G2 H2 σ ((ok.go a).go a2) _ fun G3 H3 a3 =>
    ⟨p, xs, rfl, .inl (.inl ((a2.trans a3).hh _ _ h1)), fun r hr => q r _ G3 _ (((a.trans a2).trans a3).trans (Fw.hid a3.gh hr)) (((a.trans a2).trans a3).hh.free hr) (a3.gh.free hr) upd_same (by
      unfold cutV cutD
      rw [hd.len]
      exact ((hd.mono (a2.trans a3).gg).drop _).take _)⟩
theorem ed_sum {ns : List Int} (ha : EvL K ta env (ns.map PyData.int)) : EvD K (tCB (rSum K) (tCons ta tNil)) env (.int ns.sum) := fun G0 H0 G H σ ok Q q =>
  ha G0 H0 G H σ ok _ fun p xs G1 H1 a h1 hd => ⟨p, ns, rfl, by rw [← hd.ints_inv]; exact SqL.of h1, q _ G1 H1 a (.int _)⟩
theorem ed_any {bs : List Bool} (ha : EvL K ta env (bs.map PyData.bool)) : EvD K (tCB (rAny K) (tCons ta tNil)) env (.bool (bs.any id)) := fun G0 H0 G H σ ok Q q =>
  ha G0 H0 G H σ ok _ fun p xs G1 H1 a h1 hd => ⟨p, bs, rfl, by rw [← hd.bls_inv]; exact SqL.of h1, q _ G1 H1 a (.bl _)⟩
/-- the script -/
theorem ev_scr {ns : List Int} (i : Nat) (h : env[i]? = some (.scr ns)) : EvV K (tVar i) env (.scr ns) := fun G0 H0 G H σ ok Q q => by
  obtain ⟨o, h1, a, e, hs⟩ := ok.sl i _ h
  subst e
  exact ⟨_, h1, q _ G H (Fw.refl ok.gh) ⟨a, rfl, hs⟩⟩
theorem ed_lenR {ns : List Int} (i : Nat) (h : env[i]? = some (.scr ns)) : EvD K (tCB (fun xs H Q => ∃ p ys, xs = [.ref p] ∧ (SqL K H p ys ∨ SqT K H p ys) ∧ Q (.int ys.length) H) (tCons (tVar i) tNil)) env (.int ns.length) := fun G0 H0 G H σ ok Q q =>
  ev_scr i h G0 H0 G H σ ok _ fun v G1 H1 a hv => by
    obtain ⟨p, e, hs⟩ := hv
    cases e
    refine ⟨p, _, rfl, .inl (a.gh.seq hs), ?_⟩
    rw [List.length_map]
    exact q _ G1 H1 a (.int _)
theorem ed_ixR {ns : List Int} {n : Int} (m : Nat) (h : env[m]? = some (.scr ns)) (hb : EvD K tb env (.int i)) (hz : atI ns i = some n) : EvD K (tOp (rIxL K) (tVar m) tb) env (.int n) := fun G0 H0 G H σ ok Q q =>
  ev_scr m h G0 H0 G H σ ok _ fun v G1 H1 a hv => by
    obtain ⟨p, e, hs⟩ := hv
    cases e
    refine hb G0 H0 G1 H1 σ (ok.go a) _ fun u G2 H2 a2 hu => ⟨p, _, i, .int n, rfl, hu.int_inv, (a.trans a2).gh.seq (a2.gg.seq hs) |> fun z => a2.gh.seq (a2.gg.seq hs), ?_, q _ G2 H2 (a.trans a2) (.int n)⟩
    unfold atI at hz ⊢
    rw [List.length_map]
    cases hk : ixN ns.length i with
    | none => rw [hk] at hz; cases hz
    | some k =>
      rw [hk] at hz
      show (ns.map V.int)[k]? = _
      rw [List.getElem?_map, show ns[k]? = some n from hz]
      rfl
/-- isinstance -/
def tyName : D → String
  | .none => "NoneType"
  | .bool _ => "bool"
  | .int _ => "int"
  | .str _ => "str"
  | .list _ => "list"
  | .tuple _ => "tuple"
  | .dict _ => "dict"
theorem Dd.tyx {H : Hp} {v : V} {d : D} (h : Dd K H v d) : TyX K H v (.type (tyName d)) := by
  cases h with
  | non => exact .base .non
  | bl b => exact .base (.bl b)
  | int i => exact .base (.int i)
  | str x => exact .base (.str x)
  | lst hs _ => exact .base (.lst hs)
  | tup hs _ =>
    rcases hs with (h | ⟨o, h⟩) | ⟨o, its, n, hk, hc, _⟩
    · exact .base (.tup h)
    · exact .fTuple h
    · exact .kTuple hk hc
theorem ed_isi {d : D} {T : String} {b : Bool} (h : EvP K ta env d) (hb : kitB (tyName d) T = some b) : EvD K (tCB (rIsi K) (tCons ta (tCons (tC (.ty T)) tNil))) env (.bool b) := fun G0 H0 G H σ ok Q q =>
  h G0 H0 G H σ ok _ fun v G1 H1 a hv => ⟨v, .ty T, _, _, b, rfl, .ty T, hv.tyx, kit_ty hb, q _ G1 H1 a (.bl b)⟩
theorem ed_isN {d : D} (h : EvP K ta env d) : EvD K (tOp (fun x y H Q => y = .non ∧ Q (.bl (decide (x = .non))) H) ta (tC .non)) env (.bool (match d with | .none => true | _ => false)) := fun G0 H0 G H σ ok Q q =>
  h G0 H0 G H σ ok _ fun v G1 H1 a hv => ⟨rfl, by
    cases hv with
    | non => exact q _ G1 H1 a (.bl true)
    | bl b => exact q _ G1 H1 a (.bl false)
    | int b => exact q _ G1 H1 a (.bl false)
    | str b => exact q _ G1 H1 a (.bl false)
    | lst _ _ => exact q _ G1 H1 a (.bl false)
    | tup _ _ => exact q _ G1 H1 a (.bl false)⟩
theorem ed_notN {d : D} (h : EvP K ta env d) : EvD K (tOp (fun x y H Q => y = .non ∧ Q (.bl (!decide (x = .non))) H) ta (tC .non)) env (.bool (match d with | .none => false | _ => true)) := fun G0 H0 G H σ ok Q q =>
  h G0 H0 G H σ ok _ fun v G1 H1 a hv => ⟨rfl, by
    cases hv with
    | non => exact q _ G1 H1 a (.bl false)
    | bl b => exact q _ G1 H1 a (.bl true)
    | int b => exact q _ G1 H1 a (.bl true)
    | str b => exact q _ G1 H1 a (.bl true)
    | lst _ _ => exact q _ G1 H1 a (.bl true)
    | tup _ _ => exact q _ G1 H1 a (.bl true)⟩
end
/-! ### an if whose test is known -/
theorem run_ifF {tc : TT} {t u : TS} {r : RD} (h : EvT K tc env false) (h2 : Run K E u env r) : Run K E (tIfS tc t u) env r := run_if h (fun z => nomatch z) fun _ => h2
theorem run_ifT {tc : TT} {t u : TS} {r : RD} (h : EvT K tc env true) (h2 : Run K E t env r) : Run K E (tIfS tc t u) env r := run_if h (fun _ => h2) fun z => nomatch z
theorem et_orF {t1 t2 : TT} (h : EvT K t1 env false) (h2 : EvT K t2 env false) : EvT K (tOr t1 t2) env false := et_or h fun _ => h2
theorem et_andF {t1 t2 : TT} (h : EvT K t1 env false) : EvT K (tAnd t1 t2) env false := fun G0 H0 G H σ ok Q q => h G0 H0 G H σ ok _ fun G1 H1 a => iteF (q G1 H1 a)
theorem et_notT {t1 : TT} (h : EvT K t1 env true) : EvT K (tNot t1) env false := et_not h

/-! ### errors -/
/-- a class of errors of the program's own, as the written part has it -/
structure ErrC (K : PySem.W.Frag) (mg : Str → Option Value) (x : Str) (C : Addr) : Prop where
  g : mg x = some (.ref C)
  ex : PySem.W.excIn K C [.type "ValueError", .type "Exception", .type "BaseException", .type "object"] "ValueError.__new__" = true
  kp : PySem.W.keepIn K (.ref C) = true
  sub : PySem.W.subIn K (.ref C) (.type "BaseException") = some true
  ty : PySem.W.typeIn K (.ref C) = some (.type "type")
  own : ExcC K C
  self : PySem.W.subIn K (.ref C) (.ref C) = some true
theorem ErrC.exm {K : PySem.W.Frag} {mg : Str → Option Value} {x : Str} {C : Addr} (F : ErrC K mg x C) : PySem.W.exmOne K (.ref C) (.ref C) = some true := PySem.W.exm_ref F.sub F.own.hd F.ty F.self
theorem ps_err {X : Cx} {W : WX} {x m : Str} {C : Addr} {j : Nat} {p p2 pos pos2 : Pos} (hc : X.calm = true) (tk : Takes X W) (F : ErrC X.K X.mg x C) (hg : Gl X x) (hdb : (x == ("__debug__" : Str)) = false := by decide) :
    PS X (.Raise (some (.Call (.Name x p) [.Constant (.str m) j p2] [] pos)) none pos2) (fun _ σ H => W (.ref C) none σ H) :=
  ps_raise hc tk (pmk_own PySem.F.excBase_ValueError F.ex F.g F.kp (raises_own F.sub F.ty) hg hdb)
theorem run_err {C : Value} : Run K E (fun _ _ H => E C none H) env (.ex C) := fun G0 H0 G H σ D ok q => q G H ok.fw
/-- isinstance(e, T) of the error that a suite holds, its class cls -/
def rIsF (K : PySem.W.Frag) (C a : Addr) (cls : Value) (d : Option Addr) : List V → Hp → VK → Prop := fun xs H Q => cls = .ref C ∧ d = none ∧ rIsE K C a xs H Q
theorem call_isF {X : Cx} {a C : Addr} {oe : Obj} {cls : Value} {d : Option Addr} {pn : List (Addr × Obj)} (F : ExcC X.K C) (hz : Zc cls d oe) (hf : ∃ vs, oe.data = .fields vs) : CallR (X.suite a ((a, oe) :: pn)) (.builtin "isinstance") (rIsF X.K C a cls d) := by
  intro pins s σ H xs us Q I r h
  obtain ⟨e1, e2, h⟩ := h
  subst e1; subst e2
  exact call_isE F hz hf pins s σ H xs us Q I r h
theorem ed_isF {i : Nat} {a C : Addr} {c : V} {cv : Value} {b : Bool} (h : env[i]? = some (.raw (.ref a))) (hc : ∀ u, RelV c u → u = cv) (hk : PySem.W.kitOne K (.ref C) cv = some b) : EvD K (tCB (rIsF K C a (.ref C) none) (tCons (tVar i) (tCons (tC c) tNil))) env (.bool b) := fun G0 H0 G H σ ok Q q =>
  ev_raw i h G0 H0 G H σ ok _ fun v G1 H1 f hv => ⟨rfl, rfl, c, cv, b, by cases hv; rfl, hc, hk, q _ G1 H1 f (.bl b)⟩
def rIsFT (K : PySem.W.Frag) (C a : Addr) (cls : Value) (d : Option Addr) : List V → Hp → VK → Prop := fun xs H Q => cls = .ref C ∧ d = none ∧ ∃ (tp : Addr) (cs : List V) (us : List Value) (b : Bool), xs = [.ref a, .ref tp] ∧ H tp = some (.tup cs) ∧ Paired ClsV cs us ∧ PySem.W.kitAny K (.ref C) us = some b ∧ Q (.bl b) H
theorem call_isFT {X : Cx} {a C : Addr} {oe : Obj} {cls : Value} {d : Option Addr} {pn : List (Addr × Obj)} (F : ExcC X.K C) (hz : Zc cls d oe) (hf : ∃ vs, oe.data = .fields vs) : CallR (X.suite a ((a, oe) :: pn)) (.builtin "isinstance") (rIsFT X.K C a cls d) := by
  intro pins s σ H xs us Q I r h
  obtain ⟨e1, e2, tp, cs, ws, b, rfl, hT, hp, e, q⟩ := h
  subst e1; subst e2
  match us, r with
  | [u1, u2], .cons r1 (.cons r2 .nil) =>
    obtain rfl : u1 = Value.ref a := r1
    obtain rfl : u2 = Value.ref tp := r2
    have hobj := (I.pin (a, oe) (List.mem_append_left _ (List.mem_cons_self))).1
    obtain ⟨fv, hfv⟩ := hf
    have inst : PySem.W.InstAt s.heap a oe C none := by
      cases oe with
      | mk c d da sl =>
        cases hz.1; cases hz.2; cases hfv
        exact ⟨hobj, rfl, rfl, trivial⟩
    obtain ⟨_, its, rv, ot, ht1, ht2, nt, ht3⟩ : ObjOk X.prog X.w H s.heap tp (.tup cs) := I.hok tp _ hT
    cases ot with
    | mk tc td tda tsl =>
      cases ht2; cases ht3
      cases ClsV.all hp rv
      exact PySem.W.kia_tup (PySem.W.handS_kitx_exc F.hg F.hk F.hs F.hd F.ha F.hn F.ht F.hm) I.kIn inst ht1 e (fun z => Value.noConfusion z) fun tk => ⟨V.bl b, H, I.kept (t' := tk) (fun _ _ w => w), rfl, q⟩
theorem ed_isFT2 {i : Nat} {a C : Addr} {c1 c2 : V} {u1 u2 : Value} {b : Bool} (h : env[i]? = some (.raw (.ref a))) (h1 : ClsV c1 u1) (h2 : ClsV c2 u2) (hk : PySem.W.kitAny K (.ref C) [u1, u2] = some b) :
    EvD K (tCB (rIsFT K C a (.ref C) none) (tCons (tVar i) (tCons (tTup (tCons (tC c1) (tCons (tC c2) tNil))) tNil))) env (.bool b) := fun G0 H0 G H σ ok Q q =>
  ev_raw i h G0 H0 G H σ ok _ fun v G1 H1 f hv => ⟨by show 2 ≤ sizeLine; decide, fun p hp => ⟨rfl, rfl, p, [c1, c2], [u1, u2], b, by cases hv; rfl, upd_same, .cons h1 (.cons h2 .nil), hk, q _ _ _ (f.trans (Fw.new f.gh hp)) (.bl b)⟩⟩
section
variable {X : Cx} {CX : CXT} {k : Nat} {ps : List Str} {sp : Sp} {x : Str} {p pos : Pos} {e : Expr} {es : List Expr} {t : TA} {Es : L2.St → XK}
theorem pe_cS (C : Callee X.prog X.w X.K X.mg X.base CX k x ps sp) (hr : Room k X.A) (hx : ∀ σ, PassesAt CX X σ (Es σ)) (ha : PA X (e :: es) t) (hg : Gl X x := by rfl)
    (hdb : (x == ("__debug__" : Str)) = false := by decide) (he : starEach (e :: es) X.env = (false, eval e X.env) :: starEach es X.env := by rfl) (hpl : (backTo pos (starEach es X.env)).any (·.1) = false := by rfl) :
    PE X (.Call (.Name x p) (e :: es) [] pos) (tCallS sp Es t) := by
  obtain ⟨f, fd, F, m, kp, b⟩ := C
  exact pe_callS F hr hg m kp b hx ha hdb he hpl
end
section
variable {α : Type} {fs : α → List SD} {pre : α → Prop} {fo : α → Option D} {C c : Value} {t : TA} {ss : List SD} {i : Nat} {ts : Addr → Value → Option Addr → TS} {Wout : WX}
/-- try: f(..) .. except c as n: suite, f raises, the suite hands back d -/
theorem run_tryR {x : α} {d : D} (h : EvA K t env ss) (e : ss = fs x) (hp : pre x) (hn : fo x = none) (hm : PySem.W.exmOne K C c = some true) (hs : ∀ a, Run K E (ts a C none) (env.set i (.raw (.ref a))) (.rt d)) :
    Run K E (fun D σ H => tDrop (tCallS (SpX K fs pre C fo) (WE (wAs K c i ts Wout D)) t) D σ H) env (.rt d) := fun G0 H0 G H σ D ok q =>
  h G0 H0 G H σ ok _ fun vs G1 H1 a hv => ⟨x, G1, a.gh, by rw [← e]; exact hv, hp, fun z hz => (by rw [hn] at hz; cases hz), fun _ G2 H2 a2 => ⟨true, hm, fun _ b _ => hs b G0 H0 G2 H2 _ _ (((ok.go a).go a2).set i rfl rfl) q, fun z => nomatch z⟩⟩
/-- .. f does not raise -/
theorem run_tryN {x : α} {d : D} (h : EvA K t env ss) (e : ss = fs x) (hp : pre x) (hn : fo x = some d) :
    Run K E (fun D σ H => tDrop (tCallS (SpX K fs pre C fo) (WE (wAs K c i ts Wout D)) t) D σ H) env (.nx env) := fun G0 H0 G H σ D ok q =>
  h G0 H0 G H σ ok _ fun vs G1 H1 a hv => ⟨x, G1, a.gh, by rw [← e]; exact hv, hp, fun z hz v G2 H2 a2 _ => q G2 H2 σ ((ok.go a).go a2), fun z => by rw [hn] at z; cases z⟩
end
end DL
namespace DL
open PySem L2
variable {K : PySem.W.Frag} {E : XK} {env : EnvD}
section
variable {α : Type} {fs : α → List SD} {pre : α → Prop} {fo : α → Option D} {C : Value} {t : TA} {ss : List SD}
/-- return f(..), f raises -/
theorem run_retX {x : α} (h : EvA K t env ss) (e : ss = fs x) (hp : pre x) (hn : fo x = none) : Run K E (tRet (tCall (SpX K fs pre C fo) [] E t)) env (.ex C) := fun G0 H0 G H σ D ok q =>
  h G0 H0 G H σ ok _ fun vs G1 H1 a hv => ⟨x, G1, a.gh, by rw [List.append_nil, ← e]; exact hv, hp, fun z hz => (by rw [hn] at hz; cases hz), fun _ G2 H2 a2 => q G2 H2 ((ok.fw.trans a).trans a2)⟩
/-- f(..) as a statement, f raises -/
theorem run_dropX {x : α} (h : EvA K t env ss) (e : ss = fs x) (hp : pre x) (hn : fo x = none) : Run K E (tDrop (tCall (SpX K fs pre C fo) [] E t)) env (.ex C) := fun G0 H0 G H σ D ok q =>
  h G0 H0 G H σ ok _ fun vs G1 H1 a hv => ⟨x, G1, a.gh, by rw [List.append_nil, ← e]; exact hv, hp, fun z hz => (by rw [hn] at hz; cases hz), fun _ G2 H2 a2 => q G2 H2 ((ok.fw.trans a).trans a2)⟩
end
/-- an error of a callee leaves the def -/
theorem pass_up {P : Program} {w : World} {mg : Str → Option Value} {base : Heap} {N : List Str} {qual : Str} {st : Stmt} {f : Addr} {cdv : Value} {A : Around} {outer : List Env} {s : Shared} {H : Hp} :
    Passes (L2.CX P w) (cxX P w K mg base N qual st f cdv A outer s H E) E := passes_call (takes_of rfl rfl rfl rfl) (fun _ _ _ _ h => h)
theorem Turn1.seq {t u : TS} {e1 e' : EnvD} (h : Run K E t env (.nx e1)) (h' : Turn1 K E u e1 e') : Turn1 K E (tSeq t u) env e' := by
  rcases h' with h' | h'
  · exact .inl (run_seq h h')
  · exact .inr (run_seq h h')
end DL

/-! Fractions: the mathematics. -/
namespace MX
open PySem L2 DL
/-- a fraction as data -/
abbrev encQ (r : Rat) : PyData := .tuple [.int r.num, .int (r.den : Int)]
/-- by what fraction() divides -/
def sgcd (t l : Int) : Int := if l < 0 then -((Nat.gcd t.natAbs l.natAbs : Nat) : Int) else ((Nat.gcd t.natAbs l.natAbs : Nat) : Int)
theorem gcd_pos {t l : Int} (h : l ≠ 0) : 0 < Nat.gcd t.natAbs l.natAbs := Nat.gcd_pos_of_pos_right _ (by omega)
theorem sgcd_ne {t l : Int} (h : l ≠ 0) : sgcd t l ≠ 0 := by
  have := gcd_pos (t := t) h
  unfold sgcd
  split <;> omega
theorem gcd_dvd_top (t l : Int) : ((Nat.gcd t.natAbs l.natAbs : Nat) : Int) ∣ t := Int.dvd_natAbs.mp (Int.natCast_dvd_natCast.mpr (Nat.gcd_dvd_left _ _))
theorem gcd_dvd_low (t l : Int) : ((Nat.gcd t.natAbs l.natAbs : Nat) : Int) ∣ l := Int.dvd_natAbs.mp (Int.natCast_dvd_natCast.mpr (Nat.gcd_dvd_right _ _))
theorem sgcd_top (t l : Int) : sgcd t l ∣ t := by
  unfold sgcd
  split
  · exact Int.neg_dvd.mpr (gcd_dvd_top t l)
  · exact gcd_dvd_top t l
theorem sgcd_low (t l : Int) : sgcd t l ∣ l := by
  unfold sgcd
  split
  · exact Int.neg_dvd.mpr (gcd_dvd_low t l)
  · exact gcd_dvd_low t l
theorem divInt_parts {t l : Int} (h : l ≠ 0) : (Rat.divInt t l).num = t.fdiv (sgcd t l) ∧ ((Rat.divInt t l).den : Int) = l.fdiv (sgcd t l) := by
  rw [Int.fdiv_eq_ediv_of_dvd (sgcd_top t l), Int.fdiv_eq_ediv_of_dvd (sgcd_low t l)]
  unfold sgcd
  rcases Int.lt_or_gt_of_ne h with hl | hl
  · obtain ⟨d, hd⟩ : ∃ d : Nat, l = Int.negSucc d := ⟨(-l - 1).toNat, by omega⟩
    subst hd
    rw [if_pos hl]
    have e : Rat.divInt t (Int.negSucc d) = Rat.normalize (-t) (d + 1) (by omega) := rfl
    rw [e, Rat.normalize_eq]
    have hn : (Int.negSucc d).natAbs = d + 1 := rfl
    rw [hn]
    have hng : (-t).natAbs = t.natAbs := Int.natAbs_neg t
    have hg : ((t.natAbs.gcd (d + 1) : Nat) : Int) ∣ t := gcd_dvd_top t (Int.negSucc d)
    refine ⟨?_, ?_⟩
    · show -t / (((-t).natAbs.gcd (d + 1) : Nat) : Int) = _
      rw [hng, Int.ediv_neg, Int.neg_ediv_of_dvd hg]
    · show (((d + 1) / ((-t).natAbs.gcd (d + 1)) : Nat) : Int) = _
      rw [hng]
      have : Int.negSucc d = -((d + 1 : Nat) : Int) := rfl
      rw [this, Int.ediv_neg, Int.neg_ediv_of_dvd (by exact_mod_cast Nat.gcd_dvd_right _ _), Int.neg_neg]
      rfl
  · obtain ⟨d, hd⟩ : ∃ d : Nat, l = (d : Int) := ⟨l.toNat, by omega⟩
    subst hd
    rw [if_neg (by omega)]
    have hd0 : d ≠ 0 := by omega
    have e : Rat.divInt t (d : Int) = mkRat t d := rfl
    rw [e, Rat.mkRat_def, dif_neg hd0, Rat.normalize_eq]
    exact ⟨rfl, rfl⟩
/-! ### sizes -/
/-- at most n bits -/
def Bt (n : Nat) (x : Int) : Prop := x.natAbs < 2 ^ n
instance (n : Nat) (x : Int) : Decidable (Bt n x) := by unfold Bt; infer_instance
theorem Bt.zero (n : Nat) : Bt n 0 := Nat.two_pow_pos n
theorem Bt.one {n : Nat} (h : 0 < n) : Bt n 1 := Nat.one_lt_two_pow (by omega)
theorem Bt.mono {n m : Nat} {x : Int} (h : Bt n x) (hm : n ≤ m) : Bt m x := Nat.lt_of_lt_of_le h (Nat.pow_le_pow_right (by decide) hm)
theorem Bt.mul {n m : Nat} {x y : Int} (h : Bt n x) (h' : Bt m y) : Bt (n + m) (x * y) := wide_lt h h'
theorem Bt.add {n : Nat} {x y : Int} (h : Bt n x) (h' : Bt n y) : Bt (n + 1) (x + y) := by
  unfold Bt at *
  have : (x + y).natAbs ≤ x.natAbs + y.natAbs := Int.natAbs_add_le x y
  rw [Nat.pow_succ]
  omega
theorem Bt.neg {n : Nat} {x : Int} (h : Bt n x) : Bt n (-x) := by
  unfold Bt at *
  rw [Int.natAbs_neg]; exact h
theorem Bt.mulx {n m : Nat} {x y : Int} (h : Bt n x) (h' : Bt m y) (hnm : n + m ≤ 134217728) : CMulX x y := mulx_ok h h' hnm
theorem sgcd_abs (t l : Int) : (sgcd t l).natAbs = Nat.gcd t.natAbs l.natAbs := by
  unfold sgcd
  split
  · rw [Int.natAbs_neg, Int.natAbs_natCast]
  · rw [Int.natAbs_natCast]
theorem sgcd_div {t l x : Int} (h : l ≠ 0) (hb : Bt 9000 l) : CDivZ x (sgcd t l) := by
  refine ⟨sgcd_ne h, ?_⟩
  rw [sgcd_abs]
  have h1 : Nat.gcd t.natAbs l.natAbs ≤ l.natAbs := Nat.gcd_le_right _ (by omega)
  have h2 : Nat.gcd t.natAbs l.natAbs < 2 ^ 9000 := Nat.lt_of_le_of_lt h1 hb
  exact PySem.Flt.log2_lt_of (by decide) h2
theorem divInt_num_le (t : Int) {l : Int} (h : l ≠ 0) : (Rat.divInt t l).num.natAbs ≤ t.natAbs := by
  rw [(divInt_parts h).1, Int.fdiv_eq_ediv_of_dvd (sgcd_top t l)]
  have h1 := Int.ediv_mul_cancel (sgcd_top t l)
  have h2 : (t / sgcd t l).natAbs * (sgcd t l).natAbs = t.natAbs := by rw [← Int.natAbs_mul, h1]
  have h3 : 1 ≤ (sgcd t l).natAbs := by have := sgcd_ne (t := t) h; omega
  calc (t / sgcd t l).natAbs = (t / sgcd t l).natAbs * 1 := (Nat.mul_one _).symm
    _ ≤ (t / sgcd t l).natAbs * (sgcd t l).natAbs := Nat.mul_le_mul_left _ h3
    _ = t.natAbs := h2
theorem divInt_den_le (t : Int) {l : Int} (h : l ≠ 0) : (Rat.divInt t l).den ≤ l.natAbs := by
  have e := (divInt_parts (t := t) h).2
  rw [Int.fdiv_eq_ediv_of_dvd (sgcd_low t l)] at e
  have h1 := Int.ediv_mul_cancel (sgcd_low t l)
  have h2 : (l / sgcd t l).natAbs * (sgcd t l).natAbs = l.natAbs := by rw [← Int.natAbs_mul, h1]
  have h3 : 1 ≤ (sgcd t l).natAbs := by have := sgcd_ne (t := t) h; omega
  have h4 : (Rat.divInt t l).den = (l / sgcd t l).natAbs := by rw [← e, Int.natAbs_natCast]
  rw [h4]
  calc (l / sgcd t l).natAbs = (l / sgcd t l).natAbs * 1 := (Nat.mul_one _).symm
    _ ≤ (l / sgcd t l).natAbs * (sgcd t l).natAbs := Nat.mul_le_mul_left _ h3
    _ = l.natAbs := h2
/-- both parts of at most n bits -/
structure Qb (n : Nat) (r : Rat) : Prop where
  num : Bt n r.num
  den : Bt n (r.den : Int)
theorem Qb.mono {n m : Nat} {r : Rat} (h : Qb n r) (hm : n ≤ m) : Qb m r := ⟨h.num.mono hm, h.den.mono hm⟩
theorem qb_divInt {n : Nat} {t l : Int} (h : l ≠ 0) (ht : Bt n t) (hl : Bt n l) : Qb n (Rat.divInt t l) :=
  ⟨Nat.lt_of_le_of_lt (divInt_num_le t h) ht, by show ((_ : Nat) : Int).natAbs < _; rw [Int.natAbs_natCast]; exact Nat.lt_of_le_of_lt (divInt_den_le t h) hl⟩
theorem den_ne (r : Rat) : (r.den : Int) ≠ 0 := by have := r.den_nz; omega
/-- what plus, times, over, is_less reckon -/
theorem add_is (p q : Rat) : Rat.divInt (p.num * q.den + q.num * p.den) (p.den * q.den) = p + q := by
  have h := Rat.divInt_add_divInt p.num q.num (den_ne p) (den_ne q)
  rw [Rat.num_divInt_den, Rat.num_divInt_den] at h
  exact h.symm
theorem mul_is (p q : Rat) : Rat.divInt (p.num * q.num) (p.den * q.den) = p * q := by
  have h := Rat.divInt_mul_divInt p.num q.num (d₁ := p.den) (d₂ := q.den)
  rw [Rat.num_divInt_den, Rat.num_divInt_den] at h
  exact h.symm
theorem lt_is (p q : Rat) : decide (p.num * q.den < q.num * p.den) = decide (p < q) := by
  by_cases h : p < q
  · rw [decide_eq_true h, decide_eq_true ((Rat.lt_iff p q).mp h)]
  · rw [decide_eq_false h, decide_eq_false (fun z => h ((Rat.lt_iff p q).mpr z))]
theorem num_is (p : Rat) : p = (p.num : Rat) / ((p.den : Int) : Rat) := by
  have h := Rat.num_divInt_den p
  rw [Rat.divInt_eq_div] at h
  exact h.symm
theorem div_is (p q : Rat) (hq : q ≠ 0) : Rat.divInt (p.num * q.den) (p.den * q.num) = p / q := by
  rw [Rat.divInt_eq_div]
  have h1 := num_is p
  have h2 := num_is q
  have hp : ((p.den : Int) : Rat) ≠ 0 := fun z => den_ne p (Rat.intCast_inj.mp z)
  have hd : ((q.den : Int) : Rat) ≠ 0 := fun z => den_ne q (Rat.intCast_inj.mp z)
  have hn : (q.num : Rat) ≠ 0 := by
    intro z
    rw [z] at h2
    exact hq (h2.trans (by grind))
  rw [Rat.intCast_mul, Rat.intCast_mul]
  generalize hA : (p.num : Rat) = A at *
  generalize hB : ((p.den : Int) : Rat) = B at *
  generalize hC : (q.num : Rat) = C at *
  generalize hD : ((q.den : Int) : Rat) = F at *
  rw [h1, h2]
  grind
theorem qb_add {n : Nat} {p q : Rat} (hp : Qb n p) (hq : Qb n q) : Qb (2 * n + 1) (p + q) := by
  rw [← add_is]
  refine qb_divInt ?_ ?_ ?_
  · exact Int.mul_ne_zero (den_ne p) (den_ne q)
  · exact ((hp.num.mul hq.den).add (hq.num.mul hp.den)).mono (by omega)
  · exact (hp.den.mul hq.den).mono (by omega)
theorem qb_mul {n : Nat} {p q : Rat} (hp : Qb n p) (hq : Qb n q) : Qb (2 * n) (p * q) := by
  rw [← mul_is]
  exact qb_divInt (Int.mul_ne_zero (den_ne p) (den_ne q)) ((hp.num.mul hq.num).mono (by omega)) ((hp.den.mul hq.den).mono (by omega))
end MX

namespace MX
open PySem L2 DL
/-! ### the law's own gcd -/
def eu (a b : Nat) : Nat → Nat × Nat
  | 0 => (a, b)
  | i + 1 => ((eu a b i).2, (eu a b i).1 % (eu a b i).2)
theorem eu_gcd (a b : Nat) : ∀ i, Nat.gcd (eu a b i).1 (eu a b i).2 = Nat.gcd a b
  | 0 => rfl
  | i + 1 => by
    show Nat.gcd (eu a b i).2 ((eu a b i).1 % (eu a b i).2) = _
    rw [Nat.gcd_comm, ← Nat.gcd_rec, Nat.gcd_comm]
    exact eu_gcd a b i
theorem eu_shift (a b : Nat) : ∀ i, eu a b (i + 1) = eu b (a % b) i
  | 0 => rfl
  | i + 1 => by
    show ((eu a b (i + 1)).2, (eu a b (i + 1)).1 % (eu a b (i + 1)).2) = ((eu b (a % b) i).2, _)
    rw [eu_shift a b i]
def sz (n : Nat) : Nat := if n = 0 then 0 else n.log2 + 1
theorem sz_double {r a : Nat} (h : 2 * r ≤ a) (ha : 0 < a) : sz r + 1 ≤ sz a := by
  have e1 : sz a = a.log2 + 1 := by unfold sz; rw [if_neg (by omega)]
  rw [e1]
  by_cases hr : r = 0
  · subst hr; unfold sz; rw [if_pos rfl]; omega
  · have e2 : sz r = r.log2 + 1 := by unfold sz; rw [if_neg hr]
    rw [e2]
    have : (2 * r).log2 = r.log2 + 1 := Nat.log2_two_mul hr
    have h2 : (2 * r).log2 ≤ a.log2 := by
      have h3 : 2 ^ (2 * r).log2 ≤ 2 * r := Nat.log2_self_le (by omega)
      have h4 : a < 2 ^ (a.log2 + 1) := Nat.lt_log2_self
      have h5 : (2 * r).log2 < a.log2 + 1 := (Nat.pow_lt_pow_iff_right (by decide)).mp (Nat.lt_of_le_of_lt (Nat.le_trans h3 h) h4)
      omega
    omega
theorem eu_end : ∀ (n a b : Nat), b ≤ a → sz a + sz b ≤ n → ∃ k, k ≤ n ∧ (eu a b k).2 = 0
  | n, a, 0, _, _ => ⟨0, Nat.zero_le _, rfl⟩
  | 0, a, b + 1, h, hn => by
    have : 0 < sz (b + 1) := by unfold sz; rw [if_neg (by omega)]; omega
    omega
  | n + 1, a, b + 1, h, hn => by
    have hr : a % (b + 1) < b + 1 := Nat.mod_lt _ (by omega)
    have h2 : 2 * (a % (b + 1)) ≤ a := by
      have e := Nat.div_add_mod a (b + 1)
      have q : 1 ≤ a / (b + 1) := (Nat.le_div_iff_mul_le (by omega)).mpr (by omega)
      have : (b + 1) * 1 ≤ (b + 1) * (a / (b + 1)) := Nat.mul_le_mul_left _ q
      omega
    have h3 := sz_double h2 (by omega)
    obtain ⟨k, hk, e⟩ := eu_end n (b + 1) (a % (b + 1)) (by omega) (by omega)
    exact ⟨k + 1, by omega, by rw [eu_shift]; exact e⟩
theorem eu_stop (a b : Nat) : ∃ k, k ≤ sz a + sz b + 1 ∧ (eu a b k).2 = 0 := by
  by_cases h : b ≤ a
  · obtain ⟨k, h1, h2⟩ := eu_end _ a b h (Nat.le_refl _)
    exact ⟨k, by omega, h2⟩
  · have e : a % b = a := Nat.mod_eq_of_lt (by omega)
    obtain ⟨k, h1, h2⟩ := eu_end (sz b + sz a) b a (by omega) (by omega)
    exact ⟨k + 1, by omega, by rw [eu_shift, e]; exact h2⟩
/-- the first turn at which b is 0 -/
theorem eu_first (a b : Nat) : ∃ k, k ≤ sz a + sz b + 1 ∧ (eu a b k).2 = 0 ∧ (∀ i, i < k → (eu a b i).2 ≠ 0) ∧ (eu a b k).1 = Nat.gcd a b := by
  obtain ⟨m, hm, hz⟩ := eu_stop a b
  have key : ∀ n, (∃ k, k ≤ n ∧ (eu a b k).2 = 0) → ∃ k, k ≤ n ∧ (eu a b k).2 = 0 ∧ ∀ i, i < k → (eu a b i).2 ≠ 0 := by
    intro n
    induction n with
    | zero => rintro ⟨k, h1, h2⟩; exact ⟨k, h1, h2, fun i hi => by omega⟩
    | succ n ih =>
      rintro ⟨k, h1, h2⟩
      by_cases h : ∃ k, k ≤ n ∧ (eu a b k).2 = 0
      · obtain ⟨j, a1, a2, a3⟩ := ih h
        exact ⟨j, by omega, a2, a3⟩
      · exact ⟨k, h1, h2, fun i hi z => h ⟨i, by omega, z⟩⟩
  obtain ⟨k, h1, h2, h3⟩ := key m ⟨m, Nat.le_refl _, hz⟩
  refine ⟨k, by omega, h2, h3, ?_⟩
  have := eu_gcd a b k
  rw [h2, Nat.gcd_zero_right] at this
  exact this
theorem bits_sz (x : Int) : Builtin.Int.intBits x = sz x.natAbs := by
  unfold Builtin.Int.intBits sz
  by_cases h : x = 0
  · subst h; rfl
  · rw [if_neg (by simpa using h), if_neg (by omega)]
/-! ### the law's draws -/
def dstep (free : Bool) (s : Int × Int) (lim : Int) : (Int × Int) × Int :=
  if (free && decide (1 < s.1)) = true then ((s.1.fdiv lim, s.2), s.1.fmod lim)
  else ((s.1, (((s.2 * 48271 + 11).fmod 2147483647) * 69621 + 7).fmod 2147483647), (((((s.2 * 48271 + 11).fmod 2147483647) * 69621 + 7).fmod 2147483647).fdiv 13).fmod lim)
def dst (free : Bool) : Int × Int → List Int → Int × Int
  | s, [] => s
  | s, l :: ls => dst free (dstep free s l).1 ls
def drun (free : Bool) : Int × Int → List Int → List Int
  | _, [] => []
  | s, l :: ls => (dstep free s l).2 :: drun free (dstep free s l).1 ls
theorem dst_snoc (free : Bool) : ∀ (ls : List Int) (s : Int × Int) (l : Int), dst free s (ls ++ [l]) = (dstep free (dst free s ls) l).1
  | [], _, _ => rfl
  | _ :: ls, s, l => dst_snoc free ls _ l
theorem drun_snoc (free : Bool) : ∀ (ls : List Int) (s : Int × Int) (l : Int), drun free s (ls ++ [l]) = drun free s ls ++ [(dstep free (dst free s ls) l).2]
  | [], _, _ => rfl
  | a :: ls, s, l => congrArg (_ :: ·) (drun_snoc free ls _ l)
theorem drun_len (free : Bool) : ∀ (ls : List Int) (s : Int × Int), (drun free s ls).length = ls.length
  | [], _ => rfl
  | _ :: ls, _ => congrArg (· + 1) (drun_len free ls _)
theorem fmod_bd {x y : Int} (h : 0 < y) : 0 ≤ x.fmod y ∧ x.fmod y < y := ⟨Int.fmod_nonneg_of_pos x h, Int.fmod_lt_of_pos x h⟩
theorem dstep_bd (free : Bool) (s : Int × Int) {l : Int} (h : 0 < l) : 0 ≤ (dstep free s l).2 ∧ (dstep free s l).2 < l := by
  unfold dstep
  split
  · exact fmod_bd h
  · exact fmod_bd h
theorem drun_bd (free : Bool) : ∀ (ls : List Int) (s : Int × Int) (i : Nat) (x l : Int), (∀ l ∈ ls, 0 < l) → (drun free s ls)[i]? = some x → ls[i]? = some l → 0 ≤ x ∧ x < l
  | [], _, _, _, _, _, _, h => by simp at h
  | a :: ls, s, 0, x, l, hp, hx, hl => by
    have e1 : (dstep free s a).2 = x := by simpa [drun] using hx
    have e2 : a = l := by simpa using hl
    subst e1; subst e2
    exact dstep_bd free s (hp _ (List.mem_cons_self))
  | a :: ls, s, i + 1, x, l, hp, hx, hl => drun_bd free ls _ i x l (fun z hz => hp z (List.mem_cons_of_mem _ hz)) (by simpa [drun] using hx) (by simpa using hl)
theorem dst_bd (free : Bool) : ∀ (ls : List Int) (s : Int × Int), 0 ≤ s.2 → s.2 < 2147483647 → 0 ≤ (dst free s ls).2 ∧ (dst free s ls).2 < 2147483647
  | [], _, h1, h2 => ⟨h1, h2⟩
  | l :: ls, s, h1, h2 => by
    refine dst_bd free ls _ ?_ ?_
    · unfold dstep
      split
      · exact h1
      · exact (fmod_bd (by decide)).1
    · unfold dstep
      split
      · exact h2
      · exact (fmod_bd (by decide)).2
def absI (x : Int) : Int := if x < 0 then -x else x
def freeF (cell : Int) : Bool := decide (cell < 0) || decide (10 ^ 18 ≤ cell)
def drawsF (cell : Int) (ls : List Int) : List Int := drun (freeF cell) (absI cell, (absI cell).fmod 2147483647) ls
theorem drawsF_len (cell : Int) (ls : List Int) : (drawsF cell ls).length = ls.length := drun_len _ _ _
/-- the i-th draw -/
theorem drawsF_at (cell : Int) {ls : List Int} {i : Nat} {l : Int} (hp : ∀ l ∈ ls, 0 < l) (h : ls[i]? = some l) : ∃ x, (drawsF cell ls)[i]? = some x ∧ 0 ≤ x ∧ x < l := by
  have hi : i < (drawsF cell ls).length := by rw [drawsF_len]; exact (List.getElem?_eq_some_iff.mp h).1
  exact ⟨_, List.getElem?_eq_getElem hi, drun_bd _ _ _ _ _ _ hp (List.getElem?_eq_getElem hi) h⟩
def cellF (ns : List Int) (k : Int) : Int := if k < (ns.length : Int) then ns.getD k.toNat 0 else 0
theorem atI_int {α : Type} {xs : List α} {k : Int} {x : α} (h0 : 0 ≤ k) (h : xs[k.toNat]? = some x) : atI xs k = some x := by
  have hk := (List.getElem?_eq_some_iff.mp h).1
  unfold atI ixN
  rw [if_pos h0, if_pos (by omega)]
  exact h
theorem cell_at {ns : List Int} {k : Int} (h0 : 0 ≤ k) (h : k < (ns.length : Int)) : atI ns k = some (cellF ns k) := by
  refine atI_int h0 ?_
  unfold cellF
  rw [if_pos h, List.getD_eq_getElem?_getD, List.getElem?_eq_getElem (by omega)]
  rfl
theorem rgc_up {j c : Int} (h0 : 0 ≤ j) (h1 : j ≤ 1000000) (h2 : 0 < c) (h3 : c ≤ 1000000) : RgC 0 j c (Builtin.Range.rangeSize 0 j c).toNat := by
  have e : Builtin.Range.rangeSize 0 j c = if 0 < j then (j - 1) / c + 1 else 0 := by
    unfold Builtin.Range.rangeSize
    rw [if_pos h2]
    by_cases h : 0 < j
    · rw [if_pos h, if_pos h, Int.sub_zero]
    · rw [if_neg h, if_neg h]
  have hd : 0 ≤ (j - 1) / c ∨ j ≤ 0 := by
    by_cases h : 0 < j
    · exact .inl (Int.ediv_nonneg (by omega) (by omega))
    · exact .inr (by omega)
  have hd2 : 0 < j → (j - 1) / c ≤ j - 1 := fun h => Int.ediv_le_self _ (by omega)
  have hs : 0 ≤ Builtin.Range.rangeSize 0 j c ∧ Builtin.Range.rangeSize 0 j c ≤ 1000001 := by
    rw [e]; split <;> omega
  refine ⟨by omega, by omega, ?_, (Int.toNat_of_nonneg hs.1).symm⟩
  unfold Builtin.Range.small Builtin.Range.rangeFitsLong
  generalize Builtin.Range.rangeSize 0 j c = z at hs ⊢
  rw [if_pos h2]
  simp only [Bool.and_eq_true, Bool.or_eq_true, decide_eq_true_eq]
  exact ⟨⟨⟨⟨by omega, by omega⟩, by omega⟩, by omega⟩, .inr (by omega)⟩
theorem kit_tt : kitB "tuple" "tuple" = some true := by decide +kernel
theorem kit_ib : kitB "int" "bool" = some false := by decide +kernel
theorem kit_bb : kitB "bool" "bool" = some true := by decide +kernel
theorem kit_ll : kitB "list" "list" = some true := by decide +kernel
theorem bit1 (x : Int) : Builtin.bitAnd x 1 = x % 2 := PySem.W.kbt_mask x 1
/-- the sign that a law draws -/
def sgnF (x : Int) : Int := if x % 2 = 0 then 1 else -1
theorem sgn_at (x : Int) : atI [PyData.int 1, PyData.int (-1)] (Builtin.bitAnd x 1) = some (.int (sgnF x)) := by
  rw [bit1]
  unfold sgnF
  have h1 : x % 2 = 0 ∨ x % 2 = 1 := by omega
  rcases h1 with h | h
  · rw [h]; rfl
  · rw [h]; rfl
theorem atI_map {ns : List Int} {i : Nat} {x : Int} (h : ns[i]? = some x) : atI (ns.map PyData.int) (i : Int) = some (.int x) := by
  refine atI_int (by omega) ?_
  rw [Int.toNat_natCast, List.getElem?_map, h]
  rfl
theorem bt_range {n : Nat} {x : Int} (h0 : -(2 ^ n) < x) (h1 : x < 2 ^ n) : Bt n x := by
  have e : ((2 ^ n : Nat) : Int) = 2 ^ n := by norm_cast
  show x.natAbs < 2 ^ n
  omega
end MX

namespace KP
open PySem L2 DL MX
def topS (i : Nat) : Stmt := PySem.Challenge.pw_lastcoffer_k01_fractions_computed.main.body.getD i (.Pass ⟨0, 0, 0, 0⟩)
abbrev s_fraction : Stmt := topS 7
abbrev s_plus : Stmt := topS 8
abbrev s_minus : Stmt := topS 9
abbrev s_times : Stmt := topS 10
abbrev s_over : Stmt := topS 11
abbrev s_is_less : Stmt := topS 12
abbrev s__law_cell : Stmt := topS 14
abbrev s__law_draws : Stmt := topS 15
abbrev s__law_gcd : Stmt := topS 16
abbrev s__law_fraction : Stmt := topS 17
abbrev s__law_plus : Stmt := topS 18
abbrev s__law_times : Stmt := topS 19
abbrev s__law_less : Stmt := topS 20
abbrev s__law_total : Stmt := topS 21
abbrev s__law_no_low : Stmt := topS 22
abbrev s__law_no_over : Stmt := topS 23
abbrev s__law_is : Stmt := topS 24
abbrev s_law : Stmt := topS 25
section
variable {P : Program} {w : World} {K : PySem.W.Frag} {mg : Str → Option Value} {base : Heap}
/-! ### fraction -/
theorem sc_fraction : FnScope ["top", "low", "shared"] ["top", "low"] (defScope s_fraction) := ⟨rfl, rfl, rfl, by decide +kernel, rfl, by decide +kernel, by decide +kernel⟩
def sp_fraction (K : PySem.W.Frag) (C : Addr) : Sp := SpX K (fun a : Int × Int => [.dat (.int a.1), .dat (.int a.2)]) (fun a => Bt 9000 a.2) (.ref C) (fun a => if a.2 = 0 then none else some (encQ (Rat.divInt a.1 a.2)))
theorem ok_fraction {f : Addr} {fd : FuncData} {C : Addr} (F : Fun K "fraction" "fraction" s_fraction f fd) (m_gcd : mg "gcd" = some (.builtin "math.gcd")) (eC : ErrC K mg "OutOfRange" C) :
    FnOk P w K mg base (L2.CX P w) 1 f fd ["top", "low"] (sp_fraction K C) := by
  have sc := sc_fraction
  refine fn_X F sc (fun _ => rfl) fun cdv A outer s H E hr => ?_
  refine ⟨_, (pss_cons (ps_if (pt_cmpR op_eq (pv 1) pe_int (nomark _)) (pss_one (ps_err rfl (takes_of rfl rfl rfl rfl) eC rfl)) pss_nil)
      (pss_cons (ps_set (i := 2) sc.nd rfl (by first | exact Or.inl rfl | exact Or.inr rfl) (pe_callBfun cr_gcd (by rfl) m_gcd (pa_cons (pv 0) (pa_cons (pv 1) pa_nil))))
      (pss_cons (ps_if (pt_cmpR op_lt (pv 1) pe_int (nomark _)) (pss_one (ps_set (i := 2) sc.nd rfl (by first | exact Or.inl rfl | exact Or.inr rfl) (pe_un un_neg (pv 2)))) pss_nil)
      (pss_one (ps_ret (pe_tup (pa_cons (pe_op op_fdivZ (pv 0) (pv 2)) (pa_cons (pe_op op_fdivZ (pv 1) (pv 2)) pa_nil)))))))), fun a ha => ?_⟩
  obtain ⟨t, l⟩ := a
  have hl9 : Bt 9000 l := ha
  by_cases h0 : l = 0
  · refine ⟨fun d hd => ?_, fun _ => ?_⟩
    · rw [if_pos h0] at hd; cases hd
    · refine run_seqE (run_ifT ((et_test (ed_eqI (ed_var 1 rfl) (ed_int 0))).is (decide_eq_true h0)) run_err)
  · refine ⟨fun d hd => .inl ?_, fun hn => ?_⟩
    · rw [if_neg h0] at hd
      cases hd
      refine run_seq (run_ifF ((et_test (ed_eqI (ed_var 1 rfl) (ed_int 0))).is (decide_eq_false h0)) run_next) ?_
      refine run_seq (run_set (ed_gcd (ed_var 0 rfl) (ed_var 1 rfl))) ?_
      have key : Run K E (tIfS (tTest (tOp (rI0 fun i j => .bl (decide (i < j))) (tVar 1) (tC (.int 0)))) (tAsg (tUn (rU fun i => .int (-i)) (tVar 2)) (gName 2)) tNext) [.dat (.int t), .dat (.int l), .dat (.int ((Nat.gcd t.natAbs l.natAbs : Nat) : Int))] (.nx [.dat (.int t), .dat (.int l), .dat (.int (sgcd t l))]) := by
        by_cases hn : l < 0
        · have e : sgcd t l = -((Nat.gcd t.natAbs l.natAbs : Nat) : Int) := by unfold sgcd; rw [if_pos hn]
          rw [e]
          exact run_ifT ((et_test (ed_B0 (ed_var 1 rfl) (ed_int 0))).is (decide_eq_true hn)) (run_set (ed_neg (ed_var 2 rfl)))
        · have e : sgcd t l = ((Nat.gcd t.natAbs l.natAbs : Nat) : Int) := by unfold sgcd; rw [if_neg hn]
          rw [e]
          exact run_ifF ((et_test (ed_B0 (ed_var 1 rfl) (ed_int 0))).is (decide_eq_false hn)) run_next
      refine run_seq key ?_
      obtain ⟨e1, e2⟩ := divInt_parts (t := t) h0
      show Run K E _ _ (.rt (.tuple [.int (Rat.divInt t l).num, .int ((Rat.divInt t l).den : Int)]))
      rw [e1, e2]
      exact run_ret (ed_tup (ds := [.int _, .int _]) (ea_d (ed_I (ed_var 0 rfl) (ed_var 2 rfl) (sgcd_div h0 hl9)) (ea_d (ed_I (ed_var 1 rfl) (ed_var 2 rfl) (sgcd_div h0 hl9)) ea_nil)))
    · rw [if_neg h0] at hn; cases hn

/-! ### plus, minus, times, over, is_less -/
abbrev QQ := Rat × Rat
abbrev fsQQ : QQ → List SD := fun a => [.dat (encQ a.1), .dat (encQ a.2)]
abbrev preQQ : QQ → Prop := fun a => Qb 4000 a.1 ∧ Qb 4000 a.2
theorem pQ {n m k : Nat} {x y : Int} (h : Bt n x) (h' : Bt m y) (hk : n + m ≤ 134217728 := by decide) : CMulX x y := h.mulx h' hk
theorem sc_plus : FnScope ["first", "second"] ["first", "second"] (defScope s_plus) := ⟨rfl, rfl, rfl, by decide +kernel, rfl, by decide +kernel, by decide +kernel⟩
def sp_plus (K : PySem.W.Frag) : Sp := SpD K fsQQ preQQ (fun a => encQ (a.1 + a.2))
theorem ok_plus {f : Addr} {fd : FuncData} {C : Addr} (F : Fun K "plus" "plus" s_plus f fd) (C_fraction : Callee P w K mg base (L2.CX P w) 1 "fraction" ["top", "low"] (sp_fraction K C)) :
    FnOk P w K mg base CX0 2 f fd ["first", "second"] (sp_plus K) := by
  have sc := sc_plus
  refine fn_D F sc (fun _ => rfl) fun cdv A outer s H E hr => ?_
  refine ⟨_, (pss_one (ps_ret (pe_c C_fraction (hr.mono (by decide)) passL (pa_cons (pe_op op_add (pe_op op_mulX (pe_ix ix_tup (pv 0) pe_int (fun _ _ => rfl)) (pe_ix ix_tup (pv 1) pe_int (fun _ _ => rfl))) (pe_op op_mulX (pe_ix ix_tup (pv 1) pe_int (fun _ _ => rfl)) (pe_ix ix_tup (pv 0) pe_int (fun _ _ => rfl)))) (pa_cons (pe_op op_mulX (pe_ix ix_tup (pv 0) pe_int (fun _ _ => rfl)) (pe_ix ix_tup (pv 1) pe_int (fun _ _ => rfl))) pa_nil))))), fun a ha => ?_⟩
  obtain ⟨p, q⟩ := a
  obtain ⟨hp, hq⟩ := ha
  have hp : Qb 4000 p := hp
  have hq : Qb 4000 q := hq
  refine run_ret (ed_callX (x := (p.num * q.den + q.num * p.den, (p.den : Int) * q.den)) (ea_d (ed_I0 (ed_I (ed_ixT (ed_var 0 rfl) (ed_int 0) rfl) (ed_ixT (ed_var 1 rfl) (ed_int 1) rfl) (hp.num.mulx hq.den (by decide))) (ed_I (ed_ixT (ed_var 1 rfl) (ed_int 0) rfl) (ed_ixT (ed_var 0 rfl) (ed_int 1) rfl) (hq.num.mulx hp.den (by decide)))) (ea_d (ed_I (ed_ixT (ed_var 0 rfl) (ed_int 1) rfl) (ed_ixT (ed_var 1 rfl) (ed_int 1) rfl) (hp.den.mulx hq.den (by decide))) ea_nil)) rfl ((hp.den.mul hq.den).mono (by decide)) ?_)
  rw [← add_is]
  exact if_neg (Int.mul_ne_zero (den_ne p) (den_ne q))
theorem sc_minus : FnScope ["first", "second"] ["first", "second"] (defScope s_minus) := ⟨rfl, rfl, rfl, by decide +kernel, rfl, by decide +kernel, by decide +kernel⟩
def sp_minus (K : PySem.W.Frag) : Sp := SpD K fsQQ preQQ (fun a => encQ (a.1 - a.2))
theorem qb_neg {n : Nat} {q : Rat} (h : Qb n q) : Qb n (-q) := ⟨h.num.neg, h.den⟩
theorem ok_minus {f : Addr} {fd : FuncData} (F : Fun K "minus" "minus" s_minus f fd) (C_plus : Callee P w K mg base CX0 2 "plus" ["first", "second"] (sp_plus K)) :
    FnOk P w K mg base CX0 3 f fd ["first", "second"] (sp_minus K) := by
  have sc := sc_minus
  refine fn_D F sc (fun _ => rfl) fun cdv A outer s H E hr => ?_
  refine ⟨_, (pss_one (ps_ret (pe_c C_plus (hr.mono (by decide)) pass0 (pa_cons (pv 0) (pa_cons (pe_tup (pa_cons (pe_un un_neg (pe_ix ix_tup (pv 1) pe_int (fun _ _ => rfl))) (pa_cons (pe_ix ix_tup (pv 1) pe_int (fun _ _ => rfl)) pa_nil))) pa_nil))))), fun a ha => ?_⟩
  obtain ⟨p, q⟩ := a
  obtain ⟨hp, hq⟩ := ha
  rw [show p - q = p + (-q) by grind]
  refine run_ret (ed_call (x := (p, -q)) (ea_d (ed_var 0 rfl) (ea_d (ed_tup (ds := [.int (-q.num), .int (q.den : Int)]) (ea_d (ed_neg (ed_ixT (ed_var 1 rfl) (ed_int 0) rfl)) (ea_d (ed_ixT (ed_var 1 rfl) (ed_int 1) rfl) ea_nil))) ea_nil)) rfl ⟨hp, qb_neg hq⟩)
theorem sc_times : FnScope ["first", "second"] ["first", "second"] (defScope s_times) := ⟨rfl, rfl, rfl, by decide +kernel, rfl, by decide +kernel, by decide +kernel⟩
def sp_times (K : PySem.W.Frag) : Sp := SpD K fsQQ preQQ (fun a => encQ (a.1 * a.2))
theorem ok_times {f : Addr} {fd : FuncData} {C : Addr} (F : Fun K "times" "times" s_times f fd) (C_fraction : Callee P w K mg base (L2.CX P w) 1 "fraction" ["top", "low"] (sp_fraction K C)) :
    FnOk P w K mg base CX0 2 f fd ["first", "second"] (sp_times K) := by
  have sc := sc_times
  refine fn_D F sc (fun _ => rfl) fun cdv A outer s H E hr => ?_
  refine ⟨_, (pss_one (ps_ret (pe_c C_fraction (hr.mono (by decide)) passL (pa_cons (pe_op op_mulX (pe_ix ix_tup (pv 0) pe_int (fun _ _ => rfl)) (pe_ix ix_tup (pv 1) pe_int (fun _ _ => rfl))) (pa_cons (pe_op op_mulX (pe_ix ix_tup (pv 0) pe_int (fun _ _ => rfl)) (pe_ix ix_tup (pv 1) pe_int (fun _ _ => rfl))) pa_nil))))), fun a ha => ?_⟩
  obtain ⟨p, q⟩ := a
  obtain ⟨hp, hq⟩ := ha
  have hp : Qb 4000 p := hp
  have hq : Qb 4000 q := hq
  refine run_ret (ed_callX (x := (p.num * q.num, (p.den : Int) * q.den)) (ea_d (ed_I (ed_ixT (ed_var 0 rfl) (ed_int 0) rfl) (ed_ixT (ed_var 1 rfl) (ed_int 0) rfl) (hp.num.mulx hq.num (by decide))) (ea_d (ed_I (ed_ixT (ed_var 0 rfl) (ed_int 1) rfl) (ed_ixT (ed_var 1 rfl) (ed_int 1) rfl) (hp.den.mulx hq.den (by decide))) ea_nil)) rfl ((hp.den.mul hq.den).mono (by decide)) ?_)
  rw [← mul_is]
  exact if_neg (Int.mul_ne_zero (den_ne p) (den_ne q))
theorem sc_is_less : FnScope ["first", "second"] ["first", "second"] (defScope s_is_less) := ⟨rfl, rfl, rfl, by decide +kernel, rfl, by decide +kernel, by decide +kernel⟩
def sp_is_less (K : PySem.W.Frag) : Sp := SpD K fsQQ preQQ (fun a => .bool (decide (a.1 < a.2)))
theorem ok_is_less {f : Addr} {fd : FuncData} (F : Fun K "is_less" "is_less" s_is_less f fd) : FnOk P w K mg base CX0 1 f fd ["first", "second"] (sp_is_less K) := by
  have sc := sc_is_less
  refine fn_D F sc (fun _ => rfl) fun cdv A outer s H E hr => ?_
  refine ⟨_, (pss_one (ps_ret (pe_cmpR op_lt (pe_op op_mulX (pe_ix ix_tup (pv 0) pe_int (fun _ _ => rfl)) (pe_ix ix_tup (pv 1) pe_int (fun _ _ => rfl))) (pe_op op_mulX (pe_ix ix_tup (pv 1) pe_int (fun _ _ => rfl)) (pe_ix ix_tup (pv 0) pe_int (fun _ _ => rfl))) (nomark _)))), fun a ha => ?_⟩
  obtain ⟨p, q⟩ := a
  obtain ⟨hp, hq⟩ := ha
  have hp : Qb 4000 p := hp
  have hq : Qb 4000 q := hq
  rw [← lt_is]
  exact run_ret (ed_B0 (ed_I (ed_ixT (ed_var 0 rfl) (ed_int 0) rfl) (ed_ixT (ed_var 1 rfl) (ed_int 1) rfl) (hp.num.mulx hq.den (by decide))) (ed_I (ed_ixT (ed_var 1 rfl) (ed_int 0) rfl) (ed_ixT (ed_var 0 rfl) (ed_int 1) rfl) (hq.num.mulx hp.den (by decide))))

/-! ### the law's helpers -/
theorem sc__law_cell : FnScope ["script", "k"] ["script", "k"] (defScope s__law_cell) := ⟨rfl, rfl, rfl, by decide +kernel, rfl, by decide +kernel, by decide +kernel⟩
def sp__law_cell (K : PySem.W.Frag) : Sp := SpD K (fun a : List Int × Int => [.scr a.1, .dat (.int a.2)]) (fun a => 0 ≤ a.2) (fun a => .int (cellF a.1 a.2))
theorem ok__law_cell {f : Addr} {fd : FuncData} (F : Fun K "_law_cell" "_law_cell" s__law_cell f fd) (m_len : mg "len" = none) (m_int : mg "int" = none) : FnOk P w K mg base CX0 1 f fd ["script", "k"] (sp__law_cell K) := by
  have sc := sc__law_cell
  refine fn_D F sc (fun _ => rfl) fun cdv A outer s H E hr => ?_
  refine ⟨_, (pss_cons (ps_if (pt_cmpR op_lt (pv 1) (pe_callB call_len_seq (by rfl) m_len PySem.boot_len (pa_cons (pv 0) pa_nil)) (nomark _)) (pss_one (ps_ret (pe_callTy call_int1 (by rfl) m_int (by decide +kernel) (pa_cons (pe_ix ix_list (pv 0) (pv 1) (fun _ _ => rfl)) pa_nil)))) pss_nil)
      (pss_one (ps_ret pe_int))), fun a ha => ?_⟩
  obtain ⟨ns, k⟩ := a
  have h0 : 0 ≤ k := ha
  by_cases hk : k < (ns.length : Int)
  · exact run_seqR (run_ifT ((et_test (ed_B0 (ed_var 1 rfl) (ed_lenR 0 rfl))).is (decide_eq_true hk)) (run_ret (ed_int1 (ed_ixR 0 rfl (ed_var 1 rfl) (cell_at h0 hk)))))
  · refine run_seq (run_ifF ((et_test (ed_B0 (ed_var 1 rfl) (ed_lenR 0 rfl))).is (decide_eq_false hk)) run_next) ?_
    show Run K E _ _ (.rt (.int (cellF ns k)))
    rw [show cellF ns k = 0 by unfold cellF; rw [if_neg hk]]
    exact run_ret (ed_int 0)
theorem sc__law_draws : FnScope ["cell", "limits", "found", "rest", "state", "free", "limit"] ["cell", "limits"] (defScope s__law_draws) := ⟨rfl, rfl, rfl, by decide +kernel, rfl, by decide +kernel, by decide +kernel⟩
structure DrawOk (ls : List Int) : Prop where
  pos : ∀ l ∈ ls, 0 < l
  few : ∀ l ∈ ls, Bt 9000 l
  len : ls.length ≤ 100000
def sp__law_draws (K : PySem.W.Frag) : Sp := SpN K (fun a : Int × List Int => [.dat (.int a.1), .dat (.list (a.2.map PyData.int))]) (fun a => DrawOk a.2) (fun a => (drawsF a.1 a.2).map PyData.int)
theorem ok__law_draws {f : Addr} {fd : FuncData} (F : Fun K "_law_draws" "_law_draws" s__law_draws f fd) (m_abs : mg "abs" = none) (m_int : mg "int" = none) : FnOk P w K mg base CX0 1 f fd ["cell", "limits"] (sp__law_draws K) := by
  have sc := sc__law_draws
  refine fn_N F sc (fun _ => rfl) fun cdv A outer s H E hr => ?_
  refine ⟨_, (pss_cons (ps_set (i := 2) sc.nd rfl (by first | exact Or.inl rfl | exact Or.inr rfl) (pe_lst pa_nil))
      (pss_cons (ps_set (i := 3) sc.nd rfl (by first | exact Or.inl rfl | exact Or.inr rfl) (pe_callB call_abs (by rfl) m_abs (by decide +kernel) (pa_cons (pe_callTy call_int1 (by rfl) m_int (by decide +kernel) (pa_cons (pv 0) pa_nil)) pa_nil)))
      (pss_cons (ps_set (i := 4) sc.nd rfl (by first | exact Or.inl rfl | exact Or.inr rfl) (pe_op op_modN (pe_callTy call_int1 (by rfl) m_int (by decide +kernel) (pa_cons (pv 3) pa_nil)) pe_int))
      (pss_cons (ps_set (i := 5) sc.nd rfl (by first | exact Or.inl rfl | exact Or.inr rfl) (pe_or (pe_cmpR op_lt (pv 0) pe_int (nomark _)) (pe_one (pe_cmpR op_ge (pv 0) (pe_op op_pow pe_int pe_int) (nomark _)))))
      (pss_cons (ps_for PassesOwn.never rfl (pi_list (pv 1)) (pg_name (i := 6) sc.nd rfl (by first | exact Or.inl rfl | exact Or.inr rfl)) (pss_one (ps_if (PW.pt (pw_and (pt_val (pv 5)) (pw_and1 (pt_cmpR op_gt (pv 3) pe_int (nomark _))))) (pss_cons (ps_expr (pe_bm PySem.F.plainAttrs_list PySem.F.slot_list_append PySem.F.type_list_append mt_append (pv 2) (pa_cons (pe_op op_modN (pe_callTy call_int1 (by rfl) m_int (by decide +kernel) (pa_cons (pv 3) pa_nil)) (pv 6)) pa_nil)))
      (pss_one (ps_set (i := 3) sc.nd rfl (by first | exact Or.inl rfl | exact Or.inr rfl) (pe_op op_fdivZ (pv 3) (pv 6))))) (pss_cons (ps_set (i := 4) sc.nd rfl (by first | exact Or.inl rfl | exact Or.inr rfl) (pe_op op_modN (pe_callTy call_int1 (by rfl) m_int (by decide +kernel) (pa_cons (pe_op op_add (pe_op op_mulX (pv 4) pe_int) pe_int) pa_nil)) pe_int))
      (pss_cons (ps_set (i := 4) sc.nd rfl (by first | exact Or.inl rfl | exact Or.inr rfl) (pe_op op_modN (pe_callTy call_int1 (by rfl) m_int (by decide +kernel) (pa_cons (pe_op op_add (pe_op op_mulX (pv 4) pe_int) pe_int) pa_nil)) pe_int))
      (pss_one (ps_expr (pe_bm PySem.F.plainAttrs_list PySem.F.slot_list_append PySem.F.type_list_append mt_append (pv 2) (pa_cons (pe_op op_modN (pe_callTy call_int1 (by rfl) m_int (by decide +kernel) (pa_cons (pe_op op_fdivZ (pv 4) pe_int) pa_nil)) (pv 6)) pa_nil)))))))))
      (pss_one (ps_ret (pv 2)))))))), fun a ha => ?_⟩
  obtain ⟨cell, ls⟩ := a
  have hpos : ∀ l ∈ ls, 0 < l := ha.pos
  have hfew : ∀ l ∈ ls, Bt 9000 l := ha.few
  have hlen : ls.length ≤ 100000 := ha.len
  refine run_seq (run_setN (en_lst (ds := []) ea_nil)) ?_
  refine run_seq (run_set (ed_abs (ed_int1 (ed_var 0 rfl)))) ?_
  refine run_seq (run_set (ed_I (ed_int1 (ed_var 3 rfl)) (ed_int 2147483647) (by decide))) ?_
  refine run_seq (run_set (ed_orV (ed_B0 (ed_var 0 rfl) (ed_int 0)) (fun _ => (ed_B0 (ed_var 0 rfl) (ed_I (ed_int 10) (ed_int 18) ⟨by decide, by decide, by decide⟩))))) ?_
  have s0 : 0 ≤ (absI cell).fmod 2147483647 ∧ (absI cell).fmod 2147483647 < 2147483647 := fmod_bd (by decide)
  refine run_seq (run_for (ts := [6]) (fun i => [.dat (.int cell), .dat (.list (ls.map PyData.int)), .ml ((drun (freeF cell) (absI cell, (absI cell).fmod 2147483647) (ls.take i)).map PyData.int), .dat (.int (dst (freeF cell) (absI cell, (absI cell).fmod 2147483647) (ls.take i)).1), .dat (.int (dst (freeF cell) (absI cell, (absI cell).fmod 2147483647) (ls.take i)).2), .dat (.bool (freeF cell)), .un])
    (ei_list (ed_var 1 rfl)) (.eq (.eq (.eq (.eq (.eq (.eq (.un .nil))))))) (fun i d hi hd => ⟨_, (eg_name (by decide)), ?_⟩)) ?_
  · rw [List.length_map] at hi
    have hl := List.getElem?_eq_getElem hi
    obtain rfl : d = .int ls[i] := by
      rw [List.getElem?_map, hl] at hd
      exact (Option.some.inj hd).symm
    have hp : 0 < ls[i] := hpos _ (List.getElem_mem hi)
    have hf : Bt 9000 ls[i] := hfew _ (List.getElem_mem hi)
    have hdiv : ∀ x : Int, CDivZ x ls[i] := fun x => ⟨by omega, PySem.Flt.log2_lt_of (by decide) hf⟩
    have et : ls.take (i + 1) = ls.take i ++ [ls[i]] := by rw [List.take_add_one, hl]; rfl
    have hst := dst_bd (freeF cell) (ls.take i) (absI cell, (absI cell).fmod 2147483647) s0.1 s0.2
    rw [et, drun_snoc, dst_snoc, List.map_append]
    generalize hS : dst (freeF cell) (absI cell, (absI cell).fmod 2147483647) (ls.take i) = S at *
    generalize hR : (drun (freeF cell) (absI cell, (absI cell).fmod 2147483647) (ls.take i)) = R at *
    have hRl : R.length ≤ 100000 := by rw [← hR, drun_len, List.length_take]; omega
    obtain ⟨rest, state⟩ := S
    have b4 : Bt 31 state := by show state.natAbs < 2147483648; omega
    by_cases hc : (freeF cell && decide (1 < rest)) = true
    · have e : dstep (freeF cell) (rest, state) ls[i] = ((rest.fdiv ls[i], state), rest.fmod ls[i]) := if_pos hc
      rw [e]
      refine .n (run_ifT ((et_and (et_B (ed_var 5 rfl)) (fun _ => (et_test (ed_B0 (ed_var 3 rfl) (ed_int 1))))).is hc) (run_seq (run_append (i := 2) rfl (ed_I (ed_int1 (ed_var 3 rfl)) (ed_var 6 rfl) (by omega)) (by rw [List.length_map]; omega)) (run_set (ed_I (ed_var 3 rfl) (ed_var 6 rfl) (hdiv _))))) (.eq (.eq (.eq (.eq (.eq (.eq (.un .nil)))))))
    · have e : dstep (freeF cell) (rest, state) ls[i] = _ := if_neg hc
      rw [e]
      have s1 := fmod_bd (x := state * 48271 + 11) (y := 2147483647) (by decide)
      have b1 : Bt 31 ((state * 48271 + 11).fmod 2147483647) := by show Int.natAbs _ < 2147483648; omega
      refine .n (run_ifF ((et_and (et_B (ed_var 5 rfl)) (fun _ => (et_test (ed_B0 (ed_var 3 rfl) (ed_int 1))))).is (by simpa using hc)) (run_seq (run_set (ed_I (ed_int1 (ed_I0 (ed_I (ed_var 4 rfl) (ed_int 48271) (b4.mulx (m := 20) (by decide) (by decide))) (ed_int 11))) (ed_int 2147483647) (by decide)))
        (run_seq (run_set (ed_I (ed_int1 (ed_I0 (ed_I (ed_var 4 rfl) (ed_int 69621) (b1.mulx (m := 20) (by decide) (by decide))) (ed_int 7))) (ed_int 2147483647) (by decide))) (run_append (i := 2) rfl (ed_I (ed_int1 (ed_I (ed_var 4 rfl) (ed_int 13) ⟨by decide, by decide⟩)) (ed_var 6 rfl) (by omega)) (by rw [List.length_map]; omega))))) (.eq (.eq (.eq (.eq (.eq (.eq (.un .nil)))))))
  · rw [List.length_map, List.take_length]
    exact run_retM 2 rfl
theorem sc__law_gcd : FnScope ["a", "b", "k", "rest"] ["a", "b"] (defScope s__law_gcd) := ⟨rfl, rfl, rfl, by decide +kernel, rfl, by decide +kernel, by decide +kernel⟩
def sp__law_gcd (K : PySem.W.Frag) : Sp := SpD K (fun a : Int × Int => [.dat (.int a.1), .dat (.int a.2)]) (fun a => Bt 100000000 a.1 ∧ Bt 100000000 a.2) (fun a => .int ((Nat.gcd a.1.natAbs a.2.natAbs : Nat) : Int))
theorem absI_eq (x : Int) : (if x < 0 then -x else x) = (x.natAbs : Int) := by split <;> omega
theorem ok__law_gcd {f : Addr} {fd : FuncData} (F : Fun K "_law_gcd" "_law_gcd" s__law_gcd f fd) (m_abs : mg "abs" = none) (m_int : mg "int" = none) (m_range : mg "range" = none) : FnOk P w K mg base CX0 1 f fd ["a", "b"] (sp__law_gcd K) := by
  have sc := sc__law_gcd
  refine fn_D F sc (fun _ => rfl) fun cdv A outer s H E hr => ?_
  refine ⟨_, (pss_cons (ps_set (i := 0) sc.nd rfl (by first | exact Or.inl rfl | exact Or.inr rfl) (pe_callB call_abs (by rfl) m_abs (by decide +kernel) (pa_cons (pv 0) pa_nil)))
      (pss_cons (ps_set (i := 1) sc.nd rfl (by first | exact Or.inl rfl | exact Or.inr rfl) (pe_callB call_abs (by rfl) m_abs (by decide +kernel) (pa_cons (pv 1) pa_nil)))
      (pss_cons (ps_for PassesOwn.never rfl (pi_range1 (by rfl) m_range (pa_cons (pe_op op_add (pe_op op_add (pe_bits (pv 0)) (pe_bits (pv 1))) pe_int) pa_nil)) (pg_name (i := 2) sc.nd rfl (by first | exact Or.inl rfl | exact Or.inr rfl)) (pss_cons (ps_if (pt_cmpR op_eq (pv 1) pe_int (nomark _)) (pss_one (ps_ret (pv 0))) pss_nil)
      (pss_cons (ps_set (i := 3) sc.nd rfl (by first | exact Or.inl rfl | exact Or.inr rfl) (pe_op op_modN (pe_callTy call_int1 (by rfl) m_int (by decide +kernel) (pa_cons (pv 0) pa_nil)) (pv 1)))
      (pss_cons (ps_set (i := 0) sc.nd rfl (by first | exact Or.inl rfl | exact Or.inr rfl) (pv 1))
      (pss_one (ps_set (i := 1) sc.nd rfl (by first | exact Or.inl rfl | exact Or.inr rfl) (pv 3)))))))
      (pss_one (ps_ret (pv 0)))))), fun a ha => ?_⟩
  obtain ⟨x, y⟩ := a
  obtain ⟨hx, hy⟩ := ha
  have hx : Bt 100000000 x := hx
  have hy : Bt 100000000 y := hy
  have sx : sz x.natAbs ≤ 100000000 := by rw [← bits_sz]; exact PyProof.Rows.intBits_le hx
  have sy : sz y.natAbs ≤ 100000000 := by rw [← bits_sz]; exact PyProof.Rows.intBits_le hy
  refine run_seq (run_set ((ed_abs (ed_var 0 rfl)).is (congrArg PyData.int (absI_eq x)))) ?_
  refine run_seq (run_set ((ed_abs (ed_var 1 rfl)).is (congrArg PyData.int (absI_eq y)))) ?_
  obtain ⟨k, h1, h2, h3, h4⟩ := eu_first x.natAbs y.natAbs
  show Run K E _ _ (.rt (.int ((Nat.gcd x.natAbs y.natAbs : Nat) : Int)))
  rw [← h4]
  have bits : (Builtin.Int.intBits ((x.natAbs : Nat) : Int) : Int) + (Builtin.Int.intBits ((y.natAbs : Nat) : Int) : Int) + 4 = ((sz x.natAbs + sz y.natAbs + 4 : Nat) : Int) := by
    rw [bits_sz, bits_sz, Int.natAbs_natCast, Int.natAbs_natCast]; omega
  refine run_seqR (run_forR (ts := [2]) (ds := rngD 0 1 (sz x.natAbs + sz y.natAbs + 4)) (fun i => [.dat (.int ((eu x.natAbs y.natAbs i).1 : Int)), .dat (.int ((eu x.natAbs y.natAbs i).2 : Int)), .un, .un]) k ?_ (.eq (.eq (.un (.un .nil)))) (fun i d hi hd => ⟨_, (eg_name (by decide)), ?_⟩) (rngD_at (by omega)) (eg_name (by decide)) ?_)
  · have hI := ei_rng1 (K := K) (env := [.dat (.int ((x.natAbs : Nat) : Int)), .dat (.int ((y.natAbs : Nat) : Int)), .un, .un]) (ed_I0 (g := fun i j => i + j) (ed_I0 (g := fun i j => i + j) (ed_bits (ed_var 0 rfl)) (ed_bits (ed_var 1 rfl))) (ed_int 4)) (by rw [bits]; omega)
    rw [bits, Int.toNat_natCast] at hI
    exact hI
  · refine .n (run_seq (run_ifF ((et_test (ed_eqI (ed_var 1 rfl) (ed_int 0))).is (decide_eq_false (by have := h3 i hi; omega))) run_next) (run_seq (run_set (ed_I (ed_int1 (ed_var 0 rfl)) (ed_var 1 rfl) (by have := h3 i hi; omega))) (run_seq (run_set (ed_var 1 rfl)) (run_set (ed_var 3 rfl))))) ?_
    have e : ((eu x.natAbs y.natAbs i).1 : Int).fmod ((eu x.natAbs y.natAbs i).2 : Int) = (((eu x.natAbs y.natAbs i).1 % (eu x.natAbs y.natAbs i).2 : Nat) : Int) := by
      rw [Int.fmod_eq_emod_of_nonneg _ (by omega)]; rfl
    rw [e]
    exact .eq (.eq (.un (.un .nil)))
  · exact run_seqR (run_ifT ((et_test (ed_eqI (ed_var 1 rfl) (ed_int 0))).is (decide_eq_true (by rw [h2]; rfl))) (run_ret (ed_var 0 rfl)))
theorem sc__law_fraction : FnScope ["top", "low", "common"] ["top", "low"] (defScope s__law_fraction) := ⟨rfl, rfl, rfl, by decide +kernel, rfl, by decide +kernel, by decide +kernel⟩
def sp__law_fraction (K : PySem.W.Frag) : Sp := SpD K (fun a : Int × Int => [.dat (.int a.1), .dat (.int a.2)]) (fun a => a.2 ≠ 0 ∧ Bt 9000 a.2 ∧ Bt 100000000 a.1) (fun a => encQ (Rat.divInt a.1 a.2))
theorem ok__law_fraction {f : Addr} {fd : FuncData} (F : Fun K "_law_fraction" "_law_fraction" s__law_fraction f fd) (C__law_gcd : Callee P w K mg base CX0 1 "_law_gcd" ["a", "b"] (sp__law_gcd K)) : FnOk P w K mg base CX0 2 f fd ["top", "low"] (sp__law_fraction K) := by
  have sc := sc__law_fraction
  refine fn_D F sc (fun _ => rfl) fun cdv A outer s H E hr => ?_
  refine ⟨_, (pss_cons (ps_set (i := 2) sc.nd rfl (by first | exact Or.inl rfl | exact Or.inr rfl) (pe_c C__law_gcd (hr.mono (by decide)) pass0 (pa_cons (pv 0) (pa_cons (pv 1) pa_nil))))
      (pss_cons (ps_if (pt_cmpR op_lt (pv 1) pe_int (nomark _)) (pss_one (ps_set (i := 2) sc.nd rfl (by first | exact Or.inl rfl | exact Or.inr rfl) (pe_un un_neg (pv 2)))) pss_nil)
      (pss_one (ps_ret (pe_tup (pa_cons (pe_op op_fdivZ (pv 0) (pv 2)) (pa_cons (pe_op op_fdivZ (pv 1) (pv 2)) pa_nil))))))), fun a ha => ?_⟩
  obtain ⟨t, l⟩ := a
  obtain ⟨h0, hl9, ht⟩ := ha
  have h0 : l ≠ 0 := h0
  have hl9 : Bt 9000 l := hl9
  have ht : Bt 100000000 t := ht
  refine run_seq (run_set (ed_call (x := (t, l)) (ea_d (ed_var 0 rfl) (ea_d (ed_var 1 rfl) ea_nil)) rfl ⟨ht, hl9.mono (by decide)⟩)) ?_
  have key : Run K E (tIfS (tTest (tOp (rI0 fun i j => .bl (decide (i < j))) (tVar 1) (tC (.int 0)))) (tAsg (tUn (rU fun i => .int (-i)) (tVar 2)) (gName 2)) tNext) [.dat (.int t), .dat (.int l), .dat (.int ((Nat.gcd t.natAbs l.natAbs : Nat) : Int))] (.nx [.dat (.int t), .dat (.int l), .dat (.int (sgcd t l))]) := by
    by_cases hn : l < 0
    · have e : sgcd t l = -((Nat.gcd t.natAbs l.natAbs : Nat) : Int) := by unfold sgcd; rw [if_pos hn]
      rw [e]
      exact run_ifT ((et_test (ed_B0 (ed_var 1 rfl) (ed_int 0))).is (decide_eq_true hn)) (run_set (ed_neg (ed_var 2 rfl)))
    · have e : sgcd t l = ((Nat.gcd t.natAbs l.natAbs : Nat) : Int) := by unfold sgcd; rw [if_neg hn]
      rw [e]
      exact run_ifF ((et_test (ed_B0 (ed_var 1 rfl) (ed_int 0))).is (decide_eq_false hn)) run_next
  refine run_seq key ?_
  obtain ⟨e1, e2⟩ := divInt_parts (t := t) h0
  show Run K E _ _ (.rt (.tuple [.int (Rat.divInt t l).num, .int ((Rat.divInt t l).den : Int)]))
  rw [e1, e2]
  exact run_ret (ed_tup (ds := [.int _, .int _]) (ea_d (ed_I (ed_var 0 rfl) (ed_var 2 rfl) (sgcd_div h0 hl9)) (ea_d (ed_I (ed_var 1 rfl) (ed_var 2 rfl) (sgcd_div h0 hl9)) ea_nil)))

/-! ### over, and the law's own -/
theorem sc_over : FnScope ["first", "second"] ["first", "second"] (defScope s_over) := ⟨rfl, rfl, rfl, by decide +kernel, rfl, by decide +kernel, by decide +kernel⟩
def sp_over (K : PySem.W.Frag) (C : Addr) : Sp := SpX K fsQQ preQQ (.ref C) (fun a => if a.2 = 0 then none else some (encQ (a.1 / a.2)))
theorem ok_over {f : Addr} {fd : FuncData} {C : Addr} (F : Fun K "over" "over" s_over f fd) (C_fraction : Callee P w K mg base (L2.CX P w) 1 "fraction" ["top", "low"] (sp_fraction K C)) :
    FnOk P w K mg base (L2.CX P w) 2 f fd ["first", "second"] (sp_over K C) := by
  have sc := sc_over
  refine fn_X F sc (fun _ => rfl) fun cdv A outer s H E hr => ?_
  refine ⟨_, (pss_one (ps_ret (pe_c C_fraction (hr.mono (by decide)) pass_up (pa_cons (pe_op op_mulX (pe_ix ix_tup (pv 0) pe_int (fun _ _ => rfl)) (pe_ix ix_tup (pv 1) pe_int (fun _ _ => rfl))) (pa_cons (pe_op op_mulX (pe_ix ix_tup (pv 0) pe_int (fun _ _ => rfl)) (pe_ix ix_tup (pv 1) pe_int (fun _ _ => rfl))) pa_nil))))), fun a ha => ?_⟩
  obtain ⟨p, q⟩ := a
  obtain ⟨hp, hq⟩ := ha
  have hp : Qb 4000 p := hp
  have hq : Qb 4000 q := hq
  have args := ea_d (K := K) (env := [.dat (encQ p), .dat (encQ q)]) (ed_I (g := fun i j => i * j) (ed_ixT (ed_var 0 rfl) (ed_int 0) rfl) (ed_ixT (ed_var 1 rfl) (ed_int 1) rfl) (hp.num.mulx hq.den (by decide))) (ea_d (ed_I (g := fun i j => i * j) (ed_ixT (ed_var 0 rfl) (ed_int 1) rfl) (ed_ixT (ed_var 1 rfl) (ed_int 0) rfl) (hp.den.mulx hq.num (by decide))) ea_nil)
  have pre : Bt 9000 ((p.den : Int) * q.num) := (hp.den.mul hq.num).mono (by decide)
  by_cases h0 : q = 0
  · refine ⟨fun d hd => ?_, fun _ => run_retX (x := (p.num * q.den, (p.den : Int) * q.num)) args rfl pre ?_⟩
    · rw [if_pos h0] at hd; cases hd
    · subst h0; exact if_pos (Int.mul_zero _)
  · have hn : q.num ≠ 0 := fun z => h0 (Rat.num_eq_zero.mp z)
    refine ⟨fun d hd => .inl ?_, fun hd => ?_⟩
    · rw [if_neg h0] at hd
      cases hd
      refine run_ret (ed_callX (x := (p.num * q.den, (p.den : Int) * q.num)) args rfl pre ?_)
      rw [← div_is p q h0]
      exact if_neg (Int.mul_ne_zero (den_ne p) hn)
    · rw [if_neg h0] at hd; cases hd
/-- what is asked of the classes of errors -/
structure Errs (K : PySem.W.Frag) (mg : Str → Option Value) (C C1 C2 C3 : Addr) : Prop where
  eC : ErrC K mg "OutOfRange" C
  g1 : mg "CofferError" = some (.ref C1)
  g2 : mg "BadSpread" = some (.ref C2)
  g3 : mg "BadHouse" = some (.ref C3)
  gv : mg "ValueError" = none
  k1 : PySem.W.kitOne K (.ref C) (.ref C1) = some true
  kv : PySem.W.kitOne K (.ref C) (.type "ValueError") = some true
  k2 : PySem.W.kitAny K (.ref C) [.ref C2, .ref C3] = some false
theorem sc__law_no_low : FnScope ["top", "e"] ["top"] (defScope s__law_no_low) := ⟨rfl, rfl, rfl, by decide +kernel, rfl, by decide +kernel, by decide +kernel⟩
def sp__law_no_low (K : PySem.W.Frag) : Sp := SpD K (fun a : Int => [.dat (.int a)]) (fun _ => True) (fun _ => .bool true)
theorem ok__law_no_low {f C C1 C2 C3 : Addr} {fd : FuncData} (F : Fun K "_law_no_low" "_law_no_low" s__law_no_low f fd) (T : Errs K mg C C1 C2 C3) (m_isinstance : mg "isinstance" = none) (C_fraction : Callee P w K mg base (L2.CX P w) 1 "fraction" ["top", "low"] (sp_fraction K C)) :
    FnOk P w K mg base CX0 2 f fd ["top"] (sp__law_no_low K) := by
  have sc := sc__law_no_low
  refine fn_D F sc (fun _ => rfl) fun cdv A outer s H E hr => ?_
  refine ⟨_, (pss_cons (ps_try_as (i := 1) (Wout := fun _ _ _ _ => False) rfl rfl sc.nd rfl rfl ⟨rfl, by decide, .inl T.eC.g⟩ takes0
    (fun W pn xe tk _ => pss_one (ps_expr (pe_cS C_fraction (hr.mono (by decide)) (fun σ => passAt tk σ) (pa_cons (pv 0) (pa_cons pe_int pa_nil)))))
    (fun a oe cls d pn hz hf => pss_one (ps_ret (pe_and (pe_callB (call_isF T.eC.own hz hf) (by rfl) m_isinstance (by decide +kernel) (pa_cons (pv 1) (pa_cons (pe_glob (v := .ref C1) rfl T.g1 rfl) pa_nil)))
      (pe_and (pe_callB (call_isF T.eC.own hz hf) (by rfl) m_isinstance (by decide +kernel) (pa_cons (pv 1) (pa_cons (pe_bltn (v := .ty "ValueError") (by rfl) T.gv (by decide +kernel) rfl) pa_nil)))
      (pe_one (pe_not (pe_callB (call_isFT T.eC.own hz hf) (by rfl) m_isinstance (by decide +kernel) (pa_cons (pv 1) (pa_cons (pe_tup (pa_cons (pe_glob (v := .ref C2) rfl T.g2 rfl) (pa_cons (pe_glob (v := .ref C3) rfl T.g3 rfl) pa_nil))) pa_nil))))))))))
      (pss_one (ps_ret pe_bl))), fun a ha => ?_⟩
  refine run_seqR (run_tryR (x := (a, 0)) (ea_d (ed_var 0 rfl) (ea_d (ed_int 0) ea_nil)) rfl (Bt.zero 9000) rfl T.eC.exm fun b => ?_)
  exact run_ret (ed_andV (ed_isF (c := .ref C1) (cv := .ref C1) rfl (fun _ h => h) T.k1) fun _ => ed_andV (ed_isF (c := .ty "ValueError") (cv := .type "ValueError") rfl (fun _ h => h) T.kv) fun _ => ed_notV (ed_isFT2 rfl (.own _) (.own _) T.k2))
theorem sc__law_no_over : FnScope ["first", "e"] ["first"] (defScope s__law_no_over) := ⟨rfl, rfl, rfl, by decide +kernel, rfl, by decide +kernel, by decide +kernel⟩
def sp__law_no_over (K : PySem.W.Frag) : Sp := SpD K (fun a : Rat => [.dat (encQ a)]) (fun a => Qb 4000 a) (fun _ => .bool true)
theorem ok__law_no_over {f C C1 C2 C3 : Addr} {fd : FuncData} (F : Fun K "_law_no_over" "_law_no_over" s__law_no_over f fd) (T : Errs K mg C C1 C2 C3) (m_isinstance : mg "isinstance" = none) (C_over : Callee P w K mg base (L2.CX P w) 2 "over" ["first", "second"] (sp_over K C)) :
    FnOk P w K mg base CX0 3 f fd ["first"] (sp__law_no_over K) := by
  have sc := sc__law_no_over
  refine fn_D F sc (fun _ => rfl) fun cdv A outer s H E hr => ?_
  refine ⟨_, (pss_cons (ps_try_as (i := 1) (Wout := fun _ _ _ _ => False) rfl rfl sc.nd rfl rfl ⟨rfl, by decide, .inl T.eC.g⟩ takes0
    (fun W pn xe tk _ => pss_one (ps_expr (pe_cS C_over (hr.mono (by decide)) (fun σ => passAt tk σ) (pa_cons (pv 0) (pa_cons (pe_tup (pa_cons pe_int (pa_cons pe_int pa_nil))) pa_nil)))))
    (fun a oe cls d pn hz hf => pss_one (ps_ret (pe_and (pe_callB (call_isF T.eC.own hz hf) (by rfl) m_isinstance (by decide +kernel) (pa_cons (pv 1) (pa_cons (pe_glob (v := .ref C1) rfl T.g1 rfl) pa_nil)))
      (pe_and (pe_callB (call_isF T.eC.own hz hf) (by rfl) m_isinstance (by decide +kernel) (pa_cons (pv 1) (pa_cons (pe_bltn (v := .ty "ValueError") (by rfl) T.gv (by decide +kernel) rfl) pa_nil)))
      (pe_one (pe_not (pe_callB (call_isFT T.eC.own hz hf) (by rfl) m_isinstance (by decide +kernel) (pa_cons (pv 1) (pa_cons (pe_tup (pa_cons (pe_glob (v := .ref C2) rfl T.g2 rfl) (pa_cons (pe_glob (v := .ref C3) rfl T.g3 rfl) pa_nil))) pa_nil))))))))))
      (pss_one (ps_ret pe_bl))), fun a ha => ?_⟩
  refine run_seqR (run_tryR (x := (a, (0 : Rat))) (ea_d (ed_var 0 rfl) (ea_d (ed_tup (ds := [.int 0, .int 1]) (ea_d (ed_int 0) (ea_d (ed_int 1) ea_nil))) ea_nil)) rfl ⟨ha, ⟨Bt.zero 4000, Bt.one (by decide)⟩⟩ rfl T.eC.exm fun b => ?_)
  exact run_ret (ed_andV (ed_isF (c := .ref C1) (cv := .ref C1) rfl (fun _ h => h) T.k1) fun _ => ed_andV (ed_isF (c := .ty "ValueError") (cv := .type "ValueError") rfl (fun _ h => h) T.kv) fun _ => ed_notV (ed_isFT2 rfl (.own _) (.own _) T.k2))
theorem sc__law_is : FnScope ["actual", "top", "low", "item"] ["actual", "top", "low"] (defScope s__law_is) := ⟨rfl, rfl, rfl, by decide +kernel, rfl, by decide +kernel, by decide +kernel⟩
structure IsA where
  r : Rat
  t : Int
  l : Int
def sp__law_is (K : PySem.W.Frag) : Sp := SpD K (fun a : IsA => [.dat (encQ a.r), .dat (.int a.t), .dat (.int a.l)]) (fun a => (a.l ≠ 0 ∧ Bt 9000 a.l ∧ Bt 100000000 a.t) ∧ a.r = Rat.divInt a.t a.l) (fun _ => .bool true)
theorem ok__law_is {f : Addr} {fd : FuncData} (F : Fun K "_law_is" "_law_is" s__law_is f fd) (m_isinstance : mg "isinstance" = none) (m_any : mg "any" = none) (m_tuple : mg "tuple" = none) (m_bool : mg "bool" = none) (C__law_fraction : Callee P w K mg base CX0 2 "_law_fraction" ["top", "low"] (sp__law_fraction K)) :
    FnOk P w K mg base CX0 3 f fd ["actual", "top", "low"] (sp__law_is K) := by
  have sc := sc__law_is
  refine fn_D F sc (fun _ => rfl) fun cdv A outer s H E hr => ?_
  refine ⟨_, (pss_cons (ps_if (PW.pt (pw_or (pt_not (pt_val (pe_callB call_isi (by rfl) m_isinstance (by decide +kernel) (pa_cons (pv 0) (pa_cons (pe_bltn (v := .ty "tuple") (by rfl) m_tuple (by decide +kernel) rfl) pa_nil))))) (pw_or1 (pt_cmpR (op_neD hr.units) (pv 0) (pe_c C__law_fraction (hr.mono (by decide)) pass0 (pa_cons (pv 1) (pa_cons (pv 2) pa_nil))) (nomark _))))) (pss_one (ps_ret pe_bl)) pss_nil)
      (pss_one (ps_ret (pe_not (pe_callB (cr_any rfl) (by rfl) m_any (by decide +kernel) (pa_cons (pe_lc (own := [("item", 3)]) rfl sc.nd (pi_tup (pv 0)) (blkOk_by (own := [("item", 3)]) (N := ["actual", "top", "low", "item"]) (sc := defScope s__law_is) (by decide +kernel)) (fun _ _ _ _ _ => (pg_name (i := 3) sc.nd rfl (Or.inl rfl))) (fun _ _ _ _ _ => pts_nil) (fun _ _ _ _ _ => (pe_callB (id := "isinstance") (r := rIsi K) call_isi (by rfl) m_isinstance (by decide +kernel) (pa_cons (pv 3) (pa_cons (pe_bltn (v := .ty "bool") (by rfl) m_bool (by decide +kernel) rfl) pa_nil))))) pa_nil)))))), fun a ha => ?_⟩
  obtain ⟨r, t, l⟩ := a
  obtain ⟨hp, er⟩ := ha
  have er : r = Rat.divInt t l := er
  subst er
  have hp : l ≠ 0 ∧ Bt 9000 l ∧ Bt 100000000 t := hp
  refine run_seq (run_ifF (et_orF (et_notT (et_B (ed_isi (ed_var 0 rfl).p (by exact kit_tt)))) ((et_test (ed_neD (ed_var 0 rfl).p (ed_call (x := (t, l)) (ea_d (ed_var 1 rfl) (ea_d (ed_var 2 rfl) ea_nil)) rfl hp).p rfl rfl)).is (by show (!PyData.eqv _ _) = false; rw [SeqAt.eqv_refl _ rfl]; rfl))) run_next) ?_
  have lc : ∀ n : Int, EvD K (tCB (rIsi K) (tCons (tVar 3) (tCons (tC (.ty "bool")) tNil))) [.dat (encQ (Rat.divInt t l)), .dat (.int t), .dat (.int l), .dat (.int n)] (.bool false) := fun n => ed_isi (ed_var 3 rfl).p (by exact kit_ib)
  refine run_ret ((ed_notV (ed_any (bs := [false, false]) (en_lc (ei_tup (ed_var 0 rfl)) (ts := [3]) (by decide) (.keep (eg_name (by decide)) et_yes (lc _) (.keep (eg_name (by decide)) et_yes (lc _) .nil)) (by show 2 ≤ 10000000; omega)).l)).is rfl)
theorem sc__law_less : FnScope ["first", "second"] ["first", "second"] (defScope s__law_less) := ⟨rfl, rfl, rfl, by decide +kernel, rfl, by decide +kernel, by decide +kernel⟩
def sp__law_less (K : PySem.W.Frag) : Sp := SpD K fsQQ preQQ (fun a => .bool (decide (a.1 < a.2)))
theorem ok__law_less {f : Addr} {fd : FuncData} (F : Fun K "_law_less" "_law_less" s__law_less f fd) : FnOk P w K mg base CX0 1 f fd ["first", "second"] (sp__law_less K) := by
  have sc := sc__law_less
  refine fn_D F sc (fun _ => rfl) fun cdv A outer s H E hr => ?_
  refine ⟨_, (pss_one (ps_ret (pe_cmpR op_lt (pe_op op_mulX (pe_ix ix_tup (pv 0) pe_int (fun _ _ => rfl)) (pe_ix ix_tup (pv 1) pe_int (fun _ _ => rfl))) (pe_op op_mulX (pe_ix ix_tup (pv 1) pe_int (fun _ _ => rfl)) (pe_ix ix_tup (pv 0) pe_int (fun _ _ => rfl))) (nomark _)))), fun a ha => ?_⟩
  obtain ⟨p, q⟩ := a
  obtain ⟨hp, hq⟩ := ha
  have hp : Qb 4000 p := hp
  have hq : Qb 4000 q := hq
  rw [← lt_is]
  exact run_ret (ed_B0 (ed_I (ed_ixT (ed_var 0 rfl) (ed_int 0) rfl) (ed_ixT (ed_var 1 rfl) (ed_int 1) rfl) (hp.num.mulx hq.den (by decide))) (ed_I (ed_ixT (ed_var 1 rfl) (ed_int 0) rfl) (ed_ixT (ed_var 0 rfl) (ed_int 1) rfl) (hq.num.mulx hp.den (by decide))))

end
end KP

namespace KP
open PySem L2 DL MX
section
variable {P : Program} {w : World} {K : PySem.W.Frag} {mg : Str → Option Value} {base : Heap}
/-! ### law -/
theorem sc_law : FnScope ["script", "k", "top", "low", "draws", "factor", "first", "second", "a", "b", "c", "d", "pair", "told"] ["script"] (defScope s_law) := ⟨rfl, rfl, rfl, by decide +kernel, rfl, by decide +kernel, by decide +kernel⟩
def sp_law (K : PySem.W.Frag) : Sp := SpD K (fun ns : List Int => [.scr ns]) (fun ns => ns.length ≤ 63) (fun _ => .bool true)
def lims : List Int := [1000, 4, 2001, 1000, 2001, 1000, 1000000000000]
theorem lims_ok : DrawOk lims := ⟨by decide, by intro l hl; exact Bt.mono (n := 50) (by revert l; decide) (by decide), by decide⟩
theorem lims_pos : ∀ l ∈ lims, 0 < l := lims_ok.pos
structure PQ where
  r : Rat
  q : Rat
theorem ok_law {f C C1 C2 C3 : Addr} {fd : FuncData} (F : Fun K "law" "law" s_law f fd) (m_len : mg "len" = none) (m_int : mg "int" = none) (m_range : mg "range" = none) (m_isinstance : mg "isinstance" = none) (m_bool : mg "bool" = none)
    (C_fraction : Callee P w K mg base (L2.CX P w) 1 "fraction" ["top", "low"] (sp_fraction K C)) (C_plus : Callee P w K mg base CX0 2 "plus" ["first", "second"] (sp_plus K)) (C_minus : Callee P w K mg base CX0 3 "minus" ["first", "second"] (sp_minus K)) (C_times : Callee P w K mg base CX0 2 "times" ["first", "second"] (sp_times K))
    (C_over : Callee P w K mg base (L2.CX P w) 2 "over" ["first", "second"] (sp_over K C)) (C_is_less : Callee P w K mg base CX0 1 "is_less" ["first", "second"] (sp_is_less K))
    (C__law_cell : Callee P w K mg base CX0 1 "_law_cell" ["script", "k"] (sp__law_cell K)) (C__law_draws : Callee P w K mg base CX0 1 "_law_draws" ["cell", "limits"] (sp__law_draws K)) (C__law_fraction : Callee P w K mg base CX0 2 "_law_fraction" ["top", "low"] (sp__law_fraction K)) (C__law_less : Callee P w K mg base CX0 1 "_law_less" ["first", "second"] (sp__law_less K))
    (C__law_is : Callee P w K mg base CX0 3 "_law_is" ["actual", "top", "low"] (sp__law_is K)) (C__law_no_low : Callee P w K mg base CX0 2 "_law_no_low" ["top"] (sp__law_no_low K)) (C__law_no_over : Callee P w K mg base CX0 3 "_law_no_over" ["first"] (sp__law_no_over K)) :
    FnOk P w K mg base CX0 4 f fd ["script"] (sp_law K) := by
  have sc := sc_law
  refine fn_D F sc (fun _ => rfl) fun cdv A outer s H E hr => ?_
  refine ⟨_, (pss_cons (ps_for PassesOwn.never rfl (pi_range3 (by rfl) m_range (pa_cons pe_int (pa_cons (pe_op op_add (pe_callB (id := "len") call_len_seq (by rfl) m_len PySem.boot_len (pa_cons (pv 0) pa_nil)) pe_int) (pa_cons pe_int pa_nil)))) (pg_name (i := 1) sc.nd rfl (by first | exact Or.inl rfl | exact Or.inr rfl)) (pss_cons (ps_set (i := 2) sc.nd rfl (by first | exact Or.inl rfl | exact Or.inr rfl) (pe_op op_mulX (pe_op op_modN (pe_callTy (T := "int") call_int1 (by rfl) m_int (by decide +kernel) (pa_cons (pe_c C__law_cell (hr.mono (by decide)) pass0 (pa_cons (pv 0) (pa_cons (pv 1) pa_nil))) pa_nil)) (pe_op op_pow pe_int pe_int)) (pe_ix ix_list (pe_lst (pa_cons pe_int (pa_cons (pe_un un_neg pe_int) pa_nil))) (pe_op op_and (pe_callTy (T := "int") call_int1 (by rfl) m_int (by decide +kernel) (pa_cons (pe_c C__law_cell (hr.mono (by decide)) pass0 (pa_cons (pv 0) (pa_cons (pv 1) pa_nil))) pa_nil)) pe_int) (fun _ _ => rfl))))
      (pss_cons (ps_set (i := 3) sc.nd rfl (by first | exact Or.inl rfl | exact Or.inr rfl) (pe_op op_mulX (pe_op op_modN (pe_callTy (T := "int") call_int1 (by rfl) m_int (by decide +kernel) (pa_cons (pe_c C__law_cell (hr.mono (by decide)) pass0 (pa_cons (pv 0) (pa_cons (pe_op op_add (pv 1) pe_int) pa_nil))) pa_nil)) (pe_op op_pow pe_int pe_int)) (pe_ix ix_list (pe_lst (pa_cons pe_int (pa_cons (pe_un un_neg pe_int) pa_nil))) (pe_op op_and (pe_op op_fdivZ (pe_callTy (T := "int") call_int1 (by rfl) m_int (by decide +kernel) (pa_cons (pe_c C__law_cell (hr.mono (by decide)) pass0 (pa_cons (pv 0) (pa_cons (pe_op op_add (pv 1) pe_int) pa_nil))) pa_nil)) pe_int) pe_int) (fun _ _ => rfl))))
      (pss_cons (ps_set (i := 4) sc.nd rfl (by first | exact Or.inl rfl | exact Or.inr rfl) (pe_c C__law_draws (hr.mono (by decide)) pass0 (pa_cons (pe_c C__law_cell (hr.mono (by decide)) pass0 (pa_cons (pv 0) (pa_cons (pe_op op_add (pv 1) pe_int) pa_nil))) (pa_cons (pe_lst (pa_cons pe_int (pa_cons pe_int (pa_cons pe_int (pa_cons pe_int (pa_cons pe_int (pa_cons pe_int (pa_cons (pe_op op_pow pe_int pe_int) pa_nil)))))))) pa_nil))))
      (pss_cons (ps_set (i := 5) sc.nd rfl (by first | exact Or.inl rfl | exact Or.inr rfl) (pe_op op_add pe_int (pe_ix ix_list (pv 4) pe_int (fun _ _ => rfl))))
      (pss_cons (ps_if (pt_cmpR op_eq (pv 3) pe_int (nomark _)) (pss_one (ps_set (i := 3) sc.nd rfl (by first | exact Or.inl rfl | exact Or.inr rfl) (pv 5))) pss_nil)
      (pss_cons (ps_if (PW.pt (pw_or (pt_not (pt_val (pe_c C__law_is (hr.mono (by decide)) pass0 (pa_cons (pe_c C_fraction (hr.mono (by decide)) passL (pa_cons (pv 2) (pa_cons (pv 3) pa_nil))) (pa_cons (pv 2) (pa_cons (pv 3) pa_nil)))))) (pw_or (pt_not (pt_val (pe_c C__law_is (hr.mono (by decide)) pass0 (pa_cons (pe_c C_fraction (hr.mono (by decide)) passL (pa_cons (pe_op op_mulX (pe_un un_neg (pv 2)) (pv 5)) (pa_cons (pe_op op_mulX (pe_un un_neg (pv 3)) (pv 5)) pa_nil))) (pa_cons (pv 2) (pa_cons (pv 3) pa_nil)))))) (pw_or1 (pt_not (pt_val (pe_c C__law_no_low (hr.mono (by decide)) pass0 (pa_cons (pv 2) pa_nil)))))))) (pss_one (ps_ret pe_bl)) pss_nil)
      (pss_cons (ps_set (i := 6) sc.nd rfl (by first | exact Or.inl rfl | exact Or.inr rfl) (pe_c C__law_fraction (hr.mono (by decide)) pass0 (pa_cons (pe_op op_sub (pe_ix ix_list (pv 4) pe_int (fun _ _ => rfl)) pe_int) (pa_cons (pe_op op_add pe_int (pe_ix ix_list (pv 4) pe_int (fun _ _ => rfl))) pa_nil))))
      (pss_cons (ps_set (i := 7) sc.nd rfl (by first | exact Or.inl rfl | exact Or.inr rfl) (pe_ix ix_list (pe_lst (pa_cons (pe_c C__law_fraction (hr.mono (by decide)) pass0 (pa_cons (pe_op op_sub (pe_ix ix_list (pv 4) pe_int (fun _ _ => rfl)) pe_int) (pa_cons (pe_op op_add pe_int (pe_ix ix_list (pv 4) pe_int (fun _ _ => rfl))) pa_nil))) (pa_cons (pv 6) (pa_cons (pe_tup (pa_cons (pe_un un_neg (pe_ix ix_tup (pv 6) pe_int (fun _ _ => rfl))) (pa_cons (pe_ix ix_tup (pv 6) pe_int (fun _ _ => rfl)) pa_nil))) (pa_cons (pe_c C__law_fraction (hr.mono (by decide)) pass0 (pa_cons (pe_op op_sub (pe_ix ix_list (pv 4) pe_int (fun _ _ => rfl)) pe_int) (pa_cons (pe_op op_add pe_int (pe_ix ix_list (pv 4) pe_int (fun _ _ => rfl))) pa_nil))) pa_nil))))) (pe_ix ix_list (pv 4) pe_int (fun _ _ => rfl)) (fun _ _ => rfl)))
      (pss_cons (ps_asg (pv 6) (pg_tup rfl (pgs_cons (pg_name (i := 8) sc.nd rfl (by first | exact Or.inl rfl | exact Or.inr rfl)) (pgs_cons (pg_name (i := 9) sc.nd rfl (by first | exact Or.inl rfl | exact Or.inr rfl)) pgs_nil))))
      (pss_cons (ps_asg (pv 7) (pg_tup rfl (pgs_cons (pg_name (i := 10) sc.nd rfl (by first | exact Or.inl rfl | exact Or.inr rfl)) (pgs_cons (pg_name (i := 11) sc.nd rfl (by first | exact Or.inl rfl | exact Or.inr rfl)) pgs_nil))))
      (pss_cons (ps_if (PW.pt (pw_or (pt_not (pt_val (pe_c C__law_is (hr.mono (by decide)) pass0 (pa_cons (pe_c C_plus (hr.mono (by decide)) pass0 (pa_cons (pv 6) (pa_cons (pv 7) pa_nil))) (pa_cons (pe_op op_add (pe_op op_mulX (pv 8) (pv 11)) (pe_op op_mulX (pv 10) (pv 9))) (pa_cons (pe_op op_mulX (pv 9) (pv 11)) pa_nil)))))) (pw_or1 (pt_not (pt_val (pe_c C__law_is (hr.mono (by decide)) pass0 (pa_cons (pe_c C_minus (hr.mono (by decide)) pass0 (pa_cons (pv 6) (pa_cons (pv 7) pa_nil))) (pa_cons (pe_op op_sub (pe_op op_mulX (pv 8) (pv 11)) (pe_op op_mulX (pv 10) (pv 9))) (pa_cons (pe_op op_mulX (pv 9) (pv 11)) pa_nil))))))))) (pss_one (ps_ret pe_bl)) pss_nil)
      (pss_cons (ps_if (PW.pt (pw_or (pt_not (pt_val (pe_c C__law_is (hr.mono (by decide)) pass0 (pa_cons (pe_c C_times (hr.mono (by decide)) pass0 (pa_cons (pv 6) (pa_cons (pv 7) pa_nil))) (pa_cons (pe_op op_mulX (pv 8) (pv 10)) (pa_cons (pe_op op_mulX (pv 9) (pv 11)) pa_nil)))))) (pw_or1 (pt_not (pt_val (pe_c C__law_no_over (hr.mono (by decide)) pass0 (pa_cons (pv 6) pa_nil))))))) (pss_one (ps_ret pe_bl)) pss_nil)
      (pss_cons (ps_if (PW.pt (pw_and (pt_cmpR op_ne (pv 10) pe_int (nomark _)) (pw_and1 (pt_not (pt_val (pe_c C__law_is (hr.mono (by decide)) pass0 (pa_cons (pe_c C_over (hr.mono (by decide)) passL (pa_cons (pv 6) (pa_cons (pv 7) pa_nil))) (pa_cons (pe_op op_mulX (pv 8) (pv 11)) (pa_cons (pe_op op_mulX (pv 9) (pv 10)) pa_nil))))))))) (pss_one (ps_ret pe_bl)) pss_nil)
      (pss_one (ps_for PassesOwn.never rfl (pi_list (pe_lst (pa_cons (pe_tup (pa_cons (pv 6) (pa_cons (pv 7) pa_nil))) (pa_cons (pe_tup (pa_cons (pv 7) (pa_cons (pv 6) pa_nil))) (pa_cons (pe_tup (pa_cons (pv 6) (pa_cons (pv 6) pa_nil))) pa_nil))))) (pg_name (i := 12) sc.nd rfl (by first | exact Or.inl rfl | exact Or.inr rfl)) (pss_cons (ps_set (i := 13) sc.nd rfl (by first | exact Or.inl rfl | exact Or.inr rfl) (pe_c C_is_less (hr.mono (by decide)) pass0 (pa_cons (pe_ix ix_tup (pv 12) pe_int (fun _ _ => rfl)) (pa_cons (pe_ix ix_tup (pv 12) pe_int (fun _ _ => rfl)) pa_nil))))
      (pss_one (ps_if (PW.pt (pw_or (pt_not (pt_val (pe_callB (id := "isinstance") (r := rIsi K) call_isi (by rfl) m_isinstance (by decide +kernel) (pa_cons (pv 13) (pa_cons (pe_bltn (v := .ty "bool") (by rfl) m_bool (by decide +kernel) rfl) pa_nil))))) (pw_or1 (pt_cmpR op_ne (pv 13) (pe_c C__law_less (hr.mono (by decide)) pass0 (pa_cons (pe_ix ix_tup (pv 12) pe_int (fun _ _ => rfl)) (pa_cons (pe_ix ix_tup (pv 12) pe_int (fun _ _ => rfl)) pa_nil))) (nomark _))))) (pss_one (ps_ret pe_bl)) pss_nil)))))))))))))))))))
      (pss_one (ps_ret pe_bl))), fun a ha => ?_⟩
  have hns : a.length ≤ 63 := ha
  refine run_seq (run_for (ts := [1]) (fun _ => [.scr a, .un, .un, .un, .un, .un, .un, .un, .un, .un, .un, .un, .un, .un]) (ei_rng3 (ed_int 0) (ed_I0 (ed_lenR 0 rfl) (ed_int 3)) (ed_int 3) (rgc_up (by omega) (by omega) (by decide) (by decide))) (Less.refl _) (fun i d hi hd => ⟨_, (eg_name (by decide)), ?_⟩)) (run_ret (ed_bl true))
  obtain ⟨_, ed⟩ := rngD_get hd
  have hk : ∃ k : Int, 0 ≤ k ∧ d = .int k := ⟨_, by omega, ed⟩
  obtain ⟨k, hk, rfl⟩ := hk
  have p60 : (10 : Int) ^ (60 : Int).toNat = 1000000000000000000000000000000000000000000000000000000000000 := by decide
  -- top
  have b60 : ∀ x s : Int, Bt 210 (x.fmod 1000000000000000000000000000000000000000000000000000000000000 * sgnF s) := fun x s => by
    have h1 := fmod_bd (x := x) (y := 1000000000000000000000000000000000000000000000000000000000000) (by decide)
    have h2 : Bt 200 (x.fmod 1000000000000000000000000000000000000000000000000000000000000) := bt_range (by omega) (by omega)
    refine (h2.mul (m := 2) ?_).mono (by decide)
    unfold sgnF; split <;> decide
  have c60 : ∀ x s : Int, CMulX (x.fmod 1000000000000000000000000000000000000000000000000000000000000) (sgnF s) := fun x s => by
    have h1 := fmod_bd (x := x) (y := 1000000000000000000000000000000000000000000000000000000000000) (by decide)
    have h2 : Bt 200 (x.fmod 1000000000000000000000000000000000000000000000000000000000000) := bt_range (by omega) (by omega)
    refine h2.mulx (m := 2) ?_ (by decide)
    unfold sgnF; split <;> decide
  have et : ∀ x s : Int, x.fmod (10 ^ (60 : Int).toNat) * sgnF s = x.fmod 1000000000000000000000000000000000000000000000000000000000000 * sgnF s := fun x s => by rw [p60]
  refine .seq (run_set ((ed_I (ed_I (ed_int1 (ed_call (x := (a, k)) (ea_cons (ev_scr 0 rfl) rfl (ea_d (ed_var 1 rfl) ea_nil)) rfl hk)) (ed_I (ed_int 10) (ed_int 60) ⟨by decide, by decide, by decide⟩) (by rw [p60]; decide)) (ed_ixl (en_lst (ds := [.int 1, .int (-1)]) (ea_d (ed_int 1) (ea_d (ed_neg (ed_int 1)) ea_nil))).l (ed_I0 (ed_int1 (ed_call (x := (a, k)) (ea_cons (ev_scr 0 rfl) rfl (ea_d (ed_var 1 rfl) ea_nil)) rfl hk)) (ed_int 1)) (sgn_at _)) (by rw [p60]; exact c60 _ _)).is (congrArg PyData.int (et _ _)))) ?_
  have bt : Bt 210 ((cellF a k).fmod 1000000000000000000000000000000000000000000000000000000000000 * sgnF (cellF a k)) := b60 _ _
  generalize ((cellF a k).fmod 1000000000000000000000000000000000000000000000000000000000000 * sgnF (cellF a k)) = top at bt ⊢
  -- low
  refine .seq (run_set ((ed_I (ed_I (ed_int1 (ed_call (x := (a, k + 1)) (ea_cons (ev_scr 0 rfl) rfl (ea_d (ed_I0 (ed_var 1 rfl) (ed_int 1)) ea_nil)) rfl (by show 0 ≤ k + 1; omega))) (ed_I (ed_int 10) (ed_int 60) ⟨by decide, by decide, by decide⟩) (by rw [p60]; decide)) (ed_ixl (en_lst (ds := [.int 1, .int (-1)]) (ea_d (ed_int 1) (ea_d (ed_neg (ed_int 1)) ea_nil))).l (ed_I0 (ed_I (ed_int1 (ed_call (x := (a, k + 1)) (ea_cons (ev_scr 0 rfl) rfl (ea_d (ed_I0 (ed_var 1 rfl) (ed_int 1)) ea_nil)) rfl (by show 0 ≤ k + 1; omega))) (ed_int 2) ⟨by decide, by decide⟩) (ed_int 1)) (sgn_at _)) (by rw [p60]; exact c60 _ _)).is (congrArg PyData.int (et _ _)))) ?_
  have bl : Bt 210 ((cellF a (k + 1)).fmod 1000000000000000000000000000000000000000000000000000000000000 * sgnF ((cellF a (k + 1)).fdiv 2)) := b60 _ _
  generalize ((cellF a (k + 1)).fmod 1000000000000000000000000000000000000000000000000000000000000 * sgnF ((cellF a (k + 1)).fdiv 2)) = low0 at bl ⊢
  -- draws
  refine .seq (run_setN (en_call (x := (cellF a (k + 2), lims)) (ea_d (ed_call (x := (a, k + 2)) (ea_cons (ev_scr 0 rfl) rfl (ea_d (ed_I0 (ed_var 1 rfl) (ed_int 2)) ea_nil)) rfl (by show 0 ≤ k + 2; omega)) (ea_d (en_lst (ds := lims.map PyData.int) (ea_d (ed_int 1000) (ea_d (ed_int 4) (ea_d (ed_int 2001) (ea_d (ed_int 1000) (ea_d (ed_int 2001) (ea_d (ed_int 1000) (ea_d ((ed_I (ed_int 10) (ed_int 12) ⟨by decide, by decide, by decide⟩).is rfl) ea_nil)))))))).d ea_nil)) rfl lims_ok)) ?_
  obtain ⟨x0, h0, p0, q0⟩ := drawsF_at (cellF a (k + 2)) (i := 0) lims_pos rfl
  obtain ⟨x1, h1, p1, q1⟩ := drawsF_at (cellF a (k + 2)) (i := 1) lims_pos rfl
  obtain ⟨x2, h2, p2, q2⟩ := drawsF_at (cellF a (k + 2)) (i := 2) lims_pos rfl
  obtain ⟨x3, h3, p3, q3⟩ := drawsF_at (cellF a (k + 2)) (i := 3) lims_pos rfl
  obtain ⟨x4, h4, p4, q4⟩ := drawsF_at (cellF a (k + 2)) (i := 4) lims_pos rfl
  obtain ⟨x5, h5, p5, q5⟩ := drawsF_at (cellF a (k + 2)) (i := 5) lims_pos rfl
  obtain ⟨x6, h6, p6, q6⟩ := drawsF_at (cellF a (k + 2)) (i := 6) lims_pos rfl
  have a0 := atI_map h0; have a1 := atI_map h1; have a2 := atI_map h2; have a3 := atI_map h3; have a4 := atI_map h4; have a5 := atI_map h5; have a6 := atI_map h6
  show Turn1 K E _ [.scr a, .dat (.int k), .dat (.int top), .dat (.int low0), .ml ((drawsF (cellF a (k + 2)) lims).map PyData.int), .un, .un, .un, .un, .un, .un, .un, .un, .un] _
  generalize (drawsF (cellF a (k + 2)) lims).map PyData.int = ds at a0 a1 a2 a3 a4 a5 a6 ⊢
  clear h0 h1 h2 h3 h4 h5 h6
  -- factor
  refine .seq (run_set (ed_I0 (ed_int 1) (ed_ixl (el_var 4 rfl) (ed_int 0) a0))) ?_
  have hf : 0 < 1 + x0 ∧ 1 + x0 ≤ 1000 := by omega
  show Turn1 K E _ [.scr a, .dat (.int k), .dat (.int top), .dat (.int low0), .ml ds, .dat (.int (1 + x0)), .un, .un, .un, .un, .un, .un, .un, .un] _
  generalize 1 + x0 = fac at hf ⊢
  have bf : Bt 10 fac := bt_range (by omega) (by omega)
  -- if low == 0
  have hlow : ∃ low, low ≠ 0 ∧ Bt 210 low ∧ Run K E (tIfS (tTest (tOp rEq (tVar 3) (tC (.int 0)))) (tAsg (tVar 5) (gName 3)) tNext) [.scr a, .dat (.int k), .dat (.int top), .dat (.int low0), .ml ds, .dat (.int fac), .un, .un, .un, .un, .un, .un, .un, .un] (.nx [.scr a, .dat (.int k), .dat (.int top), .dat (.int low), .ml ds, .dat (.int fac), .un, .un, .un, .un, .un, .un, .un, .un]) := by
    by_cases hz : low0 = 0
    · exact ⟨fac, by omega, bf.mono (by decide), run_ifT ((et_test (ed_eqI (ed_var 3 rfl) (ed_int 0))).is (decide_eq_true hz)) (run_set (ed_var 5 rfl))⟩
    · exact ⟨low0, hz, bl, run_ifF ((et_test (ed_eqI (ed_var 3 rfl) (ed_int 0))).is (decide_eq_false hz)) run_next⟩
  obtain ⟨low, hl0, bl, hlow⟩ := hlow
  refine .seq hlow ?_
  clear hlow
  -- fraction
  have hmul : Rat.divInt (-top * fac) (-low * fac) = Rat.divInt top low := by
    refine (Rat.divInt_eq_divInt_iff ?_ hl0).mpr ?_
    · exact Int.mul_ne_zero (by omega) (by omega)
    · grind
  refine .seq (run_ifF (et_orF (et_notT (et_B (ed_call (x := ⟨Rat.divInt top low, top, low⟩) (ea_d (ed_callX (x := (top, low)) (ea_d (ed_var 2 rfl) (ea_d (ed_var 3 rfl) ea_nil)) rfl (bl.mono (by decide)) (if_neg hl0)) (ea_d (ed_var 2 rfl) (ea_d (ed_var 3 rfl) ea_nil))) rfl ⟨⟨hl0, bl.mono (by decide), bt.mono (by decide)⟩, rfl⟩)))
    (et_orF (et_notT (et_B (ed_call (x := ⟨Rat.divInt (-top * fac) (-low * fac), top, low⟩) (ea_d (ed_callX (x := (-top * fac, -low * fac)) (ea_d (ed_I (ed_neg (ed_var 2 rfl)) (ed_var 5 rfl) (bt.neg.mulx bf (by decide))) (ea_d (ed_I (ed_neg (ed_var 3 rfl)) (ed_var 5 rfl) (bl.neg.mulx bf (by decide))) ea_nil)) rfl ((bl.neg.mul bf).mono (by decide)) (if_neg (Int.mul_ne_zero (by omega) (by omega)))) (ea_d (ed_var 2 rfl) (ea_d (ed_var 3 rfl) ea_nil))) rfl ⟨⟨hl0, bl.mono (by decide), bt.mono (by decide)⟩, hmul⟩)))
      (et_notT (et_B (ed_call (x := top) (ea_d (ed_var 2 rfl) ea_nil) rfl trivial))))) run_next) ?_
  -- first
  have r2000 : ∀ x : Int, 0 ≤ x → x < 2001 → Bt 12 (x - 1000) := fun x u v => bt_range (by omega) (by omega)
  have r1000 : ∀ x : Int, 0 ≤ x → x < 1000 → Bt 12 (1 + x) := fun x u v => bt_range (by omega) (by omega)
  have r12 : ∀ x : Int, 0 ≤ x → x < 1000000000000 → Bt 50 (1 + x) := fun x u v => bt_range (by omega) (by omega)
  refine .seq (run_set (ed_call (x := (x2 - 1000, 1 + x3)) (ea_d (ed_I0 (ed_ixl (el_var 4 rfl) (ed_int 2) a2) (ed_int 1000)) (ea_d (ed_I0 (ed_int 1) (ed_ixl (el_var 4 rfl) (ed_int 3) a3)) ea_nil)) rfl ⟨by show 1 + x3 ≠ 0; omega, (r1000 x3 p3 q3).mono (by decide), (r2000 x2 p2 q2).mono (by decide)⟩)) ?_
  have hr : Qb 60 (Rat.divInt (x2 - 1000) (1 + x3)) := (qb_divInt (by omega) (r2000 x2 p2 q2) (r1000 x3 p3 q3)).mono (by decide)
  show Turn1 K E _ [.scr a, .dat (.int k), .dat (.int top), .dat (.int low), .ml ds, .dat (.int fac), .dat (encQ (Rat.divInt (x2 - 1000) (1 + x3))), .un, .un, .un, .un, .un, .un, .un] _
  generalize Rat.divInt (x2 - 1000) (1 + x3) = r at hr ⊢
  -- second
  have hrA : Qb 60 (Rat.divInt (x4 - 1000) (1 + x5)) := (qb_divInt (by omega) (r2000 x4 p4 q4) (r1000 x5 p5 q5)).mono (by decide)
  have hrB : Qb 60 (Rat.divInt (x4 - 1000) (1 + x6)) := (qb_divInt (by omega) ((r2000 x4 p4 q4).mono (by decide)) (r12 x6 p6 q6)).mono (by decide)
  have hs : ∃ q, Qb 60 q ∧ atI [encQ (Rat.divInt (x4 - 1000) (1 + x5)), encQ r, encQ (-r), encQ (Rat.divInt (x4 - 1000) (1 + x6))] x1 = some (encQ q) := by
    have : x1 = 0 ∨ x1 = 1 ∨ x1 = 2 ∨ x1 = 3 := by omega
    rcases this with e | e | e | e
    · exact ⟨_, hrA, by rw [e]; rfl⟩
    · exact ⟨_, hr, by rw [e]; rfl⟩
    · exact ⟨_, qb_neg hr, by rw [e]; rfl⟩
    · exact ⟨_, hrB, by rw [e]; rfl⟩
  obtain ⟨q, hq, hs⟩ := hs
  refine .seq (run_set (ed_ixl (en_lst (ds := [encQ (Rat.divInt (x4 - 1000) (1 + x5)), encQ r, encQ (-r), encQ (Rat.divInt (x4 - 1000) (1 + x6))]) (ea_d (ed_call (x := (x4 - 1000, 1 + x5)) (ea_d (ed_I0 (ed_ixl (el_var 4 rfl) (ed_int 4) a4) (ed_int 1000)) (ea_d (ed_I0 (ed_int 1) (ed_ixl (el_var 4 rfl) (ed_int 5) a5)) ea_nil)) rfl ⟨by show 1 + x5 ≠ 0; omega, (r1000 x5 p5 q5).mono (by decide), (r2000 x4 p4 q4).mono (by decide)⟩) (ea_d (ed_var 6 rfl) (ea_d (ed_tup (ds := [.int (-r.num), .int (r.den : Int)]) (ea_d (ed_neg (ed_ixT (ed_var 6 rfl) (ed_int 0) rfl)) (ea_d (ed_ixT (ed_var 6 rfl) (ed_int 1) rfl) ea_nil))) (ea_d (ed_call (x := (x4 - 1000, 1 + x6)) (ea_d (ed_I0 (ed_ixl (el_var 4 rfl) (ed_int 4) a4) (ed_int 1000)) (ea_d (ed_I0 (ed_int 1) (ed_ixl (el_var 4 rfl) (ed_int 6) a6)) ea_nil)) rfl ⟨by show 1 + x6 ≠ 0; omega, (r12 x6 p6 q6).mono (by decide), (r2000 x4 p4 q4).mono (by decide)⟩) ea_nil))))).l (ed_ixl (el_var 4 rfl) (ed_int 1) a1) hs)) ?_
  have hr4 : Qb 4000 r := hr.mono (by decide)
  have hq4 : Qb 4000 q := hq.mono (by decide)
  refine .seq (run_asg (ts := [8, 9]) (ed_var 6 rfl) (eg_tup (egs_cons (eg_name (by decide)) (egs_cons (eg_name (by decide)) egs_nil)) rfl)) ?_
  refine .seq (run_asg (ts := [10, 11]) (ed_var 7 rfl) (eg_tup (egs_cons (eg_name (by decide)) (egs_cons (eg_name (by decide)) egs_nil)) rfl)) ?_
  have n2 : (r.den : Int) * q.den ≠ 0 := Int.mul_ne_zero (den_ne r) (den_ne q)
  have bd2 : Bt 120 ((r.den : Int) * q.den) := hr.den.mul hq.den
  have bA : Bt 121 (r.num * q.den + q.num * r.den) := (hr.num.mul hq.den).add (hq.num.mul hr.den)
  have bS : Bt 121 (r.num * q.den - q.num * r.den) := by rw [Int.sub_eq_add_neg]; exact (hr.num.mul hq.den).add (hq.num.mul hr.den).neg
  have eS : r - q = Rat.divInt (r.num * q.den - q.num * r.den) (r.den * q.den) := by
    have h := add_is r (-q)
    rw [show r - q = r + -q by grind, ← h]
    refine congrArg (fun z => Rat.divInt z _) ?_
    show r.num * q.den + (-q.num) * r.den = _
    grind
  -- plus, minus
  refine .seq (run_ifF (et_orF (et_notT (et_B (ed_call (x := ⟨r + q, r.num * q.den + q.num * r.den, r.den * q.den⟩) (ea_d (ed_call (x := (r, q)) (ea_d (ed_var 6 rfl) (ea_d (ed_var 7 rfl) ea_nil)) rfl ⟨hr4, hq4⟩) (ea_d (ed_I0 (ed_I (ed_var 8 rfl) (ed_var 11 rfl) (hr.num.mulx hq.den (by decide))) (ed_I (ed_var 10 rfl) (ed_var 9 rfl) (hq.num.mulx hr.den (by decide)))) (ea_d (ed_I (ed_var 9 rfl) (ed_var 11 rfl) (hr.den.mulx hq.den (by decide))) ea_nil))) rfl ⟨⟨n2, bd2.mono (by decide), bA.mono (by decide)⟩, (add_is r q).symm⟩)))
    (et_notT (et_B (ed_call (x := ⟨r - q, r.num * q.den - q.num * r.den, r.den * q.den⟩) (ea_d (ed_call (x := (r, q)) (ea_d (ed_var 6 rfl) (ea_d (ed_var 7 rfl) ea_nil)) rfl ⟨hr4, hq4⟩) (ea_d (ed_I0 (ed_I (ed_var 8 rfl) (ed_var 11 rfl) (hr.num.mulx hq.den (by decide))) (ed_I (ed_var 10 rfl) (ed_var 9 rfl) (hq.num.mulx hr.den (by decide)))) (ea_d (ed_I (ed_var 9 rfl) (ed_var 11 rfl) (hr.den.mulx hq.den (by decide))) ea_nil))) rfl ⟨⟨n2, bd2.mono (by decide), bS.mono (by decide)⟩, eS⟩)))) run_next) ?_
  -- times, no_over
  refine .seq (run_ifF (et_orF (et_notT (et_B (ed_call (x := ⟨r * q, r.num * q.num, r.den * q.den⟩) (ea_d (ed_call (x := (r, q)) (ea_d (ed_var 6 rfl) (ea_d (ed_var 7 rfl) ea_nil)) rfl ⟨hr4, hq4⟩) (ea_d (ed_I (ed_var 8 rfl) (ed_var 10 rfl) (hr.num.mulx hq.num (by decide))) (ea_d (ed_I (ed_var 9 rfl) (ed_var 11 rfl) (hr.den.mulx hq.den (by decide))) ea_nil))) rfl ⟨⟨n2, bd2.mono (by decide), (hr.num.mul hq.num).mono (by decide)⟩, (mul_is r q).symm⟩)))
    (et_notT (et_B (ed_call (x := r) (ea_d (ed_var 6 rfl) ea_nil) rfl hr4)))) run_next) ?_
  -- over
  refine .seq (?_ : Run K E _ _ (.nx [.scr a, .dat (.int k), .dat (.int top), .dat (.int low), .ml ds, .dat (.int fac), .dat (encQ r), .dat (encQ q), .dat (.int r.num), .dat (.int r.den), .dat (.int q.num), .dat (.int q.den), .un, .un])) ?_
  · by_cases hz : q.num = 0
    · exact run_ifF (et_andF ((et_test (ed_neI (ed_var 10 rfl) (ed_int 0))).is (by rw [hz]; rfl))) run_next
    · have hq0 : q ≠ 0 := fun z => hz (by rw [z]; rfl)
      exact run_ifF ((et_and (et_test (ed_neI (ed_var 10 rfl) (ed_int 0))) (fun _ => et_notT (et_B (ed_call (x := ⟨r / q, r.num * q.den, r.den * q.num⟩) (ea_d (ed_callX (x := (r, q)) (ea_d (ed_var 6 rfl) (ea_d (ed_var 7 rfl) ea_nil)) rfl ⟨hr4, hq4⟩ (if_neg hq0)) (ea_d (ed_I (ed_var 8 rfl) (ed_var 11 rfl) (hr.num.mulx hq.den (by decide))) (ea_d (ed_I (ed_var 9 rfl) (ed_var 10 rfl) (hr.den.mulx hq.num (by decide))) ea_nil))) rfl ⟨⟨Int.mul_ne_zero (den_ne r) hz, (hr.den.mul hq.num).mono (by decide), (hr.num.mul hq.den).mono (by decide)⟩, (div_is r q hq0).symm⟩)))).is (by rw [Bool.and_false])) run_next
  -- is_less
  refine .n (run_for (ts := [12]) (fun _ => [.scr a, .dat (.int k), .dat (.int top), .dat (.int low), .ml ds, .dat (.int fac), .dat (encQ r), .dat (encQ q), .dat (.int r.num), .dat (.int r.den), .dat (.int q.num), .dat (.int q.den), .un, .un]) (ei_list (en_lst (ds := [.tuple [encQ r, encQ q], .tuple [encQ q, encQ r], .tuple [encQ r, encQ r]]) (ea_d (ed_tup (ds := [encQ r, encQ q]) (ea_d (ed_var 6 rfl) (ea_d (ed_var 7 rfl) ea_nil))) (ea_d (ed_tup (ds := [encQ q, encQ r]) (ea_d (ed_var 7 rfl) (ea_d (ed_var 6 rfl) ea_nil))) (ea_d (ed_tup (ds := [encQ r, encQ r]) (ea_d (ed_var 6 rfl) (ea_d (ed_var 6 rfl) ea_nil))) ea_nil)))).d) (Less.refl _) (fun i d hi hd => ⟨_, (eg_name (by decide)), ?_⟩)) ?_
  · have hd : ∃ x y, Qb 4000 x ∧ Qb 4000 y ∧ d = .tuple [encQ x, encQ y] := by
      match i, hd with
      | 0, hd => exact ⟨r, q, hr4, hq4, (Option.some.inj hd).symm⟩
      | 1, hd => exact ⟨q, r, hq4, hr4, (Option.some.inj hd).symm⟩
      | 2, hd => exact ⟨r, r, hr4, hr4, (Option.some.inj hd).symm⟩
    obtain ⟨x, y, hx, hy, rfl⟩ := hd
    refine .seq (run_set (ed_call (x := (x, y)) (ea_d (ed_ixT (ed_var 12 rfl) (ed_int 0) rfl) (ea_d (ed_ixT (ed_var 12 rfl) (ed_int 1) rfl) ea_nil)) rfl ⟨hx, hy⟩)) ?_
    refine .n (run_ifF (et_orF (et_notT (et_B (ed_isi (ed_var 13 rfl).p (by exact kit_bb)))) ((et_test (ed_neB (ed_var 13 rfl) (ed_call (x := (x, y)) (ea_d (ed_ixT (ed_var 12 rfl) (ed_int 0) rfl) (ea_d (ed_ixT (ed_var 12 rfl) (ed_int 1) rfl) ea_nil)) rfl ⟨hx, hy⟩))).is (by rw [decide_eq_true rfl]; rfl))) run_next) ?_
    exact .eq (.eq (.eq (.eq (.eq (.eq (.eq (.eq (.eq (.eq (.eq (.eq (.un (.un .nil)))))))))))))
  · exact .eq (.un (.un (.un (.un (.un (.un (.un (.un (.un (.un (.un (.un (.un .nil)))))))))))))

end
end KP

namespace KP
open PySem L2 DL MX
theorem law_start {K : PySem.W.Frag} {H : Hp} {a : Addr} {ns : List Int} (hl : ns.length ≤ 63) (hS : SqL K H a (ns.map V.int)) : sp_law K [.ref a] H (fun v _ => v = .bl true) fun _ _ _ => False :=
  ⟨ns, H, Same.refl _, .cons rfl ⟨a, rfl, hS⟩ .nil, hl, fun _ _ _ _ hv => hv.bl_inv⟩
/-! ### what the top has written -/
theorem all_mk {l : PySem.W.OpenLaw} {w : World} {K : PySem.W.Frag} {h : Heap} {mg : Str → Option Value} {fa : Addr} {od0 an0 : Option Addr} {sl0 : Array (Option Value)} {oc0 kV0 dc0 pm0 cd0 ct0 : Value} {f0 : Addr}
    {od1 an1 : Option Addr} {sl1 : Array (Option Value)} {oc1 kV1 dc1 pm1 cd1 ct1 : Value} {f1 : Addr}
    {od2 an2 : Option Addr} {sl2 : Array (Option Value)} {oc2 kV2 dc2 pm2 cd2 ct2 : Value} {f2 : Addr}
    {od3 an3 : Option Addr} {sl3 : Array (Option Value)} {oc3 kV3 dc3 pm3 cd3 ct3 : Value} {f3 : Addr}
    {od4 an4 : Option Addr} {sl4 : Array (Option Value)} {oc4 kV4 dc4 pm4 cd4 ct4 : Value} {f4 : Addr}
    {od5 an5 : Option Addr} {sl5 : Array (Option Value)} {oc5 kV5 dc5 pm5 cd5 ct5 : Value} {f5 : Addr}
    {od6 an6 : Option Addr} {sl6 : Array (Option Value)} {oc6 kV6 dc6 pm6 cd6 ct6 : Value} {f6 : Addr}
    {od7 an7 : Option Addr} {sl7 : Array (Option Value)} {oc7 kV7 dc7 pm7 cd7 ct7 : Value} {f7 : Addr}
    {od8 an8 : Option Addr} {sl8 : Array (Option Value)} {oc8 kV8 dc8 pm8 cd8 ct8 : Value} {f8 : Addr}
    {od9 an9 : Option Addr} {sl9 : Array (Option Value)} {oc9 kV9 dc9 pm9 cd9 ct9 : Value} {f9 : Addr}
    {od10 an10 : Option Addr} {sl10 : Array (Option Value)} {oc10 kV10 dc10 pm10 cd10 ct10 : Value} {f10 : Addr}
    {od11 an11 : Option Addr} {sl11 : Array (Option Value)} {oc11 kV11 dc11 pm11 cd11 ct11 : Value} {f11 : Addr}
    {od12 an12 : Option Addr} {sl12 : Array (Option Value)} {oc12 kV12 dc12 pm12 cd12 ct12 : Value} {f12 : Addr}
    {od13 an13 : Option Addr} {sl13 : Array (Option Value)} {oc13 kV13 dc13 pm13 cd13 ct13 : Value} {f13 : Addr}
    {od14 an14 : Option Addr} {sl14 : Array (Option Value)} {oc14 kV14 dc14 pm14 cd14 ct14 : Value} {f14 : Addr}
    {C : Addr}
    {C1 : Addr}
    {C2 : Addr}
    {C3 : Addr} (X : K.In h) (G : h.Ns mainGlobals mg) (hfa : mg "law" = some (.ref fa))
    (a0 : PySem.W.nsIn K mainGlobals "fraction" = some (some (.ref f0))) (l0 : K.lookup f0 = some ⟨oc0, od0, .func (PySem.W.fnOf "fraction" "fraction" (defArgs s_fraction) (defBody s_fraction) (defScope s_fraction) .none kV0 dc0 pm0 an0 cd0 ct0), sl0⟩) (c0 : PySem.W.codeIn K cd0 "fraction" = true) (k0 : PySem.W.keepIn K (.ref f0) = true)
    (a1 : PySem.W.nsIn K mainGlobals "plus" = some (some (.ref f1))) (l1 : K.lookup f1 = some ⟨oc1, od1, .func (PySem.W.fnOf "plus" "plus" (defArgs s_plus) (defBody s_plus) (defScope s_plus) .none kV1 dc1 pm1 an1 cd1 ct1), sl1⟩) (c1 : PySem.W.codeIn K cd1 "plus" = true) (k1 : PySem.W.keepIn K (.ref f1) = true)
    (a2 : PySem.W.nsIn K mainGlobals "minus" = some (some (.ref f2))) (l2 : K.lookup f2 = some ⟨oc2, od2, .func (PySem.W.fnOf "minus" "minus" (defArgs s_minus) (defBody s_minus) (defScope s_minus) .none kV2 dc2 pm2 an2 cd2 ct2), sl2⟩) (c2 : PySem.W.codeIn K cd2 "minus" = true) (k2 : PySem.W.keepIn K (.ref f2) = true)
    (a3 : PySem.W.nsIn K mainGlobals "times" = some (some (.ref f3))) (l3 : K.lookup f3 = some ⟨oc3, od3, .func (PySem.W.fnOf "times" "times" (defArgs s_times) (defBody s_times) (defScope s_times) .none kV3 dc3 pm3 an3 cd3 ct3), sl3⟩) (c3 : PySem.W.codeIn K cd3 "times" = true) (k3 : PySem.W.keepIn K (.ref f3) = true)
    (a4 : PySem.W.nsIn K mainGlobals "over" = some (some (.ref f4))) (l4 : K.lookup f4 = some ⟨oc4, od4, .func (PySem.W.fnOf "over" "over" (defArgs s_over) (defBody s_over) (defScope s_over) .none kV4 dc4 pm4 an4 cd4 ct4), sl4⟩) (c4 : PySem.W.codeIn K cd4 "over" = true) (k4 : PySem.W.keepIn K (.ref f4) = true)
    (a5 : PySem.W.nsIn K mainGlobals "is_less" = some (some (.ref f5))) (l5 : K.lookup f5 = some ⟨oc5, od5, .func (PySem.W.fnOf "is_less" "is_less" (defArgs s_is_less) (defBody s_is_less) (defScope s_is_less) .none kV5 dc5 pm5 an5 cd5 ct5), sl5⟩) (c5 : PySem.W.codeIn K cd5 "is_less" = true) (k5 : PySem.W.keepIn K (.ref f5) = true)
    (a6 : PySem.W.nsIn K mainGlobals "_law_cell" = some (some (.ref f6))) (l6 : K.lookup f6 = some ⟨oc6, od6, .func (PySem.W.fnOf "_law_cell" "_law_cell" (defArgs s__law_cell) (defBody s__law_cell) (defScope s__law_cell) .none kV6 dc6 pm6 an6 cd6 ct6), sl6⟩) (c6 : PySem.W.codeIn K cd6 "_law_cell" = true) (k6 : PySem.W.keepIn K (.ref f6) = true)
    (a7 : PySem.W.nsIn K mainGlobals "_law_draws" = some (some (.ref f7))) (l7 : K.lookup f7 = some ⟨oc7, od7, .func (PySem.W.fnOf "_law_draws" "_law_draws" (defArgs s__law_draws) (defBody s__law_draws) (defScope s__law_draws) .none kV7 dc7 pm7 an7 cd7 ct7), sl7⟩) (c7 : PySem.W.codeIn K cd7 "_law_draws" = true) (k7 : PySem.W.keepIn K (.ref f7) = true)
    (a8 : PySem.W.nsIn K mainGlobals "_law_gcd" = some (some (.ref f8))) (l8 : K.lookup f8 = some ⟨oc8, od8, .func (PySem.W.fnOf "_law_gcd" "_law_gcd" (defArgs s__law_gcd) (defBody s__law_gcd) (defScope s__law_gcd) .none kV8 dc8 pm8 an8 cd8 ct8), sl8⟩) (c8 : PySem.W.codeIn K cd8 "_law_gcd" = true) (k8 : PySem.W.keepIn K (.ref f8) = true)
    (a9 : PySem.W.nsIn K mainGlobals "_law_fraction" = some (some (.ref f9))) (l9 : K.lookup f9 = some ⟨oc9, od9, .func (PySem.W.fnOf "_law_fraction" "_law_fraction" (defArgs s__law_fraction) (defBody s__law_fraction) (defScope s__law_fraction) .none kV9 dc9 pm9 an9 cd9 ct9), sl9⟩) (c9 : PySem.W.codeIn K cd9 "_law_fraction" = true) (k9 : PySem.W.keepIn K (.ref f9) = true)
    (a10 : PySem.W.nsIn K mainGlobals "_law_less" = some (some (.ref f10))) (l10 : K.lookup f10 = some ⟨oc10, od10, .func (PySem.W.fnOf "_law_less" "_law_less" (defArgs s__law_less) (defBody s__law_less) (defScope s__law_less) .none kV10 dc10 pm10 an10 cd10 ct10), sl10⟩) (c10 : PySem.W.codeIn K cd10 "_law_less" = true) (k10 : PySem.W.keepIn K (.ref f10) = true)
    (a11 : PySem.W.nsIn K mainGlobals "_law_no_low" = some (some (.ref f11))) (l11 : K.lookup f11 = some ⟨oc11, od11, .func (PySem.W.fnOf "_law_no_low" "_law_no_low" (defArgs s__law_no_low) (defBody s__law_no_low) (defScope s__law_no_low) .none kV11 dc11 pm11 an11 cd11 ct11), sl11⟩) (c11 : PySem.W.codeIn K cd11 "_law_no_low" = true) (k11 : PySem.W.keepIn K (.ref f11) = true)
    (a12 : PySem.W.nsIn K mainGlobals "_law_no_over" = some (some (.ref f12))) (l12 : K.lookup f12 = some ⟨oc12, od12, .func (PySem.W.fnOf "_law_no_over" "_law_no_over" (defArgs s__law_no_over) (defBody s__law_no_over) (defScope s__law_no_over) .none kV12 dc12 pm12 an12 cd12 ct12), sl12⟩) (c12 : PySem.W.codeIn K cd12 "_law_no_over" = true) (k12 : PySem.W.keepIn K (.ref f12) = true)
    (a13 : PySem.W.nsIn K mainGlobals "_law_is" = some (some (.ref f13))) (l13 : K.lookup f13 = some ⟨oc13, od13, .func (PySem.W.fnOf "_law_is" "_law_is" (defArgs s__law_is) (defBody s__law_is) (defScope s__law_is) .none kV13 dc13 pm13 an13 cd13 ct13), sl13⟩) (c13 : PySem.W.codeIn K cd13 "_law_is" = true) (k13 : PySem.W.keepIn K (.ref f13) = true)
    (a14 : PySem.W.nsIn K mainGlobals "law" = some (some (.ref f14))) (l14 : K.lookup f14 = some ⟨oc14, od14, .func (PySem.W.fnOf "law" "law" (defArgs s_law) (defBody s_law) (defScope s_law) .none kV14 dc14 pm14 an14 cd14 ct14), sl14⟩) (c14 : PySem.W.codeIn K cd14 "law" = true) (k14 : PySem.W.keepIn K (.ref f14) = true)
    (z_len : PySem.W.nsIn K mainGlobals "len" = some none)
    (z_int : PySem.W.nsIn K mainGlobals "int" = some none)
    (z_abs : PySem.W.nsIn K mainGlobals "abs" = some none)
    (z_range : PySem.W.nsIn K mainGlobals "range" = some none)
    (z_isinstance : PySem.W.nsIn K mainGlobals "isinstance" = some none)
    (z_any : PySem.W.nsIn K mainGlobals "any" = some none)
    (z_tuple : PySem.W.nsIn K mainGlobals "tuple" = some none)
    (z_bool : PySem.W.nsIn K mainGlobals "bool" = some none)
    (z_ValueError : PySem.W.nsIn K mainGlobals "ValueError" = some none)
    (g_C : PySem.W.nsIn K mainGlobals "OutOfRange" = some (some (.ref C)))
    (ex_C : PySem.W.excIn K C [.type "ValueError", .type "Exception", .type "BaseException", .type "object"] "ValueError.__new__" = true)
    (kp_C : PySem.W.keepIn K (.ref C) = true)
    (sub_C : PySem.W.subIn K (.ref C) (.type "BaseException") = some true)
    (ty_C : PySem.W.typeIn K (.ref C) = some (.type "type"))
    (hg_C : PySem.W.findIn K (.ref C) "__getattribute__" = some (some (.builtin "BaseException.__getattribute__")))
    (hk_C : PySem.W.findIn K (.ref C) "__getattr__" = some none)
    (hd_C : PySem.W.hasDictIn K C = true)
    (ha_C : PySem.W.findIn K (.ref C) "__class__" = some (some (.builtin "object.__class__")))
    (hn_C : PySem.W.specialIn K (.builtin "object.__class__") "__get__" = some (some (.builtin "getset_descriptor.__get__")))
    (ht_C : PySem.W.takesIn K (.builtin "object.__class__") = some true)
    (hm_C : PySem.W.mroIn K C (.type "object") = some true)
    (self_C : PySem.W.subIn K (.ref C) (.ref C) = some true)
    (g_C1 : PySem.W.nsIn K mainGlobals "CofferError" = some (some (.ref C1)))
    (g_C2 : PySem.W.nsIn K mainGlobals "BadSpread" = some (some (.ref C2)))
    (g_C3 : PySem.W.nsIn K mainGlobals "BadHouse" = some (some (.ref C3)))
    (q_gcd : PySem.W.nsIn K mainGlobals "gcd" = some (some (.builtin "math.gcd")))
    (kk1 : PySem.W.kitOne K (.ref C) (.ref C1) = some true)
    (kkv : PySem.W.kitOne K (.ref C) (.type "ValueError") = some true)
    (kk2 : PySem.W.kitAny K (.ref C) [.ref C2, .ref C3] = some false) :
    ∃ fd : FuncData, (∀ (s : Shared) (v : Value), BindsTo s fd ⟨[v], []⟩ [("script", v)]) ∧ ∀ base : Heap, K.In base → base.Ns mainGlobals mg → FnOk l.prog w K mg base CX0 4 fa fd ["script"] (sp_law K) := by
  have e := hfa.symm.trans (PySem.W.mg_of X G a14)
  cases e
  have m_len : mg "len" = none := PySem.W.mg_none_of X G z_len
  have m_int : mg "int" = none := PySem.W.mg_none_of X G z_int
  have m_abs : mg "abs" = none := PySem.W.mg_none_of X G z_abs
  have m_range : mg "range" = none := PySem.W.mg_none_of X G z_range
  have m_isinstance : mg "isinstance" = none := PySem.W.mg_none_of X G z_isinstance
  have m_any : mg "any" = none := PySem.W.mg_none_of X G z_any
  have m_tuple : mg "tuple" = none := PySem.W.mg_none_of X G z_tuple
  have m_bool : mg "bool" = none := PySem.W.mg_none_of X G z_bool
  have m_ValueError : mg "ValueError" = none := PySem.W.mg_none_of X G z_ValueError
  have M_C := PySem.W.mg_of X G g_C
  have e_C : ErrC K mg "OutOfRange" C := ⟨M_C, ex_C, kp_C, sub_C, ty_C, ⟨hg_C, hk_C, sub_C, hd_C, ha_C, hn_C, ht_C, hm_C⟩, self_C⟩
  have M_C1 := PySem.W.mg_of X G g_C1
  have M_C2 := PySem.W.mg_of X G g_C2
  have M_C3 := PySem.W.mg_of X G g_C3
  have m_gcd := PySem.W.mg_of X G q_gcd
  have F_fraction := fun_mk (st := s_fraction) l0 c0 k0
  have F_plus := fun_mk (st := s_plus) l1 c1 k1
  have F_minus := fun_mk (st := s_minus) l2 c2 k2
  have F_times := fun_mk (st := s_times) l3 c3 k3
  have F_over := fun_mk (st := s_over) l4 c4 k4
  have F_is_less := fun_mk (st := s_is_less) l5 c5 k5
  have F__law_cell := fun_mk (st := s__law_cell) l6 c6 k6
  have F__law_draws := fun_mk (st := s__law_draws) l7 c7 k7
  have F__law_gcd := fun_mk (st := s__law_gcd) l8 c8 k8
  have F__law_fraction := fun_mk (st := s__law_fraction) l9 c9 k9
  have F__law_less := fun_mk (st := s__law_less) l10 c10 k10
  have F__law_no_low := fun_mk (st := s__law_no_low) l11 c11 k11
  have F__law_no_over := fun_mk (st := s__law_no_over) l12 c12 k12
  have F__law_is := fun_mk (st := s__law_is) l13 c13 k13
  have F_law := fun_mk (st := s_law) l14 c14 k14
  refine ⟨PySem.W.fnOf "law" "law" (defArgs s_law) (defBody s_law) (defScope s_law) .none kV14 dc14 pm14 an14 cd14 ct14, fun s v => .of_eq rfl, fun base _ _ => ?_⟩
  have C_fraction : Callee l.prog w K mg base (L2.CX l.prog w) 1 "fraction" ["top", "low"] (sp_fraction K C) := ⟨f0, _, ok_fraction F_fraction m_gcd e_C, PySem.W.mg_of X G a0, k0, F_fraction.binds (ps := ["top", "low"]) fun _ _ _ _ _ _ us hl => match us, hl with | [_, _], _ => rfl⟩
  have C_plus : Callee l.prog w K mg base CX0 2 "plus" ["first", "second"] (sp_plus K) := ⟨f1, _, ok_plus F_plus C_fraction, PySem.W.mg_of X G a1, k1, F_plus.binds (ps := ["first", "second"]) fun _ _ _ _ _ _ us hl => match us, hl with | [_, _], _ => rfl⟩
  have C_minus : Callee l.prog w K mg base CX0 3 "minus" ["first", "second"] (sp_minus K) := ⟨f2, _, ok_minus F_minus C_plus, PySem.W.mg_of X G a2, k2, F_minus.binds (ps := ["first", "second"]) fun _ _ _ _ _ _ us hl => match us, hl with | [_, _], _ => rfl⟩
  have C_times : Callee l.prog w K mg base CX0 2 "times" ["first", "second"] (sp_times K) := ⟨f3, _, ok_times F_times C_fraction, PySem.W.mg_of X G a3, k3, F_times.binds (ps := ["first", "second"]) fun _ _ _ _ _ _ us hl => match us, hl with | [_, _], _ => rfl⟩
  have C_over : Callee l.prog w K mg base (L2.CX l.prog w) 2 "over" ["first", "second"] (sp_over K C) := ⟨f4, _, ok_over F_over C_fraction, PySem.W.mg_of X G a4, k4, F_over.binds (ps := ["first", "second"]) fun _ _ _ _ _ _ us hl => match us, hl with | [_, _], _ => rfl⟩
  have C_is_less : Callee l.prog w K mg base CX0 1 "is_less" ["first", "second"] (sp_is_less K) := ⟨f5, _, ok_is_less F_is_less, PySem.W.mg_of X G a5, k5, F_is_less.binds (ps := ["first", "second"]) fun _ _ _ _ _ _ us hl => match us, hl with | [_, _], _ => rfl⟩
  have C__law_cell : Callee l.prog w K mg base CX0 1 "_law_cell" ["script", "k"] (sp__law_cell K) := ⟨f6, _, ok__law_cell F__law_cell m_len m_int, PySem.W.mg_of X G a6, k6, F__law_cell.binds (ps := ["script", "k"]) fun _ _ _ _ _ _ us hl => match us, hl with | [_, _], _ => rfl⟩
  have C__law_draws : Callee l.prog w K mg base CX0 1 "_law_draws" ["cell", "limits"] (sp__law_draws K) := ⟨f7, _, ok__law_draws F__law_draws m_abs m_int, PySem.W.mg_of X G a7, k7, F__law_draws.binds (ps := ["cell", "limits"]) fun _ _ _ _ _ _ us hl => match us, hl with | [_, _], _ => rfl⟩
  have C__law_gcd : Callee l.prog w K mg base CX0 1 "_law_gcd" ["a", "b"] (sp__law_gcd K) := ⟨f8, _, ok__law_gcd F__law_gcd m_abs m_int m_range, PySem.W.mg_of X G a8, k8, F__law_gcd.binds (ps := ["a", "b"]) fun _ _ _ _ _ _ us hl => match us, hl with | [_, _], _ => rfl⟩
  have C__law_fraction : Callee l.prog w K mg base CX0 2 "_law_fraction" ["top", "low"] (sp__law_fraction K) := ⟨f9, _, ok__law_fraction F__law_fraction C__law_gcd, PySem.W.mg_of X G a9, k9, F__law_fraction.binds (ps := ["top", "low"]) fun _ _ _ _ _ _ us hl => match us, hl with | [_, _], _ => rfl⟩
  have C__law_less : Callee l.prog w K mg base CX0 1 "_law_less" ["first", "second"] (sp__law_less K) := ⟨f10, _, ok__law_less F__law_less, PySem.W.mg_of X G a10, k10, F__law_less.binds (ps := ["first", "second"]) fun _ _ _ _ _ _ us hl => match us, hl with | [_, _], _ => rfl⟩
  have C__law_no_low : Callee l.prog w K mg base CX0 2 "_law_no_low" ["top"] (sp__law_no_low K) := ⟨f11, _, ok__law_no_low F__law_no_low ⟨e_C, M_C1, M_C2, M_C3, m_ValueError, kk1, kkv, kk2⟩ m_isinstance C_fraction, PySem.W.mg_of X G a11, k11, F__law_no_low.binds (ps := ["top"]) fun _ _ _ _ _ _ us hl => match us, hl with | [_], _ => rfl⟩
  have C__law_no_over : Callee l.prog w K mg base CX0 3 "_law_no_over" ["first"] (sp__law_no_over K) := ⟨f12, _, ok__law_no_over F__law_no_over ⟨e_C, M_C1, M_C2, M_C3, m_ValueError, kk1, kkv, kk2⟩ m_isinstance C_over, PySem.W.mg_of X G a12, k12, F__law_no_over.binds (ps := ["first"]) fun _ _ _ _ _ _ us hl => match us, hl with | [_], _ => rfl⟩
  have C__law_is : Callee l.prog w K mg base CX0 3 "_law_is" ["actual", "top", "low"] (sp__law_is K) := ⟨f13, _, ok__law_is F__law_is m_isinstance m_any m_tuple m_bool C__law_fraction, PySem.W.mg_of X G a13, k13, F__law_is.binds (ps := ["actual", "top", "low"]) fun _ _ _ _ _ _ us hl => match us, hl with | [_, _, _], _ => rfl⟩
  exact ok_law (C := C) (C1 := C1) (C2 := C2) (C3 := C3) F_law m_len m_int m_range m_isinstance m_bool C_fraction C_plus C_minus C_times C_over C_is_less C__law_cell C__law_draws C__law_fraction C__law_less C__law_is C__law_no_low C__law_no_over
end KP
open PySem PySem.W PyProof.Rows
set_option maxHeartbeats 0 in
theorem PySem.Challenge.cw_lastcoffer_k01_fractions_computed_holds : PySem.Challenge.rw_lastcoffer_k01_fractions_computed.Holds := by
  w_on; o_law; k_head; (case hw => w_witness2)
  k_fill
  refine L2.walk_of (l := PySem.Challenge.rw_lastcoffer_k01_fractions_computed) (n := 63) (k := 4) (x := "script") (CX := fun _ => L2.CX0) (sp := fun w => KP.sp_law _) rfl (by decide) rfl ⟨rfl, by decide, by decide⟩ (fun w h Y => PySem.W.kIn_of Y) ?F (fun _ _ a ns hl _ hS => KP.law_start hl hS) (fun _ _ _ _ _ h => h)
  case F =>
    intro w mg fa h KX G hmg
    refine' KP.all_mk KX G hmg ?a0 ?l0 ?c0 ?k0 ?a1 ?l1 ?c1 ?k1 ?a2 ?l2 ?c2 ?k2 ?a3 ?l3 ?c3 ?k3 ?a4 ?l4 ?c4 ?k4 ?a5 ?l5 ?c5 ?k5 ?a6 ?l6 ?c6 ?k6 ?a7 ?l7 ?c7 ?k7 ?a8 ?l8 ?c8 ?k8 ?a9 ?l9 ?c9 ?k9 ?a10 ?l10 ?c10 ?k10 ?a11 ?l11 ?c11 ?k11 ?a12 ?l12 ?c12 ?k12 ?a13 ?l13 ?c13 ?k13 ?a14 ?l14 ?c14 ?k14 ?z_len ?z_int ?z_abs ?z_range ?z_isinstance ?z_any ?z_tuple ?z_bool ?z_ValueError ?g_C ?ex_C ?kp_C ?sub_C ?ty_C ?hg_C ?hk_C ?hd_C ?ha_C ?hn_C ?ht_C ?hm_C ?self_C ?g_C1 ?g_C2 ?g_C3 ?q_gcd ?kk1 ?kkv ?kk2
    (case a0 => first | k_is | k_exc | rfl)
    (case l0 => first | k_is | k_exc | rfl)
    (case c0 => first | k_is | k_exc | rfl)
    (case k0 => first | k_is | k_exc | rfl)
    (case a1 => first | k_is | k_exc | rfl)
    (case l1 => first | k_is | k_exc | rfl)
    (case c1 => first | k_is | k_exc | rfl)
    (case k1 => first | k_is | k_exc | rfl)
    (case a2 => first | k_is | k_exc | rfl)
    (case l2 => first | k_is | k_exc | rfl)
    (case c2 => first | k_is | k_exc | rfl)
    (case k2 => first | k_is | k_exc | rfl)
    (case a3 => first | k_is | k_exc | rfl)
    (case l3 => first | k_is | k_exc | rfl)
    (case c3 => first | k_is | k_exc | rfl)
    (case k3 => first | k_is | k_exc | rfl)
    (case a4 => first | k_is | k_exc | rfl)
    (case l4 => first | k_is | k_exc | rfl)
    (case c4 => first | k_is | k_exc | rfl)
    (case k4 => first | k_is | k_exc | rfl)
    (case a5 => first | k_is | k_exc | rfl)
    (case l5 => first | k_is | k_exc | rfl)
    (case c5 => first | k_is | k_exc | rfl)
    (case k5 => first | k_is | k_exc | rfl)
    (case a6 => first | k_is | k_exc | rfl)
    (case l6 => first | k_is | k_exc | rfl)
    (case c6 => first | k_is | k_exc | rfl)
    (case k6 => first | k_is | k_exc | rfl)
    (case a7 => first | k_is | k_exc | rfl)
    (case l7 => first | k_is | k_exc | rfl)
    (case c7 => first | k_is | k_exc | rfl)
    (case k7 => first | k_is | k_exc | rfl)
    (case a8 => first | k_is | k_exc | rfl)
    (case l8 => first | k_is | k_exc | rfl)
    (case c8 => first | k_is | k_exc | rfl)
    (case k8 => first | k_is | k_exc | rfl)
    (case a9 => first | k_is | k_exc | rfl)
    (case l9 => first | k_is | k_exc | rfl)
    (case c9 => first | k_is | k_exc | rfl)
    (case k9 => first | k_is | k_exc | rfl)
    (case a10 => first | k_is | k_exc | rfl)
    (case l10 => first | k_is | k_exc | rfl)
    (case c10 => first | k_is | k_exc | rfl)
    (case k10 => first | k_is | k_exc | rfl)
    (case a11 => first | k_is | k_exc | rfl)
    (case l11 => first | k_is | k_exc | rfl)
    (case c11 => first | k_is | k_exc | rfl)
    (case k11 => first | k_is | k_exc | rfl)
    (case a12 => first | k_is | k_exc | rfl)
    (case l12 => first | k_is | k_exc | rfl)
    (case c12 => first | k_is | k_exc | rfl)
    (case k12 => first | k_is | k_exc | rfl)
    (case a13 => first | k_is | k_exc | rfl)
    (case l13 => first | k_is | k_exc | rfl)
    (case c13 => first | k_is | k_exc | rfl)
    (case k13 => first | k_is | k_exc | rfl)
    (case a14 => first | k_is | k_exc | rfl)
    (case l14 => first | k_is | k_exc | rfl)
    (case c14 => first | k_is | k_exc | rfl)
    (case k14 => first | k_is | k_exc | rfl)
    (case z_len => first | k_is | k_exc | rfl)
    (case z_int => first | k_is | k_exc | rfl)
    (case z_abs => first | k_is | k_exc | rfl)
    (case z_range => first | k_is | k_exc | rfl)
    (case z_isinstance => first | k_is | k_exc | rfl)
    (case z_any => first | k_is | k_exc | rfl)
    (case z_tuple => first | k_is | k_exc | rfl)
    (case z_bool => first | k_is | k_exc | rfl)
    (case z_ValueError => first | k_is | k_exc | rfl)
    (case g_C => first | k_is | k_exc | rfl)
    (case ex_C => first | k_is | k_exc | rfl)
    (case kp_C => first | k_is | k_exc | rfl)
    (case sub_C => first | k_is | k_exc | rfl)
    (case ty_C => first | k_is | k_exc | rfl)
    (case hg_C => first | k_is | k_exc | rfl)
    (case hk_C => first | k_is | k_exc | rfl)
    (case hd_C => first | k_is | k_exc | rfl)
    (case ha_C => first | k_is | k_exc | rfl)
    (case hn_C => first | k_is | k_exc | rfl)
    (case ht_C => first | k_is | k_exc | rfl)
    (case hm_C => first | k_is | k_exc | rfl)
    (case self_C => first | k_is | k_exc | rfl)
    (case g_C1 => first | k_is | k_exc | rfl)
    (case g_C2 => first | k_is | k_exc | rfl)
    (case g_C3 => first | k_is | k_exc | rfl)
    (case q_gcd => first | k_is | k_exc | rfl)
    (case kk1 => first | k_is | k_exc | rfl)
    (case kkv => first | k_is | k_exc | rfl)
    (case kk2 => first | k_is | k_exc | rfl)

