import PyProof.Rows.All
import Wide.All
import OpenK.AllK
import Wide.FinOn
import HandS.ForMost
import HandS.IsInst
import HandS.Style
import HandS.StrMore
import HandS.Wide
import PyProof.ReprRoads
import PyProof.StrOps2
import PyProof.StrLawsRepr
import HandS.ForExc
import HandS.ExcIs
import HandS.ExcInit
import HandS.ExcField
import HandS.HotCalls
import HandS.DeepEq
import HandS.More
import HandS.Walk
import HandS.Small
import HandS.Set
import PyProof.SetRoads
import HandS.SetBool
import PyProof.FactsAll.set_1
import PyProof.Draws
import HandS.Zip0
import HandS.DictComp
import KE.GoesZip
import HandS.TryOnly
import HandS.WrittenGet
import HandS.TupAny
import HandS.Property
import KE.KDictWalk
import HandS.Iter
import PyProof.Tail
import KE.KEqNest
import HandS.Conv
import HandS.ExcOwn
import HandS.OwnEq
import PyProof.InstEq
import KE.SortCalls
import PyProof.SeqRoads
import PySem.Challenge.RW_farapart_k23_procedures_told
set_option Elab.async false
set_option linter.all false
set_option maxRecDepth 100000
set_option maxHeartbeats 1000000
/-! what the laws of this program share: defs that are called while no repr is under way -/
namespace Fv
open PySem PySem.Spec PyProof.Rows L2
structure FnG (P : Program) (w : World) (K : PySem.W.Frag) (mg : Str → Option Value) (base : Heap) (k : Nat) (f : Addr) (fd : FuncData) (ps : List Str) (sp : Sp) : Prop where
  wide : ∀ xs H Q E, sp xs H Q E → xs.length = ps.length
  go : ∀ (A : Around) (fr : List Env) (s : Shared) (H : Hp) (us : List Value) (xs : List V) (Q : VK) (E : XK), A.guards = some [] → Room k A → Env0 P w K mg base A fr s H →
    (∀ t : Shared, BindsTo t fd ⟨us, []⟩ (ps.zip us)) → Vals xs us → sp xs H Q E → codeAny (model P w) A (.call (.ref f) ⟨us, []⟩) (CR CX0 fr P w H s Q E) s
def BindG (fd : FuncData) (ps : List Str) : Prop := ∀ us : List Value, us.length = ps.length → ∀ t : Shared, BindsTo t fd ⟨us, []⟩ (ps.zip us)
theorem bindG_of {K : PySem.W.Frag} {x qual : Str} {st : Stmt} {f : Addr} {fd : FuncData} {ps : List Str} (F : Fun K x qual st f fd)
    (h : ∀ (kV doc pm : Value) (an : Option Addr) (cdv ct : Value) (us : List Value), us.length = ps.length → bindArgs (PySem.W.fnOf x qual (defArgs st) (defBody st) (defScope st) .none kV doc pm an cdv ct) ⟨us, []⟩ = pure (ps.zip us)) : BindG fd ps := by
  obtain ⟨oc, od, kV, doc, pm, an, cdv, ct, osl, rfl, lk, hcd⟩ := F.ex
  exact fun us hl t => BindsTo.of_eq (h kV doc pm an cdv ct us hl)
section
variable {P : Program} {w : World} {K : PySem.W.Frag} {mg : Str → Option Value} {base : Heap}
/-- every plain promise holds so, too -/
theorem FnG.of {k : Nat} {f : Addr} {fd : FuncData} {ps : List Str} {sp : Sp} (F : FnOk P w K mg base CX0 k f fd ps sp) : FnG P w K mg base k f fd ps sp :=
  ⟨F.len, fun A fr s H us xs Q E _ hr e0 hb r h => F.run A fr s H ⟨us, []⟩ us xs Q E hr e0 (hb s) r h⟩
theorem okG {x qual : Str} {st : Stmt} {f : Addr} {fd : FuncData} {N ps : List Str} {k : Nat} {sp : Sp} (F : Fun K x qual st f fd) (S : FnScope N ps (defScope st)) (wide : ∀ xs H Q E, sp xs H Q E → xs.length = ps.length)
    (body : ∀ (cdv : Value) (A : Around) (fr : List Env) (s : Shared) (H : Hp) (xs : List V) (Q : VK) (E : XK), A.guards = some [] → Room k (A.deeper (envOfC qual (defScope st) s.heap.objs.size f cdv)) → sp xs H Q E →
      ∃ t, PSs (cxOf CX0 P w K mg base N qual (defScope st) f cdv A fr s H E).nox (defBody st) t ∧ t { nx := fun _ H' => Q .non H', rt := Q } (start N xs) H) : FnG P w K mg base (k + 1) f fd ps sp := by
  obtain ⟨oc, od, kV, doc, pm, an, cdv, ct, osl, rfl, lk, hcd⟩ := F.ex
  refine ⟨wide, fun A fr s H us xs Q E hg hr e0 hb r hs => ?_⟩
  have old : ∀ b o, base.get? b = some o → s.heap.get? b = some o := fun b o e => (e0.bs b o e).1
  have inK : K.In s.heap := e0.mod.kin.keeps old
  have kinds : ∀ y ∈ ps.zip us, (defScope st).names.lookup y.1 = some .local ∨ ((defScope st).names.lookup y.1 = some .cell ∧ ((cellsFrom (s.heap.objs.size + 1) (defScope st).names []).lookup y.1).isSome = true) := by
    rintro ⟨n, v⟩ hy
    rcases S.par n (List.of_mem_zip hy).1 with q | q
    · exact Or.inl q
    · exact Or.inr ⟨q, PySem.W.cellsFrom_some _ _ _ (Or.inl q)⟩
  refine codeAny_call_function hr.depth (inK _ _ lk) rfl S.co S.gen rfl (PySem.W.codeRec_of inK hcd) (hb _ _ _ _ _ ?_)
  refine wpAny_newFunctionEnv_cells S.kind kinds fun env he s1 ic => ?_
  subst he
  refine ⟨(e0.mod.nolimit.keeps old).keeps ic.toInCall.keep, codeAny_func ?_⟩
  obtain ⟨t, ht, hq⟩ := body cdv A fr s H xs Q E hg (hr.deeper _) hs
  have I := inv_start (CX := CX0) (E := E) S hr.hd e0 (wide _ _ _ _ hs) r ic
  refine wpAny_mono (ht.nox.run [] s1 (start N xs) H _ I hq) (fun fl s' z => ?_) fun _ _ z => z
  cases fl with
  | ret u =>
    obtain ⟨v, σ', H', J, rv, q⟩ := z
    exact ⟨v, H', J.os, J.bare, J.base, J.hok, rv, q⟩
  | next =>
    obtain ⟨σ', H', J, q⟩ := z
    exact ⟨V.non, H', J.os, J.bare, J.base, J.hok, rfl, q⟩
  | brk =>
    obtain ⟨_, _, _, q⟩ := z
    exact q.elim
  | cont =>
    obtain ⟨_, _, _, q⟩ := z
    exact q.elim
end
section
variable {X : Cx} {k : Nat} {f : Addr} {fd : FuncData} {ps : List Str} {sp : Sp} {x : Str} {p pos : Pos} {e : Expr} {es : List Expr} {t : TA}
/-- f(e, ..) where no repr is under way -/
theorem pe_callG (F : FnG X.prog X.w X.K X.mg X.base k f fd ps sp) (hgd : X.A.guards = some []) (hr : Room k X.A) (hg : Gl X x) (hm : X.mg x = some (.ref f)) (hk : PySem.W.keepIn X.K (.ref f) = true) (hbs : BindG fd ps)
    (ha : PA X (e :: es) t) (hdb : (x == ("__debug__" : Str)) = false := by decide) (he : starEach (e :: es) X.env = (false, eval e X.env) :: starEach es X.env := by rfl) (hpl : (backTo pos (starEach es X.env)).any (·.1) = false := by rfl) :
    PE X (.Call (.Name x p) (e :: es) [] pos) (fun σ H Q => t σ H fun vs H1 => sp vs H1 Q E0) := by
  refine ⟨fun pins s σ H Q I h => wpAny_Call_Name_kw (ld_glob I hg hm ?_ hdb)⟩
  refine PySem.W.callWith_K (h₀ := X.base) I.ok.mod.kin hk (thn (ha.run pos pins s σ H _ I h) fun us s1 ⟨vs, H1, I1, r, q⟩ => ⟨I1.kIn, ?_⟩) he hpl
  have hl : us.length = ps.length := by rw [← r.length]; exact F.wide _ _ _ _ q
  refine wpAny_call (codeAny_mono (F.go X.A X.stack s1 H1 us vs Q E0 hgd hr I1.env0 (hbs us hl) r q) fun res s' hq => ?_)
  cases res with
  | error e => exact False.elim hq
  | ok fl =>
    cases fl with
    | ret u => exact I1.after hq
    | next => exact False.elim hq
    | brk => exact False.elim hq
    | cont => exact False.elim hq
end
section
variable {P : Program} {w : World} {K : PySem.W.Frag} {mg mb : Str → Option Value} {k : Nat} {fa a : Addr} {fd : FuncData} {x : Str} {sp : Sp} {s1 : Shared} {vs : List Value} {ns : List Int}
/-- the law's call: nothing but the script is tracked at its entry -/
theorem law_callG (KX : K.In s1.heap) (hns : s1.heap.Ns mainGlobals mg) (hb : s1.heap.Ns builtinsNs mb) (hbb : ∀ x : Str, x ≠ "__name__" → mb x = bootBuiltins x) (hlim : s1.heap.NoLimit) (hg : s1.gens = #[])
    (ha : s1.heap.get? a = some { cls := .type "list", data := .seq vs.toArray }) (hi : IntsAre vs ns) (hl : ns.length ≤ sizeLine) (hr : Room k callerA)
    (F : ∀ base : Heap, K.In base → base.Ns mainGlobals mg → FnG P w K mg base k fa fd [x] sp) (hbind : ∀ (s : Shared) (u : Value), BindsTo s fd ⟨[u], []⟩ [(x, u)])
    (hsp : ∀ H : Hp, Only H → SqL K H a (ns.map V.int) → sp [.ref a] H (fun v _ => v = .bl true) E0) :
    codeAny (model P w) callerA (.call (.ref fa) ⟨[.ref a], []⟩) (fun r s' => r = .ok (.ret (.bool true)) ∧ OldK s1.heap s'.heap ∧ s'.os = s1.os ∧ AllBare s'.gens) s1 := by
  have rv := vals_ints hi
  have hlen := hi.length
  have go : ∀ H : Hp, Only H → SqL K H a (ns.map V.int) → HOk P w H s1.heap → (∀ b, H b ≠ none → b = a ∧ K.lookup a = none) →
      codeAny (model P w) callerA (.call (.ref fa) ⟨[.ref a], []⟩) (fun r s' => r = .ok (.ret (.bool true)) ∧ OldK s1.heap s'.heap ∧ s'.os = s1.os ∧ AllBare s'.gens) s1 := by
    intro H only hS hok hA
    have free : ∀ {b : Addr} {o : Obj}, s1.heap.get? b = some o → (∀ z, o.data ≠ .seq vs.toArray z) → H b = none := by
      intro b o e d
      cases q : H b with
      | none => rfl
      | some u =>
        obtain ⟨rfl, _⟩ := hA b (by rw [q]; exact fun z => nomatch z)
        rw [ha] at e
        cases e
        exact (d _ rfl).elim
    have ns : ∀ {b : Addr} {m : Str → Option Value}, s1.heap.Ns b m → (hidT s1.heap H).Ns b m := by
      rintro b m ⟨o, es, ep, e, d, r⟩
      exact ⟨o, es, ep, hidT_get e (free e fun z q => by rw [d] at q; exact nomatch q), d, r⟩
    have inB : K.In (hidT s1.heap H) := by
      intro b o e
      refine hidT_get (KX b o e) ?_
      cases q : H b with
      | none => rfl
      | some u =>
        obtain ⟨rfl, n⟩ := hA b (by rw [q]; exact fun z => nomatch z)
        rw [n] at e
        exact nomatch e
    obtain ⟨mc, c1, c2⟩ := hlim
    have e0 : Env0 P w K mg (hidT s1.heap H) callerA [] s1 H :=
      ⟨rfl, ⟨inB, ns hns, ⟨mb, ns hb, hbb⟩, ⟨mc, ns c1, c2⟩⟩, fun b o e => of_hidT e, Nat.le_of_eq (hidT_size _ _), trivial, fun b z => absurd (show b ∈ ([] : List Addr) from z) List.not_mem_nil, hok, .of_eq hg⟩
    refine codeAny_mono ((F _ inB (ns hns)).go callerA [] s1 H [.ref a] [.ref a] _ _ rfl hr e0 (fun t => hbind t (.ref a)) (.cons rfl .nil) (hsp H only hS)) fun r s' h => ?_
    cases r with
    | error e => exact False.elim h
    | ok fl =>
      cases fl with
      | next => exact False.elim h
      | brk => exact False.elim h
      | cont => exact False.elim h
      | ret u =>
        obtain ⟨v, H', os, bare, un, hok', rr, q⟩ := h
        obtain rfl : v = .bl true := q
        obtain rfl : u = Value.bool true := rr
        refine ⟨rfl, OldK.of_keep fun b o e => ?_, os, bare⟩
        rcases only b with z | ⟨ob, xs, z⟩
        · exact un.keep b o e z (fun z => absurd (show b ∈ ([] : List Addr) from z) List.not_mem_nil) List.not_mem_nil
        · obtain ⟨e1, _⟩ := hok b _ z
          obtain ⟨e2, _⟩ := hok' b _ (un.frzs b ob _ z)
          rw [e] at e1
          cases e1
          exact e2
  cases hk : K.lookup a with
  | some o =>
    have e := KX a o hk
    rw [ha] at e
    cases e
    exact go (fun _ => none) (fun _ => Or.inl rfl) (.inr ⟨_, vs.toArray, _, hk, rfl, rfl, rfl, by rw [List.size_toArray, hlen]; exact hl, by simpa using rv⟩) (fun b u z => nomatch z) fun b z => absurd rfl z
  | none =>
    refine go (fun b => if b = a then some (.frz { cls := .type "list", data := .seq vs.toArray } (.lst (ns.map V.int))) else none) (fun b => ?_) (.inl (.inr ⟨_, if_pos rfl⟩)) (fun b u z => ?_) fun b z => ?_
    · by_cases hb : b = a
      · exact Or.inr ⟨_, _, if_pos hb⟩
      · exact Or.inl (if_neg hb)
    · by_cases hb : b = a
      · subst hb
        simp only [if_true] at z
        cases z
        exact ⟨ha, by rw [List.length_map]; exact hl, vs, _, rv, ha⟩
      · simp only [if_neg hb] at z
        cases z
    · by_cases hb : b = a
      · exact ⟨hb, hk⟩
      · exact absurd (if_neg hb) z
end
theorem walk_G {l : PySem.W.OpenLaw} {n k : Nat} {q : Program} {loose : List Str} {XP : (Str → Option Value) → Heap → Prop} {YP : World → Heap → Prop} {d : DefRec} {K : Params → PySem.W.Frag} {sp : PySem.W.Frag → Sp} {x : Str}
    (hn : l.most = some n) (hn2 : n ≤ sizeLine) (hdf : d.params.defaults = []) (hr : Room k callerA) (hY : ∀ (w : World) (h : Heap), YP w h → (K w.params).In h)
    (F : ∀ (w : World) (mg : Str → Option Value) (fa : Addr) (h : Heap), (K w.params).In h → h.Ns mainGlobals mg → mg d.name = some (.ref fa) →
      ∃ fd : FuncData, (∀ (s : Shared) (u : Value), BindsTo s fd ⟨[u], []⟩ [(x, u)]) ∧ ∀ base : Heap, (K w.params).In base → base.Ns mainGlobals mg → FnG l.prog w (K w.params) mg base k fa fd [x] (sp (K w.params)))
    (hsp : ∀ (K : PySem.W.Frag) (H : Hp) (a : Addr) (ns : List Int), ns.length ≤ n → Only H → SqL K H a (ns.map V.int) → sp K [.ref a] H (fun v _ => v = .bl true) E0) :
    PySem.W.WalkO q loose XP YP l.row.toRowW d [] (fun f vs => PySem.call f vs) := by
  refine Att.attach_call hn hdf fun w s₀ s1 mg mb fa o pm cd doc a vs ns G Y ho hd hcd hmg hobj hints hlen hg => ?_
  obtain ⟨fd, hb, hF⟩ := F w mg fa _ (hY w _ Y) G.T.g hmg
  exact law_callG (hY w _ Y) G.T.g G.T.b G.T.builtins G.T.nolimit hg hobj hints (Nat.le_trans hlen hn2) hr hF hb fun H hO hS => hsp (K w.params) H a ns hlen hO hS
end Fv


set_option Elab.async false
set_option linter.all false
set_option maxRecDepth 100000
set_option maxHeartbeats 1000000
namespace Fv
open PySem PySem.Spec PyProof.Rows L2
/-! ### data at a value: own lists stand away from the bag (b) -/
mutual
inductive Dq (H : Hp) (b : Addr) : V → PyData → Prop
  | non : Dq H b .non .none
  | bl (x : Bool) : Dq H b (.bl x) (.bool x)
  | int (i : Int) : Dq H b (.int i) (.int i)
  | str (x : Str) : Dq H b (.str x) (.str x)
  | lst {a : Addr} {xs : List V} {ds : List PyData} : H a = some (.lst xs) → a ≠ b → a ≠ sysModules → DqAll H b xs ds → Dq H b (.ref a) (.list ds)
  | tup {a : Addr} {xs : List V} {ds : List PyData} : H a = some (.tup xs) → a ≠ b → DqAll H b xs ds → Dq H b (.ref a) (.tuple ds)
  | dct {a : Addr} {kvs : List (Key × V)} {ps : List (PyData × PyData)} : H a = some (.dK kvs) → a ≠ b → DqAll H b (kvs.map fun p => kV p.1) (ps.map (·.1)) → DqAll H b (kvs.map (·.2)) (ps.map (·.2)) → Dq H b (.ref a) (.dict ps)
inductive DqAll (H : Hp) (b : Addr) : List V → List PyData → Prop
  | nil : DqAll H b [] []
  | cons {v : V} {vs : List V} {d : PyData} {ds : List PyData} : Dq H b v d → DqAll H b vs ds → DqAll H b (v :: vs) (d :: ds)
end
mutual
theorem Dq.mono {H H' : Hp} {b : Addr} (k : ∀ a o, a ≠ b → H a = some o → H' a = some o) : ∀ {v : V} {d : PyData}, Dq H b v d → Dq H' b v d
  | _, _, .non => .non
  | _, _, .bl x => .bl x
  | _, _, .int i => .int i
  | _, _, .str x => .str x
  | _, _, .lst e n m h => .lst (k _ _ n e) n m (DqAll.mono k h)
  | _, _, .tup e n h => .tup (k _ _ n e) n (DqAll.mono k h)
  | _, _, .dct e n h h' => .dct (k _ _ n e) n (DqAll.mono k h) (DqAll.mono k h')
theorem DqAll.mono {H H' : Hp} {b : Addr} (k : ∀ a o, a ≠ b → H a = some o → H' a = some o) : ∀ {v : List V} {d : List PyData}, DqAll H b v d → DqAll H' b v d
  | _, _, .nil => .nil
  | _, _, .cons h t => .cons (Dq.mono k h) (DqAll.mono k t)
end
theorem kV_rel {k : Key} {v : Value} (h : keyIs k v = true) : RelV (kV k) v := by
  rcases keyIs_shape h with ⟨i, t, rfl, rfl⟩ | ⟨x, t, rfl, rfl⟩
  · exact ⟨t, rfl⟩
  · exact ⟨t, rfl⟩
theorem pairs_keys {P : Program} {w : World} : ∀ {kvs : List (Key × V)} {vs : List (Key × Value)} {es : List DictEntry}, KV kvs vs → Pairs (mixKind P w) es vs → Vals (kvs.map fun p => kV p.1) (es.map (·.key))
  | _, _, _, .nil, .nil => .nil
  | _, _, _, .cons r t, .cons h _ q => .cons (by
    have e := r.1
    show RelV (kV _) _
    rw [e]
    exact kV_rel h) (pairs_keys t q)
theorem pairs_vals {P : Program} {w : World} : ∀ {kvs : List (Key × V)} {vs : List (Key × Value)} {es : List DictEntry}, KV kvs vs → Pairs (mixKind P w) es vs → Vals (kvs.map (·.2)) (es.map (·.val))
  | _, _, _, .nil, .nil => .nil
  | _, _, _, .cons r t, .cons _ h q => .cons (by
    show RelV _ (DictEntry.val _)
    rw [h]
    exact r.2) (pairs_vals t q)
section
variable {X : Cx} {pins : List (Addr × Obj)} {σ : L2.St} {H : Hp} {s : Shared} {b : Addr}
mutual
theorem Dq.reads (I : Inv X pins σ H s) : ∀ {v : V} {d : PyData} {u : Value}, Dq H b v d → RelV v u → ∃ as, Reads s.heap u d as ∧ sysModules ∉ as
  | _, _, _, .non, r => by
    cases r
    exact ⟨_, .none, List.not_mem_nil⟩
  | _, _, _, .bl x, r => by
    cases r
    exact ⟨_, .bool x, List.not_mem_nil⟩
  | _, _, _, .int i, r => by
    obtain ⟨t, rfl⟩ := r
    exact ⟨_, .int i t, List.not_mem_nil⟩
  | _, _, _, .str x, r => by
    obtain ⟨t, rfl⟩ := r
    exact ⟨_, .str x t, List.not_mem_nil⟩
  | _, _, _, .lst (a := a) e _ m h, r => by
    cases r
    obtain ⟨_, its, n, rv, he⟩ := (show ObjOk X.prog X.w H s.heap a (.lst _) from I.hok a _ e)
    obtain ⟨as, q, z⟩ := DqAll.reads I h rv
    exact ⟨_, .list he rfl rfl (by simpa using q), fun y => (List.mem_cons.mp y).elim (fun w => m w.symm) z⟩
  | _, _, _, .tup (a := a) e _ h, r => by
    cases r
    obtain ⟨_, its, rv, o, he, hc, n, hd⟩ := (show ObjOk X.prog X.w H s.heap a (.tup _) from I.hok a _ e)
    obtain ⟨as, q, z⟩ := DqAll.reads I h rv
    exact ⟨_, .tuple he hc hd (by simpa using q), z⟩
  | _, _, _, .dct (a := a) e _ h h', r => by
    cases r
    obtain ⟨_, m, vs, rel, o, es, ep, he, hx, hd, _, hp, _⟩ := (show ObjOk X.prog X.w H s.heap a (.dK _) from I.hok a _ e)
    have k1 : Vals (_ : List V) (es.toList.map (·.key)) := pairs_keys rel hp
    have k2 : Vals (_ : List V) (es.toList.map (·.val)) := pairs_vals rel hp
    obtain ⟨as, q, z⟩ := DqAll.reads I h k1
    obtain ⟨bs, q', z'⟩ := DqAll.reads I h' k2
    exact ⟨_, .dict he hx.1 hd q q', fun y => by
      rcases List.mem_append.mp y with y | y
      · rcases List.mem_cons.mp y with w | w
        · rw [← w] at m
          simp at m
        · exact z w
      · exact z' y⟩
theorem DqAll.reads (I : Inv X pins σ H s) : ∀ {v : List V} {d : List PyData} {u : List Value}, DqAll H b v d → Vals v u → ∃ as, ReadsAll s.heap u d as ∧ sysModules ∉ as
  | _, _, _, .nil, r => by
    cases r
    exact ⟨_, .nil, List.not_mem_nil⟩
  | _, _, _, .cons h t, r => by
    cases r with
    | cons r1 r2 =>
      obtain ⟨as, q, z⟩ := Dq.reads I h r1
      obtain ⟨bs, q', z'⟩ := DqAll.reads I t r2
      exact ⟨_, .cons q q', fun y => (List.mem_append.mp y).elim z z'⟩
end
end
/-! ### rules -/
/-- repr of data -/
def rRepr : List V → Hp → VK → Prop := fun xs H Q => ∃ (b : Addr) (v : V) (d : PyData), xs = [v] ∧ Dq H b v d ∧ d.showable = true ∧ d.shown.length ≤ sizeLine ∧ d.depth ≤ 20 ∧ Q (.str d.shown) H
section
variable {X : Cx}
theorem call_reprD (hg : X.A.guards = some []) (hu : X.A.units + 64 < cLine) : CallR X (.builtin "repr") rRepr := by
  intro pins s σ H xs us Q I r h
  obtain ⟨b, v, d, rfl, hd, hs, hz, hdp, q⟩ := h
  cases r with
  | cons r rr =>
    cases rr
    rename_i u
    obtain ⟨as, rd, ns⟩ := Dq.reads I hd r
    cases rd with
    | none => exact PySem.P.repr_of_none ⟨.str _, H, I.tok _, ⟨_, rfl⟩, q⟩
    | bool x => exact PySem.P.repr_of_bool ⟨.str _, H, I.tok _, ⟨_, rfl⟩, q⟩
    | int i t => exact PySem.P.repr_of_int (by simpa [PyData.showable] using hs) ⟨.str _, H, I.tok _, ⟨_, rfl⟩, q⟩
    | str x t => exact PySem.P.repr_of_str ⟨.str _, H, I.tok _, ⟨_, rfl⟩, q⟩ (by simpa only [PyData.shown] using hz)
    | list a1 a2 a3 a4 => exact repr_of_reads' (.list a1 a2 a3 a4) hs (fun _ => ns) hg (by omega) (fun _ _ e => e) (fun h' u tk k => ⟨.str _, H, I.kept (h' := h') (t' := tk) k, ⟨_, rfl⟩, q⟩) hz
    | tuple a1 a2 a3 a4 => exact repr_of_reads' (.tuple a1 a2 a3 a4) hs (fun _ => ns) hg (by omega) (fun _ _ e => e) (fun h' u tk k => ⟨.str _, H, I.kept (h' := h') (t' := tk) k, ⟨_, rfl⟩, q⟩) hz
    | dict a1 a2 a3 a4 a5 => exact repr_of_reads' (.dict a1 a2 a3 a4 a5) hs (fun _ => ns) hg (by omega) (fun _ _ e => e) (fun h' u tk k => ⟨.str _, H, I.kept (h' := h') (t' := tk) k, ⟨_, rfl⟩, q⟩) hz
/-- xs[j] at a written or reckoned place, for op= -/
def rGetL (K : PySem.W.Frag) : V → V → Hp → VK → Prop := fun x y H Q => ∃ (p : Addr) (xs : List V) (j : Nat) (v : V), x = .ref p ∧ y = .int j ∧ SqL K H p xs ∧ xs[j]? = some v ∧ Q v H
theorem pget_list : PGet X (rGetL X.K) := by
  intro pins s σ H o i ov iv Q I ro ri h
  obtain ⟨p, xs, j, v, rfl, rfl, hq, he, q⟩ := h
  cases ro
  obtain ⟨t, rfl⟩ := ri
  obtain ⟨its, r, pl, hz⟩ := I.list hq
  obtain ⟨w, ew, rw'⟩ := r.get he
  have h1 : j < xs.length := (List.getElem?_eq_some_iff.mp he).1
  have h2 : sizeLine < 2 ^ 63 := by decide
  exact wpAny_getItem_list pl.isList (by omega) (by omega) (by simpa using ew) ⟨v, H, I, rw', q⟩
/-- '0' * n -/
def zeros (n : Nat) : Str := ⟨(List.replicate n #[48]).foldl (· ++ ·) #[]⟩
def rZeros : R2 := fun x y H Q => ∃ n : Nat, x = .str "0" ∧ y = .int n ∧ n < 64 ∧ Q (.str (zeros n)) H
theorem zeros_len : ∀ n : Nat, n < 64 → (zeros n).length = n := by decide +kernel
theorem op_zeros : OpR X (binaryOp .Mult) rZeros := by
  intro pins s σ H x y v u Q I rx ry h
  obtain ⟨n, rfl, rfl, hn, q⟩ := h
  obtain ⟨t, rfl⟩ := rx
  obtain ⟨t', rfl⟩ := ry
  have fin : EP X pins σ Q (.str (zeros n) s.toks) { s with toks := s.toks + 1 } := ⟨.str _, H, I.tok _, ⟨_, rfl⟩, q⟩
  refine PySem.P.mul_str (by rw [decide_eq_false (by omega), decide_eq_false (by omega)]; rfl) (fun _ _ => ?_) (fun _ _ => ?_) ?_
  · have : ("0" : Str).length = 1 := by decide +kernel
    rw [this]
    have h3 : (1 : Int) ≤ (2 ^ 63 - 1) / (n : Int) := by
      rename_i a b
      exact Int.le_ediv_of_mul_le (by omega) (by omega)
    omega
  · have : ("0" : Str).length = 1 := by decide +kernel
    rw [this]
    have hz := (by decide : 64 < sizeLine)
    simp only [Nat.one_mul, Int.toNat_natCast]
    unfold Builtin.Str.tooLong
    exact decide_eq_false (by omega)
  · by_cases h0 : n = 0
    · subst h0
      exact ⟨by decide, fin⟩
    · rw [if_neg (by omega)]
      by_cases h1 : n = 1
      · subst h1
        exact ⟨.str _, H, I, ⟨t, rfl⟩, q⟩
      · rw [if_neg (by
          have : ((n : Int) == 1) = false := by simpa using (by omega : ¬ ((n : Int) = 1))
          rw [this]
          decide)]
        exact ⟨by show (zeros n).length ≤ _; rw [zeros_len n hn]; have hz := (by decide : 64 < sizeLine); omega, fin⟩
end
/-! ### types of data -/
def tyN : PyData → String
  | .none => "NoneType"
  | .bool _ => "bool"
  | .int _ => "int"
  | .str _ => "str"
  | .list _ => "list"
  | .tuple _ => "tuple"
  | .dict _ => "dict"
theorem Dq.ty {K : PySem.W.Frag} {H : Hp} {b : Addr} {v : V} {d : PyData} (h : Dq H b v d) : TyX K H v (.type (tyN d)) := by
  cases h with
  | non => exact .base .non
  | bl x => exact .base (.bl x)
  | int i => exact .base (.int i)
  | str x => exact .base (.str x)
  | lst e _ _ _ => exact .base (.lst e)
  | tup e _ _ => exact .base (.tup e)
  | dct e _ _ _ => exact .base (.dK e)
def isStrD : PyData → Bool
  | .str _ => true
  | _ => false
def isBoolD : PyData → Bool
  | .bool _ => true
  | _ => false
def isIntD : PyData → Bool
  | .int _ => true
  | .bool _ => true
  | _ => false
theorem kit_str {K : PySem.W.Frag} (d : PyData) : PySem.W.kitOne K (.type (tyN d)) (.type "str") = some (isStrD d) := by
  cases d
  · exact kit_ty (a := "NoneType") (b := "str") (r := false) (by decide +kernel)
  · exact kit_ty (a := "bool") (b := "str") (r := false) (by decide +kernel)
  · exact kit_ty (a := "int") (b := "str") (r := false) (by decide +kernel)
  · exact kit_ty (a := "str") (b := "str") (r := true) (by decide +kernel)
  · exact kit_ty (a := "list") (b := "str") (r := false) (by decide +kernel)
  · exact kit_ty (a := "tuple") (b := "str") (r := false) (by decide +kernel)
  · exact kit_ty (a := "dict") (b := "str") (r := false) (by decide +kernel)
theorem kit_bool {K : PySem.W.Frag} (d : PyData) : PySem.W.kitOne K (.type (tyN d)) (.type "bool") = some (isBoolD d) := by
  cases d
  · exact kit_ty (a := "NoneType") (b := "bool") (r := false) (by decide +kernel)
  · exact kit_ty (a := "bool") (b := "bool") (r := true) (by decide +kernel)
  · exact kit_ty (a := "int") (b := "bool") (r := false) (by decide +kernel)
  · exact kit_ty (a := "str") (b := "bool") (r := false) (by decide +kernel)
  · exact kit_ty (a := "list") (b := "bool") (r := false) (by decide +kernel)
  · exact kit_ty (a := "tuple") (b := "bool") (r := false) (by decide +kernel)
  · exact kit_ty (a := "dict") (b := "bool") (r := false) (by decide +kernel)
theorem kit_int {K : PySem.W.Frag} (d : PyData) : PySem.W.kitOne K (.type (tyN d)) (.type "int") = some (isIntD d) := by
  cases d
  · exact kit_ty (a := "NoneType") (b := "int") (r := false) (by decide +kernel)
  · exact kit_ty (a := "bool") (b := "int") (r := true) (by decide +kernel)
  · exact kit_ty (a := "int") (b := "int") (r := true) (by decide +kernel)
  · exact kit_ty (a := "str") (b := "int") (r := false) (by decide +kernel)
  · exact kit_ty (a := "list") (b := "int") (r := false) (by decide +kernel)
  · exact kit_ty (a := "tuple") (b := "int") (r := false) (by decide +kernel)
  · exact kit_ty (a := "dict") (b := "int") (r := false) (by decide +kernel)
end Fv


set_option Elab.async false
set_option linter.all false
set_option maxRecDepth 100000
set_option maxHeartbeats 1000000
namespace Fv
open PySem PySem.Spec PyProof.Rows L2
section
variable {X : Cx} {es : List Expr} {t : TA} {pos : Pos}
/-- a written list; its place is none of the first ones -/
def tLstB (t : TA) : TE := fun σ H Q => t σ H fun xs H1 => xs.length ≤ sizeLine ∧ ∀ p, H1 p = none → p ≠ sysModules → Q (.ref p) (upd H1 p (.lst xs))
theorem pe_lstB (h : PA X es t) : PE X (.List es pos) (tLstB t) := by
  refine ⟨fun pins s σ H Q I hq => wpAny_List_spliced (thn (h.run pos pins s σ H _ I hq) fun us s1 e => ?_)⟩
  obtain ⟨xs, H1, I1, r, z, q⟩ := e
  have z' : us.length ≤ sizeLine := by rw [← r.length]; exact z
  have J : Inv X pins σ (upd H1 s1.heap.objs.size (.lst xs)) { s1 with heap := s1.heap.push { cls := .type "list", data := .seq us.toArray } } :=
    I1.laid (t' := s1.toks) (fun _ _ e => Heap.get?_push_of_some _ e) (Nat.le_refl _) ⟨z, us, 0, r, Heap.get?_push_size _ rfl⟩
  exact ⟨z', .ref _, _, J, rfl, q _ (I1.hok.fresh (Nat.le_refl _)) (Nat.ne_of_gt I1.big)⟩
end
theorem DqAll.get {H : Hp} {b : Addr} : ∀ {vs : List V} {ds : List PyData} {j : Nat} {v : V}, DqAll H b vs ds → vs[j]? = some v → ∃ d, d ∈ ds ∧ Dq H b v d
  | _, _, _, _, .nil, e => by simp at e
  | _, _, 0, _, .cons h _, e => by
    simp at e
    subst e
    exact ⟨_, List.mem_cons_self, h⟩
  | _, _, j + 1, _, .cons _ t, e => by
    obtain ⟨d, m, h⟩ := DqAll.get t (j := j) (by simpa using e)
    exact ⟨d, List.mem_cons_of_mem _ m, h⟩
/-! ### what is fine to be shown -/
structure Fine (d : PyData) : Prop where
  show_ : d.showable = true
  len : d.shown.length ≤ 20000
  deep : d.depth ≤ 3
def okS (z : Str) : Prop := z.length ≤ 1000 ∧ ∀ c ∈ z.cps.toList, c < 128
theorem okS.repr {z : Str} (h : okS z) : (reprText z).length ≤ 10010 := by
  have := StrLaws.reprText_len z fun c hc => Nat.lt_of_lt_of_le (h.2 c hc) (by decide)
  have := h.1
  omega
theorem Fine.str {z : Str} (h : okS z) : Fine (.str z) := ⟨by simp [PyData.showable], by simp only [PyData.shown]; have := h.repr; omega, by simp [PyData.depth]⟩
theorem Fine.one_tup {z : Str} (h : okS z) : Fine (.tuple [.str z]) := by
  refine ⟨by simp [PyData.showable, PyData.showableAll], ?_, by simp [PyData.depth, PyData.depthAll]⟩
  have e : (PyData.tuple [.str z]).shown = tupleText [reprText z] := by simp [PyData.shown, PyData.shownAll]
  rw [e]
  have hr := h.repr
  have e2 : ∀ x : Str, (tupleText [x]).length = 1 + x.length + 2 := fun x => by
    unfold tupleText
    rw [strLen_append, strLen_append]
    rfl
  rw [e2]
  omega
theorem Fine.one_lst {z : Str} (h : okS z) : Fine (.list [.str z]) := by
  refine ⟨by simp [PyData.showable, PyData.showableAll], ?_, by simp [PyData.depth, PyData.depthAll]⟩
  have e : (PyData.list [.str z]).shown = listText [reprText z] := by simp [PyData.shown, PyData.shownAll]
  rw [e]
  have hr := h.repr
  have e2 : ∀ x : Str, (listText [x]).length = 1 + x.length + 1 := fun x => by
    unfold listText
    rw [strLen_append]
    have e3 : textFrom 0 "[" [x] = ("[" : Str) ++ x := rfl
    rw [e3, strLen_append]
    rfl
  rw [e2]
  omega
theorem Fine.one_dct {z : Str} (h : okS z) : Fine (.dict [(.str z, .int 1)]) := by
  refine ⟨by simp only [PyData.showable, PyData.showableKv]; decide, ?_, by simp [PyData.depth, PyData.depthKv]⟩
  have e : (PyData.dict [(.str z, .int 1)]).shown = dictText [reprText z ++ ": " ++ (toString (1 : Int) : String)] := by simp [PyData.shown, PyData.shownKv]
  rw [e]
  have hr := h.repr
  have e2 : ∀ x : Str, (dictText [x]).length = 1 + x.length + 1 := fun x => by
    unfold dictText
    rw [strLen_append, strLen_append]
    rfl
  have e3 : ((toString (1 : Int) : String) : Str).length = 1 := by decide +kernel
  have e4 : ((": " : String) : Str).length = 2 := by decide +kernel
  rw [e2, strLen_append, strLen_append, e3, e4]
  omega
end Fv


set_option Elab.async false
set_option linter.all false
set_option maxRecDepth 100000
set_option maxHeartbeats 1000000
/-! own errors: what a caught one is an instance of, its fields; defs that are called with it in an except suite -/
namespace Fv
open PySem PySem.Spec PyProof.Rows L2
section
open PySem.W PySem.Calls
variable {prog : Program} {w : World} {A : Around} {E : Value → Shared → Prop} {s : Shared} {K : Frag} {x D : Addr} {ox : Obj} {od : Option Obj}
theorem bound_data {a g : Value} {name : Str} (c : (clsIn K D).isSome = true) (fa : findIn K (.ref D) name = some (some a)) (fg : specialIn K a "__get__" = some (some g)) (ft : takesIn K a = some true) : findObj K D od name = some (.bind g a) := by
  obtain ⟨cd, c⟩ := Option.isSome_iff_exists.mp c
  unfold findObj
  rw [c, Option.bind_some, fa, Option.bind_some]
  simp [fg, ft]
theorem class_of_exc {Q : Option Value → Shared → Prop} (T : ExcC K D) (X : K.In s.heap) (I : InstAt s.heap x ox D od) (h : Q (some (.ref D)) { s with toks := s.toks + 1 }) : wpAny (model prog w) A (getAttr? (.ref x) "__class__") Q E s := by
  have fo : findObj K D od "__class__" = some (.bind (.builtin "getset_descriptor.__get__") (.builtin "object.__class__")) :=
    bound_data (by obtain ⟨cd, e, _⟩ := any_some T.hd; rw [e]; rfl) T.ha T.hn T.ht
  obtain ⟨hp, g, d, t, os⟩ := s
  have M0 := I.type (M := model prog w)
  have M1 := looks_findIn (M := model prog w) X T.hg
  have M2 := looks_findIn (M := model prog w) X T.hk
  have M3 := looks_find (M := model prog w) X I fo
  have sb : Looks (model prog w) hp (isInstance (.ref x) (.type "BaseException")) true := M0.andThen (looks_subIn X T.hs)
  have n2 : (Value.builtin "BaseException.__getattribute__" == Value.builtin "object.__getattribute__") = false := by decide +kernel
  have n1 : (onTheHeap (Value.ref D) && Value.builtin "BaseException.__getattribute__" == Value.builtin "object.__getattribute__") = false := by rw [n2]; rfl
  have n0 : (false && onTheHeap (Value.builtin "BaseException.__getattribute__")) = false := rfl
  unfold getAttr? getAttrBy? getAttrBy
  refine wpAny_bind (wpAny_mkText (wpAny_bind (wpAny_attempt (wpAny_holding (wpAny_bind (M0.at (wpAny_bind (M1.at ?_))))))))
  show wpAny _ _ (ite ((onTheHeap (Value.ref D) && Value.builtin "BaseException.__getattribute__" == Value.builtin "object.__getattribute__") = true) _ _) _ _ _
  rw [n1, if_neg Bool.false_ne_true]
  unfold getAttrByItsOwn hookBefore
  refine wpAny_bind ?_
  have on : onTheHeap (Value.ref D) = true := rfl
  rw [if_pos on]
  refine M2.at (wpAny_bind (wpAny_attempt (wpAny_holding ?_)))
  unfold callGetattribute
  rw [n0, if_neg Bool.false_ne_true]
  unfold boundAndCalled
  rw [PySem.F.excAttr_ValueError.ga.bind (.ref x)]
  refine wpAny_bind (wpAny_pure ?_)
  show wpAny _ _ (call (.builtin "BaseException.__getattribute__") [.ref x, .str "__class__" t]) _ _ _
  refine wpAny_call (codeAny_call_builtin PySem.F.excAttr_ValueError.ga.plain PySem.F.entry_bexc_ga (@check_slot (model prog w) _ _ ⟨hp, g, d, t + 1, os⟩ "BaseException.__getattribute__" "BaseException" "__getattribute__" (.ref x) [.str "__class__" t] [] _ (by decide +kernel) (by decide +kernel) sb (PySem.F.args_bexc_ga (.ref x) (.str "__class__" t)) ?_))
  unfold Builtin.«object.__getattribute__»
  refine wpAny_bind (wpAny_of_eq (a := ((Value.ref x : Value), [Value.str "__class__" t])) (by first | rfl | (simp only [slotArgs]; rfl)) (wpAny_bind (wpAny_pure (wpAny_bind (M0.at (wpAny_bind (M3.at ?_)))))))
  show wpAny _ _ (holding [Value.builtin "object.__class__"] (call (.builtin "getset_descriptor.__get__") [.builtin "object.__class__", .ref x, .ref D]) >>= ret) _ _ _
  refine wpAny_bind (wpAny_holding (wpAny_call (class_get (s := ⟨hp, g, d, t + 1, os⟩) (ox := ox) (od := od) X I T.hm (wpAny_pure ?_))))
  show wpAny _ _ (handedOut (.ref D)) _ _ _
  rw [handedOut_of (v := .ref D) rfl]
  first
    | exact wpAny_pure (wpAny_pure h)
    | exact wpAny_pure h
    | exact wpAny_pure (wpAny_bind (wpAny_pure (wpAny_pure h)))
theorem kit_exc (T : ExcC K D) : KitX K (.ref x) (.ref D) (fun h => ∃ od, InstAt h x ox D od) where
  ty := fun _ _ _ I => I.elim fun _ I => I.type
  it := fun _ _ X _ => by
    obtain ⟨cd, e, _⟩ := any_some T.hd
    unfold clsIn at e
    split at e
    · rename_i ho
      intro A' Q' E' s' k q
      unfold isType loadHead
      exact wpAny_bind (wpAny_loadPart (k _ _ (X _ _ ho)) (wpAny_pure q))
    · cases e
  ne := fun h tp dd its n sl X htp => by
    obtain ⟨cd, e, _⟩ := any_some T.hd
    refine Bool.eq_false_iff.mpr fun q => ?_
    have eq : D = tp := Value.ref.inj (beq_iff_eq.mp q)
    subst eq
    unfold clsIn at e
    split at e
    · rename_i ho
      have z := (X _ _ ho).symm.trans htp
      cases z
    · cases e
  ca := fun X I k => I.elim fun _ I => class_of_exc T X I k
end
end Fv
namespace Fv
open PySem PySem.Spec PyProof.Rows L2
/-- called while an exception, p, is handled: it stands in the state, out of what is tracked -/
structure FnP (P : Program) (w : World) (K : PySem.W.Frag) (mg : Str → Option Value) (base : Heap) (k : Nat) (f : Addr) (fd : FuncData) (ps : List Str) (sp : Addr → Value → Option Addr → Sp) : Prop where
  wide : ∀ a c d xs H Q E, sp a c d xs H Q E → xs.length = ps.length
  go : ∀ (A : Around) (fr : List Env) (s : Shared) (H : Hp) (us : List Value) (xs : List V) (Q : VK) (E : XK) (p : Addr × Obj), L2H.RoomH k A → L2H.PinOk fr H s p → (∃ vs, p.2.data = .fields vs) → Env0 P w K mg base A fr s H →
    (∀ t : Shared, BindsTo t fd ⟨us, []⟩ (ps.zip us)) → Vals xs us → sp p.1 p.2.cls p.2.dict xs H Q E → codeAny (model P w) A (.call (.ref f) ⟨us, []⟩) (CR CX0 fr P w H s Q E) s
section
variable {P : Program} {w : World} {K : PySem.W.Frag} {mg : Str → Option Value} {base : Heap}
theorem okP {x qual : Str} {st : Stmt} {f : Addr} {fd : FuncData} {N ps : List Str} {k : Nat} {sp : Addr → Value → Option Addr → Sp} (F : Fun K x qual st f fd) (S : FnScope N ps (defScope st)) (wide : ∀ a c d xs H Q E, sp a c d xs H Q E → xs.length = ps.length)
    (body : ∀ (cdv : Value) (A : Around) (fr : List Env) (s : Shared) (H : Hp) (xs : List V) (Q : VK) (E : XK) (p : Addr × Obj), L2H.RoomH k (A.deeper (envOfC qual (defScope st) s.heap.objs.size f cdv)) → (∃ vs, p.2.data = .fields vs) → sp p.1 p.2.cls p.2.dict xs H Q E →
      ∃ t, PSs (L2H.cxH CX0 P w K mg base N qual (defScope st) f cdv A fr s H E p).nox (defBody st) t ∧ t { nx := fun _ H' => Q .non H', rt := Q } (start N xs) H) : FnP P w K mg base (k + 1) f fd ps sp := by
  obtain ⟨oc, od, kV, doc, pm, an, cdv, ct, osl, rfl, lk, hcd⟩ := F.ex
  refine ⟨wide, fun A fr s H us xs Q E p hr pin hf e0 hb r hs => ?_⟩
  have old : ∀ b o, base.get? b = some o → s.heap.get? b = some o := fun b o e => (e0.bs b o e).1
  have inK : K.In s.heap := e0.mod.kin.keeps old
  have kinds : ∀ y ∈ ps.zip us, (defScope st).names.lookup y.1 = some .local ∨ ((defScope st).names.lookup y.1 = some .cell ∧ ((cellsFrom (s.heap.objs.size + 1) (defScope st).names []).lookup y.1).isSome = true) := by
    rintro ⟨n, v⟩ hy
    rcases S.par n (List.of_mem_zip hy).1 with q | q
    · exact Or.inl q
    · exact Or.inr ⟨q, PySem.W.cellsFrom_some _ _ _ (Or.inl q)⟩
  refine codeAny_call_function hr.depth (inK _ _ lk) rfl S.co S.gen rfl (PySem.W.codeRec_of inK hcd) (hb _ _ _ _ _ ?_)
  refine wpAny_newFunctionEnv_cells S.kind kinds fun env he s1 ic => ?_
  subst he
  refine ⟨(e0.mod.nolimit.keeps old).keeps ic.toInCall.keep, codeAny_func ?_⟩
  obtain ⟨t, ht, hq⟩ := body cdv A fr s H xs Q E p (hr.deeper _) hf hs
  have I := L2H.inv_startH (CX := CX0) (E := E) S pin e0 (wide _ _ _ _ _ _ _ hs) r ic
  refine wpAny_mono (ht.nox.run [] s1 (start N xs) H _ I hq) (fun fl s' z => ?_) fun _ _ z => z
  cases fl with
  | ret u =>
    obtain ⟨v, σ', H', J, rv, q⟩ := z
    exact ⟨v, H', J.os, J.bare, J.base, J.hok, rv, q⟩
  | next =>
    obtain ⟨σ', H', J, q⟩ := z
    exact ⟨V.non, H', J.os, J.bare, J.base, J.hok, rfl, q⟩
  | brk =>
    obtain ⟨_, _, _, q⟩ := z
    exact q.elim
  | cont =>
    obtain ⟨_, _, _, q⟩ := z
    exact q.elim
end
section
variable {X : Cx} {k : Nat} {f : Addr} {fd : FuncData} {ps : List Str} {sp : Addr → Value → Option Addr → Sp} {x : Str} {q0 pos : Pos} {e : Expr} {es : List Expr} {t : TA} {a0 : Addr} {oe0 : Obj} {cls0 : Value} {d0 : Option Addr}
theorem pe_callP (F : FnP X.prog X.w X.K X.mg X.base k f fd ps sp) (hr : L2H.RoomH k X.A) (hp : (a0, oe0) ∈ X.pn) (hz : Zc cls0 d0 oe0) (hf : ∃ vs, oe0.data = .fields vs) (hg : Gl X x) (hm : X.mg x = some (.ref f)) (hk : PySem.W.keepIn X.K (.ref f) = true) (hbs : BindG fd ps)
    (ha : PA X (e :: es) t) (hdb : (x == ("__debug__" : Str)) = false := by decide) (he : starEach (e :: es) X.env = (false, eval e X.env) :: starEach es X.env := by rfl) (hpl : (backTo pos (starEach es X.env)).any (·.1) = false := by rfl) :
    PE X (.Call (.Name x q0) (e :: es) [] pos) (fun σ H Q => t σ H fun vs H1 => sp a0 cls0 d0 vs H1 Q E0) := by
  refine ⟨fun pins s σ H Q I h => wpAny_Call_Name_kw (ld_glob I hg hm ?_ hdb)⟩
  refine PySem.W.callWith_K (h₀ := X.base) I.ok.mod.kin hk (thn (ha.run pos pins s σ H _ I h) fun us s1 ⟨vs, H1, I1, r, q⟩ => ⟨I1.kIn, ?_⟩) he hpl
  have hl : us.length = ps.length := by rw [← r.length]; exact F.wide _ _ _ _ _ _ _ q
  have P1 := I1.pin (a0, oe0) (List.mem_append_left _ hp)
  have pin : L2H.PinOk X.stack H1 s1 (a0, oe0) := ⟨P1.1, P1.2.1, fun m => (List.mem_cons.mp (I1.stkSub a0 m)).elim P1.2.2.1 P1.2.2.2.1, P1.2.2.2.2⟩
  refine wpAny_call (codeAny_mono (F.go X.A X.stack s1 H1 us vs Q E0 (a0, oe0) hr pin hf I1.env0 (hbs us hl) r (by rw [hz.1, hz.2]; exact q)) fun res s' hq => ?_)
  cases res with
  | error e => exact False.elim hq
  | ok fl =>
    cases fl with
    | ret u => exact I1.after hq
    | next => exact False.elim hq
    | brk => exact False.elim hq
    | cont => exact False.elim hq
/-- what an exception bears: its class, its own dict (if any) tracked -/
def Bears (H : Hp) (oe : Obj) (D : Addr) (d : Option (Addr × List (Str × V))) : Prop :=
  oe.cls = .ref D ∧ (∃ vs, oe.data = .fields vs) ∧ match d with
    | none => oe.dict = none
    | some (dd, fs) => oe.dict = some dd ∧ H dd = some (.xd fs)
theorem bears_at {pins : List (Addr × Obj)} {σ : L2.St} {H : Hp} {s : Shared} {oe : Obj} {a D : Addr} {d : Option (Addr × List (Str × V))} (I : Inv X pins σ H s) (hp : (a, oe) ∈ X.pn) (B : Bears H oe D d) : ∃ od, PySem.W.InstAt s.heap a oe D od := by
  obtain ⟨c, ⟨vs, hv⟩, hd⟩ := B
  have g := (I.pin (a, oe) (List.mem_append_left _ hp)).1
  cases d with
  | none =>
    refine ⟨none, g, c, by unfold PySem.W.notCls; rw [hv] <;> rfl, ?_⟩
    have hd : oe.dict = none := hd
    rw [hd]
    trivial
  | some d =>
    obtain ⟨dd, fs⟩ := d
    obtain ⟨h1, h2⟩ := hd
    obtain ⟨mA, ⟨o, es, ep, ho, r⟩, _⟩ := (show ObjOk X.prog X.w H s.heap dd (.xd fs) from I.hok dd _ h2)
    exact ⟨some o, g, c, by unfold PySem.W.notCls; rw [hv] <;> rfl, by rw [h1]; exact ho⟩
/-- isinstance(e, c), e the pinned exception -/
def rIsP (K : PySem.W.Frag) (a : Addr) (oe : Obj) : List V → Hp → VK → Prop := fun xs H Q => ∃ (D : Addr) (d : Option (Addr × List (Str × V))) (c : V) (u : Value) (b : Bool), xs = [.ref a, c] ∧ Bears H oe D d ∧ ExcC K D ∧ ClsV c u ∧ PySem.W.kitOne K (.ref D) u = some b ∧ Q (.bl b) H
theorem call_isP {a : Addr} {oe : Obj} (hp : (a, oe) ∈ X.pn) : CallR X (.builtin "isinstance") (rIsP X.K a oe) := by
  intro pins s σ H xs us Q I r h
  obtain ⟨D, d, c, u, b, rfl, B, C, k, e, q⟩ := h
  cases r with
  | cons rx rr =>
    cases rr with
    | cons rt rr =>
      cases rr
      cases rx
      have ec := k.eq rt
      subst ec
      exact PySem.W.kia_one (kit_exc C) I.kIn (bears_at I hp B) e (fun z => nomatch z) fun tk => ⟨.bl b, H, I.tok tk, rfl, q⟩
/-- e.f, e the pinned exception -/
def tXfP (K : PySem.W.Frag) (a : Addr) (oe : Obj) (n : Str) (te : TE) : TE := fun σ H Q => te σ H fun x H1 => x = .ref a ∧ ∃ (C dd : Addr) (fs : List (Str × V)) (v : V), Bears H1 oe C (some (dd, fs)) ∧ XfC K C ∧ PySem.W.findIn K (.ref C) n = some none ∧ fs.lookup n = some v ∧ Q v H1
theorem pe_xfP {a : Addr} {oe : Obj} {n : Str} {te : TE} (hp : (a, oe) ∈ X.pn) (he : PE X e te) (hb : attributeBase e n X.env (eval e X.env) = eval e X.env := by rfl) : PE X (.Attribute e n pos) (tXfP X.K a oe n te) := by
  refine ⟨fun pins s σ H Q I h => attr_of hb (thn (he.run pins s σ H _ I h) fun u s1 hh => ?_)⟩
  obtain ⟨x, H1, I1, rx, rfl, C, dd, fs, v, ⟨c1, ⟨vs, c2⟩, c3, c4⟩, T, hno, l, q⟩ := hh
  obtain rfl : u = Value.ref a := rx
  have g := (I1.pin (a, oe) (List.mem_append_left _ hp)).1
  obtain ⟨mA, hns, hr⟩ := (show ObjOk X.prog X.w H1 s1.heap dd (.xd fs) from I1.hok dd _ c4)
  obtain ⟨od, ho, hl⟩ := lookIn_ns hns
  obtain ⟨u, hu, ru⟩ := RelO.some_of (v := v) (o := mA n) (by rw [← l]; exact hr n)
  have J : PySem.W.InstAt s1.heap a oe C (some od) := ⟨g, c1, by unfold PySem.W.notCls; rw [c2] <;> rfl, by rw [c3]; exact ho⟩
  exact HandSPX.exc_get I1.kIn J T.ga T.gg T.exC (PySem.W.findObj_own T.hdC hno rfl (by rw [hl, hu])) (handed_of ru) ⟨v, H1, I1.tok _, ru, q⟩
/-- X(), X an own class without __init__ -/
theorem pmk_bare {C : Addr} {bmB : List Value} {B newId initId : String} (F : ExcBaseFacts B newId initId bmB) (q : PySem.W.excIn X.K C bmB newId = true) (gC : X.mg x = some (.ref C)) (kC : PySem.W.keepIn X.K (.ref C) = true) (r : Raises X (.ref C)) (hg : Gl X x)
    (hdb : (x == ("__debug__" : Str)) = false := by decide) : PMk X (.Call (.Name x q0) [] [] pos) (fun _ H Q => Q (.ref C) none H) := by
  intro pins s σ H Q I h
  refine wpAny_Call_Name_kw (ld_glob I hg gC ?_ hdb)
  refine PySem.W.callWith_K0 I.kIn kC ?_
  obtain ⟨bm, N, nm, qn, bs, hdct, sn, sub, ab, col, dd, k0, k1, k2, k3, k5, mN, hC, hN, hni, T⟩ := exc_obj I.kIn q
  exact wpAny_call_exc_subT F T hC hN hni (fun h' e hm => mk_of I hm r h (I.hok.gone hm.new)) (by show 0 ≤ sizeLine; exact Nat.zero_le _)
end
end Fv


set_option Elab.async false
set_option linter.all false
set_option maxRecDepth 100000
set_option maxHeartbeats 1000000
namespace Fv
open PySem PySem.Spec PyProof.Rows L2
/-- a value that is compared at once: flat, or one object -/
def Plain (v : V) : Prop := flatB v = true ∨ ∃ c, v = .ref c
theorem same_items {P : Program} {w : World} {A : Around} {s : Shared} : ∀ {xs : List V} {us ws : List Value}, (∀ v ∈ xs, Plain v) → Vals xs us → Vals xs ws → ∀ j (h1 : j < us.length) (h2 : j < ws.length), SeqAt.EqAt A s us[j] ws[j] true
  | _, _, _, _, .nil, .nil, j, h1, _ => absurd h1 (Nat.not_lt_zero j)
  | v :: xs, _, _, h, .cons a t, .cons b u, 0, _, _ => by
    rcases h v List.mem_cons_self with f | ⟨c, rfl⟩
    · exact eqAt_same a b f
    · cases a
      cases b
      exact SeqAt.EqAt.same _
  | v :: xs, _, _, h, .cons a t, .cons b u, j + 1, h1, h2 => same_items (P := P) (w := w) (fun x hx => h x (List.mem_cons_of_mem _ hx)) t u j (Nat.lt_of_succ_lt_succ h1) (Nat.lt_of_succ_lt_succ h2)
def rNeSame (K : PySem.W.Frag) : R2 := fun x y H Q => ∃ (a b : Addr) (xs : List V), x = .ref a ∧ y = .ref b ∧ SqL K H a xs ∧ SqL K H b xs ∧ (∀ v ∈ xs, Plain v) ∧ Q (.bl false) H
section
variable {X : Cx}
theorem op_neSame (hu : X.A.units + 64 < cLine) : OpR X (compareOp .NotEq) (rNeSame X.K) := by
  intro pins s σ H x y v u Q I rx ry h
  obtain ⟨a, b, xs, rfl, rfl, ha, hb, hp, q⟩ := h
  cases rx
  cases ry
  obtain ⟨us, r1, p1, _⟩ := I.list ha
  obtain ⟨ws, r2, p2, _⟩ := I.list hb
  have hsz : us.toArray.size = ws.toArray.size := by rw [List.size_toArray, List.size_toArray, ← r1.length, ← r2.length]
  have he : ∀ j (j1 : j < us.toArray.size) (j2 : j < ws.toArray.size), SeqAt.EqAt X.A.in1 s us.toArray[j] ws.toArray[j] ((fun _ => true) j) := fun j j1 j2 => by
    have := same_items (P := X.prog) (w := X.w) (A := X.A.in1) (s := s) hp r1 r2 j (by simpa using j1) (by simpa using j2)
    simpa using this
  have ne := SeqAt.RcNeAt.lists p1.isList p2.isList hsz (by omega) he
  refine ne X.prog X.w _ _ ?_
  rw [show ((List.range us.toArray.size).all fun _ => true) = true from List.all_eq_true.mpr fun _ _ => rfl]
  exact ⟨.bl false, H, I, rfl, q⟩
/-- lists put together, cut: new lists at none of the first places -/
def rCatB : R2 := fun x y H Q => ∃ (l b : Addr) (xs zs : List V), x = .ref l ∧ y = .ref b ∧ H l = some (.lst xs) ∧ H b = some (.lst zs) ∧ xs.length + zs.length ≤ sizeLine ∧ ∀ p, H p = none → p ≠ sysModules → Q (.ref p) (upd H p (.lst (xs ++ zs)))
theorem op_catB : OpR X (binaryOp .Add) rCatB := by
  intro pins s σ H x y v u Q I rx ry h
  obtain ⟨l, b, xs, zs, rfl, rfl, e1, e2, hz, q⟩ := h
  cases rx
  cases ry
  obtain ⟨_, us, n, r, _, g⟩ := I.lstM e1
  obtain ⟨_, ws, m, r2, _, g2⟩ := I.lstM e2
  have hl := r.length
  have hl2 := r2.length
  refine PySem.P.add_list g g2 ?_ (by rw [List.size_toArray, List.size_toArray]; omega)
  rw [show us.toArray ++ ws.toArray = (us ++ ws).toArray from by simp]
  exact ⟨.ref _, _, I.lnew (t' := s.toks) (r.append r2) (by rw [List.length_append]; omega), rfl, q _ I.fresh (Nat.ne_of_gt I.big)⟩
def rSlB (K : PySem.W.Frag) : V → Option Int → Option Int → Hp → VK → Prop := fun x lo hi H Q => ∃ (a : Addr) (xs : List V), x = .ref a ∧ SqL K H a xs ∧ ∀ p, H p = none → p ≠ sysModules → Q (.ref p) (upd H p (.lst (cutV xs lo hi)))
theorem sl_listB : SlR X (rSlB X.K) := by
  intro pins s σ H x v vl vu lo hi sl Q I rx hs pl pu h
  obtain ⟨a, xs, rfl, hx, q⟩ := h
  cases rx
  obtain ⟨us, r, pt, hz⟩ := I.list hx
  have hlen := r.length
  refine ⟨"list", _, slot_list_getitem.lookup, pt.isList.typeIs, wpAny_getItem_list_slice pt.isList hs pl pu .none (by simp) ?_ (by rw [List.size_toArray]; omega)⟩
  rw [slicePick_cut, ← hlen]
  have J : Inv X pins σ (upd H s.heap.objs.size (.lst (cutV xs lo hi))) { s with heap := s.heap.push { cls := .type "list", data := .seq ((us.drop (HT.sIx xs.length 0 lo)).take (HT.sIx xs.length xs.length hi - HT.sIx xs.length 0 lo)).toArray } } :=
    I.laid (t' := s.toks) (fun b ob q => Heap.get?_push_of_some _ q) (Nat.le_refl _) ⟨Nat.le_trans (cutV_length xs lo hi) hz, _, 0, (r.drop _).take _, Heap.get?_push_size _ rfl⟩
  exact ⟨.ref _, _, J, rfl, q _ I.fresh (Nat.ne_of_gt I.big)⟩
end
end Fv


set_option Elab.async false
set_option linter.all false
set_option maxRecDepth 100000
set_option maxHeartbeats 1000000
namespace Fv
open PySem PySem.Spec PyProof.Rows L2
def top (i : Nat) : Stmt := PySem.Challenge.pw_farapart_k23_procedures_told.main.body.getD i (.Pass ⟨0, 0, 0, 0⟩)
abbrev sBag : Stmt := top 44
abbrev sTake : Stmt := top 45
/-! ### the bag -/
def bagV (p s : Int) (i : Nat) (c : Addr) : HO := .lst [.int p, .int s, .int i, .ref c]
structure BagIs (H : Hp) (b c : Addr) (cs : List Int) (p s : Int) (i : Nat) : Prop where
  at_ : H b = some (bagV p s i c)
  cells : H c = some (.lst (cs.map V.int))
  ne : c ≠ b
  p0 : 0 ≤ p
  s0 : 0 ≤ s
  cs0 : ∀ z ∈ cs, 0 ≤ z
def Bag (H : Hp) (b : Addr) : Prop := ∃ c cs p s i, BagIs H b c cs p s i
def BagAt (H : Hp) (b c : Addr) : Prop := ∃ cs p s i, BagIs H b c cs p s i
theorem BagAt.bag {H : Hp} {b c : Addr} (h : BagAt H b c) : Bag H b := ⟨c, h⟩
theorem BagIs.same {H : Hp} {b c d : Addr} {cs : List Int} {p s : Int} {i : Nat} (B : BagIs H b c cs p s i) (h : BagAt H b d) : d = c := by
  obtain ⟨cs', p', s', i', B'⟩ := h
  have e := B'.at_.symm.trans B.at_
  unfold bagV at e
  simp only [Option.some.injEq, HO.lst.injEq, List.cons.injEq, V.ref.injEq, and_true] at e
  exact e.2.2.2
theorem BagAt.put {H : Hp} {b c D : Addr} {o : HO} (h : BagAt H b c) (nb : D ≠ b) (nc : D ≠ c) : BagAt (upd H D o) b c := by
  obtain ⟨cs, p, s, i, B⟩ := h
  exact ⟨cs, p, s, i, by rw [upd_ne nb.symm]; exact B.at_, by rw [upd_ne nc.symm]; exact B.cells, B.ne, B.p0, B.s0, B.cs0⟩
theorem BagAt.new {H : Hp} {b c D : Addr} {o : HO} (h : BagAt H b c) (n : H D = none) : BagAt (upd H D o) b c ∧ D ≠ b ∧ D ≠ c := by
  obtain ⟨cs, p, s, i, B⟩ := id h
  have n1 := (ne_of_none B.at_ n).symm
  have n2 := (ne_of_none B.cells n).symm
  exact ⟨h.put n1 n2, n1, n2⟩
def Keep (b : Addr) (H H' : Hp) : Prop := ∀ a o, a ≠ b → H a = some o → H' a = some o
theorem Keep.refl {b : Addr} {H : Hp} : Keep b H H := fun _ _ _ e => e
theorem Keep.trans {b : Addr} {H H1 H2 : Hp} (h : Keep b H H1) (k : Keep b H1 H2) : Keep b H H2 := fun a o n e => k a o n (h a o n e)
theorem Keep.upd {b : Addr} {H : Hp} {o : HO} : Keep b H (upd H b o) := fun a u n e => by rw [upd_ne n]; exact e
theorem Keep.new {b p : Addr} {H : Hp} {o : HO} (n : H p = none) : Keep b H (L2.upd H p o) := fun a u _ e => by rw [upd_ne (ne_of_none e n)]; exact e
theorem Bag.new {b p : Addr} {H : Hp} {o : HO} (B : Bag H b) (n : H p = none) : Bag (upd H p o) b := by
  obtain ⟨c, cs, q, s, i, B⟩ := B
  exact ⟨c, cs, q, s, i, by rw [upd_ne (ne_of_none B.at_ n)]; exact B.at_, by rw [upd_ne (ne_of_none B.cells n)]; exact B.cells, B.ne, B.p0, B.s0, B.cs0⟩
theorem BagIs.set {H : Hp} {b c : Addr} {cs : List Int} {p s p' s' : Int} {i i' : Nat} (B : BagIs H b c cs p s i) (hp : 0 ≤ p') (hs : 0 ≤ s') : BagIs (upd H b (bagV p' s' i' c)) b c cs p' s' i' :=
  ⟨upd_same, by rw [upd_ne B.ne]; exact B.cells, B.ne, hp, hs, B.cs0⟩
theorem cutK {t u : TS} {D : Ends} {σ : L2.St} {H : Hp} (P : L2.St → Hp → Prop) (k : ∀ σ' H', P σ' H' → u D σ' H') (h : (∀ σ' H', P σ' H' → u D σ' H') → tSeq t u D σ H) : tSeq t u D σ H := h k
theorem asgC {v : V} {i : Nat} {u : TS} {D : Ends} {σ : L2.St} {H : Hp} (h : u D (σ.set i (some v)) H) : tSeq (tAsg (tC v) (gName i)) u D σ H := h
theorem nz1 : (1000000007 : Int) ≠ 0 := by decide
theorem nz2 : (998244353 : Int) ≠ 0 := by decide
theorem nz3 : (2147483647 : Int) ≠ 0 := by decide
theorem modN {a m : Int} (ha : 0 ≤ a) (hm : 0 < m) : ∃ r : Nat, a.fmod m = (r : Int) ∧ (r : Int) < m := by
  have e : a.fmod m = a % m := Int.fmod_eq_emod_of_nonneg a (by omega)
  have h0 : 0 ≤ a % m := Int.emod_nonneg a (by omega)
  have h1 : a % m < m := Int.emod_lt_of_pos a hm
  exact ⟨(a % m).toNat, by rw [e]; omega, by omega⟩
section
variable {P : Program} {w : World} {K : PySem.W.Frag} {mg : Str → Option Value} {base : Heap}
def spTake : Sp := fun vs H Q _ => ∃ (b : Addr) (m : Int), vs = [.ref b, .int m] ∧ Bag H b ∧ 0 < m ∧ m ≤ 1000000 ∧ ∀ (r : Nat) (H' : Hp), (r : Int) < m → Bag H' b → Keep b H H' → (∀ c, BagAt H b c → BagAt H' b c) → Q (.int r) H'
theorem scT : FnScope ["_law_bag_here", "_law_many", "_law_cell", "_law_mixed_here", "_law_value", "_law_begin", "_law_second"] ["_law_bag_here", "_law_many"] (defScope sTake) := ⟨rfl, rfl, rfl, by decide +kernel, rfl, by decide +kernel, by decide +kernel⟩
theorem ok_take {f : Addr} {fd : FuncData} (F : Fun K "_law_take" "_law_take" sTake f fd) (mi : mg "int" = none) (ml : mg "len" = none) : FnOk P w K mg base CX0 1 f fd ["_law_bag_here", "_law_many"] spTake := by
  refine F.ok scT (fun vs H Q E h => ?_) (fun cdv A outer s H vs Q E hr h => ?_)
  · obtain ⟨b, m, rfl, _⟩ := h
    rfl
  · obtain ⟨b, m, rfl, B, m0, m1, q⟩ := h
    refine ⟨_, pss_cons (ps_if (pt_cmpR op_eq (pe_ix ix_list (pv 0) pe_int (fun _ _ => rfl)) pe_int (nomark _))
        (pss_cons (ps_set (i := 2) scT.nd rfl (.inl rfl) pe_int)
        (pss_cons (ps_if (pt_cmpR op_lt (pe_ix ix_list (pv 0) pe_int (fun _ _ => rfl)) (pe_callB call_len_seq (by rfl) ml PySem.boot_len (pa_cons (pe_ix ix_list (pv 0) pe_int (fun _ _ => rfl)) pa_nil)) (nomark _))
          (pss_one (ps_set (i := 2) scT.nd rfl (.inl rfl) (pe_ix ix_list (pe_ix ix_list (pv 0) pe_int (fun _ _ => rfl)) (pe_ix ix_list (pv 0) pe_int (fun _ _ => rfl)) (fun _ _ => rfl)))) pss_nil)
        (pss_cons (ps_augS (pv 0) pe_int pget_list pe_int ip_add set_list)
        (pss_cons (ps_if (pt_cmpR op_ge (pv 2) pe_int (nomark _)) (pss_one (ps_asg (pv 2) (pg_sub (pv 0) pe_int set_list))) pss_nil)
        (pss_cons (ps_set (i := 3) scT.nd rfl (.inl rfl) (pe_op op_add (pe_op op_add (pe_op op_mul (pe_ix ix_list (pv 0) pe_int (fun _ _ => rfl)) pe_int) (pe_op op_modN (pe_callTy call_int1 (by rfl) mi (by decide +kernel) (pa_cons (pv 2) pa_nil)) pe_int))
          (pe_op op_mul pe_int (pe_ix ix_list (pv 0) pe_int (fun _ _ => rfl)))))
        (pss_one (ps_asg (pe_op op_modN (pe_callTy call_int1 (by rfl) mi (by decide +kernel) (pa_cons (pv 3) pa_nil)) pe_int) (pg_sub (pv 0) pe_int set_list)))))))) pss_nil)
      (pss_cons (ps_if (pt_cmpR op_gt (pe_ix ix_list (pv 0) pe_int (fun _ _ => rfl)) pe_int (nomark _))
        (pss_cons (ps_set (i := 4) scT.nd rfl (.inl rfl) (pe_op op_modN (pe_callTy call_int1 (by rfl) mi (by decide +kernel) (pa_cons (pe_ix ix_list (pv 0) pe_int (fun _ _ => rfl)) pa_nil)) (pv 1)))
        (pss_cons (ps_asg (pe_op op_fdivN (pe_ix ix_list (pv 0) pe_int (fun _ _ => rfl)) (pv 1)) (pg_sub (pv 0) pe_int set_list))
        (pss_one (ps_ret (pv 4))))) pss_nil)
      (pss_cons (ps_set (i := 5) scT.nd rfl (.inl rfl) (pe_op op_modN (pe_callTy call_int1 (by rfl) mi (by decide +kernel) (pa_cons (pe_op op_mul (pe_op op_add (pe_ix ix_list (pv 0) pe_int (fun _ _ => rfl)) pe_int) pe_int) pa_nil)) pe_int))
      (pss_cons (ps_set (i := 6) scT.nd rfl (.inl rfl) (pe_op op_modN (pe_callTy call_int1 (by rfl) mi (by decide +kernel) (pa_cons (pe_op op_mul (pe_op op_modN (pe_callTy call_int1 (by rfl) mi (by decide +kernel) (pa_cons (pe_op op_mul (pv 5) (pv 5)) pa_nil)) pe_int) pe_int) pa_nil)) pe_int))
      (pss_cons (ps_if (pt_cmpR op_gt (pv 1) pe_int (nomark _)) (pss_one ps_never) pss_nil)
      (pss_one (ps_ret (pe_op op_modN (pe_callTy call_int1 (by rfl) mi (by decide +kernel) (pa_cons (pe_op op_fdivN (pv 6) pe_int) pa_nil)) (pv 1)))))))), ?_⟩
    refine cutK (fun σ' H' => ∃ c x : Option V, σ' = [some (.ref b), some (.int m), c, x, none, none, none] ∧ Bag H' b ∧ Keep b H H' ∧ ∀ c, BagAt H b c → BagAt H' b c) ?_ (fun k => ?_)
    · rintro σ' H' ⟨c, x, rfl, B', kp, st⟩
      obtain ⟨cc, cs, p, s, i, B'⟩ := B'
      have hb : SqL K H' b [.int p, .int s, .int i, .ref cc] := SqL.of B'.at_
      have mne : m ≠ 0 := by omega
      refine ⟨_, rfl, b, _, _, _, rfl, rfl, hb, atI_nat (j := 0) rfl, _, _, rfl, rfl, _, rfl, ite2 (fun e => ?_) (fun e => ?_)⟩
      · obtain ⟨r, er, r1⟩ := modN B'.p0 m0
        refine ⟨_, rfl, b, _, _, _, rfl, rfl, hb, atI_nat (j := 0) rfl, .inl ⟨_, rfl, _, rfl, _, _, rfl, rfl, mne, ?_⟩⟩
        refine ⟨_, rfl, b, _, _, _, rfl, rfl, hb, atI_nat (j := 0) rfl, _, rfl, _, _, rfl, rfl, ⟨mne, by omega⟩, _, rfl, b, _, _, _, rfl, rfl, B'.at_, rfl, ?_⟩
        refine ⟨_, rfl, ?_⟩
        show Q (V.int (p.fmod m)) _
        rw [er]
        have Bd : BagIs (upd H' b (bagV (p.fdiv m) s i cc)) b cc cs (p.fdiv m) s i := B'.set (Int.fdiv_nonneg B'.p0 (by omega)) B'.s0
        refine q r _ r1 ⟨cc, cs, _, _, _, Bd⟩ (kp.trans Keep.upd) fun c hc => ?_
        rw [B'.same (st c hc)]
        exact ⟨cs, _, _, _, Bd⟩
      · obtain ⟨g, eg, g1⟩ := modN (a := (s + 1) * 39373) (m := 1000000007) (by have := B'.s0; omega) (by decide)
        refine ⟨_, rfl, b, _, _, _, rfl, rfl, hb, atI_nat (j := 1) rfl, _, _, rfl, rfl, _, _, rfl, rfl, .inr ⟨by decide, by decide⟩, .inl ⟨_, rfl, _, _, rfl, rfl, nz1, ?_⟩⟩
        dsimp only
        rw [eg]
        obtain ⟨g2, eg2, g3⟩ := modN (a := (g : Int) * g) (m := 998244353) (Int.mul_nonneg (by omega) (by omega)) (by decide)
        refine ⟨_, rfl, _, rfl, _, _, rfl, rfl, .inl ⟨by omega, by omega⟩, .inl ⟨_, rfl, _, _, rfl, rfl, nz2, ?_⟩⟩
        dsimp only
        rw [eg2]
        obtain ⟨g4, eg4, g5⟩ := modN (a := (g2 : Int) * 30011) (m := 998244353) (by omega) (by decide)
        refine ⟨_, _, rfl, rfl, .inr ⟨by decide, by decide⟩, .inl ⟨_, rfl, _, _, rfl, rfl, nz2, ?_⟩⟩
        dsimp only
        rw [eg4]
        refine ⟨_, rfl, _, _, rfl, rfl, _, rfl, ite2 (fun e => ?_) (fun e => ?_)⟩
        · exact absurd (of_decide_eq_true e) (by omega)
        · obtain ⟨r, er, r1⟩ := modN (a := (g4 : Int).fdiv 7) (m := m) (Int.fdiv_nonneg (by omega) (by decide)) m0
          refine ⟨_, rfl, _, _, rfl, rfl, ⟨by decide, by decide⟩, .inl ⟨_, rfl, _, rfl, _, _, rfl, rfl, mne, ?_⟩⟩
          show Q (V.int (((g4 : Int).fdiv 7).fmod m)) _
          rw [er]
          exact q r _ r1 ⟨cc, cs, p, s, i, B'⟩ kp st
    · obtain ⟨cc, cs, p, s, i, B⟩ := B
      have hb : SqL K H b [.int p, .int s, .int i, .ref cc] := SqL.of B.at_
      refine ⟨_, rfl, b, _, _, _, rfl, rfl, hb, atI_nat (j := 0) rfl, rfl, _, rfl, ite2 (fun e => ?_) (fun e => ?_)⟩
      · -- what follows the reading of the cell
        refine asgC ?_
        refine cutK (fun σ' H' => ∃ z : Int, 0 ≤ z ∧ σ' = [some (.ref b), some (.int m), some (.int z), none, none, none, none] ∧ H' = H) ?_ (fun k2 => ?_)
        · rintro σ' H' ⟨z, z0, rfl, rfl⟩
          refine ⟨_, rfl, b, _, 2, _, rfl, rfl, hb, rfl, _, _, rfl, rfl, b, _, _, _, rfl, rfl, B.at_, rfl, ?_⟩
          have B1 : BagIs (upd H' b (bagV p s (i + 1) cc)) b cc cs p s (i + 1) := B.set B.p0 B.s0
          dsimp only
          refine cutK (fun σ1 H1 => σ1 = [some (.ref b), some (.int m), some (.int z), none, none, none, none] ∧ Keep b H' H1 ∧ ∃ p', BagIs H1 b cc cs p' s (i + 1)) ?_ (fun k3 => ?_)
          · rintro σ1 H1 ⟨rfl, kp, p', B2⟩
            have hb2 : SqL K H1 b [.int p', .int s, .int ((i + 1 : Nat) : Int), .ref cc] := SqL.of B2.at_
            refine ⟨_, rfl, b, _, _, _, rfl, rfl, hb2, atI_nat (j := 1) rfl, _, _, rfl, rfl, .inr ⟨by decide, by decide⟩, _, rfl, .inl ⟨_, rfl, _, _, rfl, rfl, nz3, ?_⟩⟩
            obtain ⟨g, eg, g1⟩ := modN (a := z) (m := 2147483647) z0 (by decide)
            dsimp only
            rw [eg]
            refine ⟨_, _, rfl, rfl, _, rfl, b, _, _, _, rfl, rfl, hb2, atI_nat (j := 2) rfl, _, _, rfl, rfl, .inl ⟨by decide, by decide⟩, _, _, rfl, rfl, ?_⟩
            obtain ⟨g2, eg2, g3⟩ := modN (a := s * 48271 + (g : Int) + 7919 * ((i + 1 : Nat) : Int)) (m := 2147483647) (by have := B.s0; omega) (by decide)
            refine ⟨_, rfl, .inl ⟨_, rfl, _, _, rfl, rfl, nz3, ?_⟩⟩
            dsimp only
            rw [eg2]
            refine ⟨_, rfl, b, _, _, _, rfl, rfl, B2.at_, rfl, ?_⟩
            exact k _ _ ⟨_, _, rfl, ⟨cc, cs, p', _, i + 1, B2.set (i' := i + 1) B2.p0 (Int.natCast_nonneg g2)⟩, kp.trans Keep.upd, fun c hc => by
              rw [B.same hc]
              exact ⟨cs, p', _, i + 1, B2.set (i' := i + 1) B2.p0 (Int.natCast_nonneg g2)⟩⟩
          · refine ⟨_, rfl, _, _, rfl, rfl, _, rfl, ite2 (fun e => ?_) (fun e => ?_)⟩
            · exact ⟨_, rfl, _, rfl, b, _, _, _, rfl, rfl, B1.at_, rfl, k3 _ _ ⟨rfl, Keep.upd.trans Keep.upd, z, B1.set (i' := i + 1) z0 B1.s0⟩⟩
            · exact k3 _ _ ⟨rfl, Keep.upd, p, B1⟩
        · refine ⟨_, rfl, b, _, _, _, rfl, rfl, hb, atI_nat (j := 2) rfl, _, rfl, b, _, _, _, rfl, rfl, hb, atI_nat (j := 3) rfl, cc, cs.map V.int, rfl, .inl (SqL.of B.cells), _, _, rfl, rfl, _, rfl, ite2 (fun e => ?_) (fun e => ?_)⟩
          · have hi : i < cs.length := by
              have := of_decide_eq_true e
              rw [List.length_map] at this
              omega
            have gi : (cs.map V.int)[i]? = some (.int cs[i]) := by
              rw [List.getElem?_map, List.getElem?_eq_getElem hi]
              rfl
            refine ⟨_, rfl, b, _, _, _, rfl, rfl, hb, atI_nat (j := 3) rfl, _, rfl, b, _, _, _, rfl, rfl, hb, atI_nat (j := 2) rfl, cc, _, _, _, rfl, rfl, SqL.of B.cells, atI_nat gi, ?_⟩
            exact k2 _ _ ⟨cs[i], B.cs0 _ (List.getElem_mem hi), rfl, rfl⟩
          · exact k2 _ _ ⟨0, by decide, rfl, rfl⟩
      · exact k _ _ ⟨none, none, rfl, ⟨cc, cs, p, s, i, B⟩, Keep.refl, fun _ h => h⟩
end
end Fv


set_option Elab.async false
set_option linter.all false
set_option maxRecDepth 100000
set_option maxHeartbeats 1000000
namespace Fv
open PySem PySem.Spec PyProof.Rows L2
section
variable {P : Program} {w : World} {K : PySem.W.Frag} {mg : Str → Option Value} {base : Heap}
def spBag (K : PySem.W.Frag) : Sp := fun vs H Q _ => ∃ (a : Addr) (ns : List Int), vs = [.ref a] ∧ SqL K H a (ns.map V.int) ∧ ns.length ≤ 63 ∧ ∀ (b : Addr) (H' : Hp), Bag H' b → Same H H' → Q (.ref b) H'
theorem scB : FnScope ["_law_script", "_law_cell"] ["_law_script"] (defScope sBag) := ⟨rfl, rfl, rfl, by decide +kernel, rfl, by decide +kernel, by decide +kernel⟩
theorem ok_bag {f : Addr} {fd : FuncData} (F : Fun K "_law_bag" "_law_bag" sBag f fd) (ma : mg "abs" = none) : FnOk P w K mg base CX0 1 f fd ["_law_script"] (spBag K) := by
  refine F.ok scB (fun vs H Q E h => ?_) (fun cdv A outer s H vs Q E hr h => ?_)
  · obtain ⟨b, m, rfl, _⟩ := h
    rfl
  · obtain ⟨a, ns, rfl, hS, hlen, q⟩ := h
    refine ⟨_, pss_one (ps_ret (pe_lst (pa_cons pe_int (pa_cons pe_int (pa_cons pe_int (pa_cons
      (pe_lc (own := [("_law_cell", 1)]) (g := gName 1) (tt := tYes) rfl scB.nd (pi_list (pe_slice sl_list (pv 0) po_none (po_some pe_int))) (blkOk_by (N := ["_law_script", "_law_cell"]) (sc := defScope sBag) (by decide +kernel))
        (fun _ _ _ _ _ => pg_name (i := 1) scB.nd rfl (Or.inl rfl)) (fun _ _ _ _ _ => pts_nil) (fun _ _ _ _ _ => pe_callB call_abs (by rfl) ma (by decide +kernel) (pa_cons (pv 1) pa_nil))) pa_nil)))))), ?_⟩
    refine ⟨_, rfl, _, rfl, a, ns.map V.int, rfl, hS, fun p np => ?_⟩
    have cut : cutV (ns.map V.int) none (some 63) = ns.map V.int := by
      unfold cutV
      rw [HT.sIx_none, show HT.sIx (ns.map V.int).length (ns.map V.int).length (some 63) = min 63 (ns.map V.int).length from HT.sIx_nat _ _ 63, List.drop_zero, List.length_map, List.take_of_length_le (by rw [List.length_map]; omega)]
    rw [cut]
    refine ⟨p, rfl, ⟨_, SqL.of upd_same⟩, fun D hD => ?_⟩
    have pD : p ≠ D := fun e => by rw [← e, upd_same] at hD; cases hD
    refine lc_list (K := K) (a := p) (xs := ns.map V.int) (fun i H1 => (∀ b o, H b = some o → H1 b = some o) ∧ H1 p = some (.lst (ns.map V.int)) ∧ H1 D = some (.lst ((ns.take i).map fun z => V.int (if z < 0 then -z else z)))) ?_ (fun i H1 _ h => SqL.of h.2.1) ?_ ?_
    · exact ⟨fun b o e => by rw [upd_ne (ne_of_none (by rw [upd_ne (ne_of_none e np)]; exact e) hD), upd_ne (ne_of_none e np)]; exact e, by rw [upd_ne pD]; exact upd_same, upd_same⟩
    · rintro i y H1 hi ⟨s1, e1, e2⟩
      obtain ⟨z, hz, rfl⟩ : ∃ z, ns[i]? = some z ∧ y = V.int z := by
        rw [List.getElem?_map] at hi
        cases e : ns[i]? with
        | none => rw [e] at hi; cases hi
        | some z => rw [e] at hi; exact ⟨z, rfl, (Option.some.inj hi).symm⟩
      have hn : i < ns.length := (List.getElem?_eq_some_iff.mp hz).1
      refine ⟨rfl, _, rfl, z, rfl, _, e2, ?_, ?_⟩
      · rw [List.length_map, List.length_take]
        exact small1000 (by omega)
      · refine ⟨fun b o e => ?_, by rw [upd_ne pD]; exact e1, ?_⟩
        · have : b ≠ D := ne_of_none (H := upd H p (.lst (ns.map V.int))) (by rw [upd_ne (ne_of_none e np)]; exact e) hD
          rw [upd_ne this]
          exact s1 b o e
        · rw [upd_same, List.take_add_one, hz, List.map_append]
          rfl
    · rintro H1 ⟨s1, e1, e2⟩
      refine ⟨by show 4 ≤ sizeLine; decide, fun b nb => ?_⟩
      rw [List.length_map, List.take_length] at e2
      refine q b _ ⟨D, ns.map fun z => if z < 0 then -z else z, 0, 1234567891, 0, ?_⟩ fun c o e => by rw [upd_ne (ne_of_none (s1 c o e) nb)]; exact s1 c o e
      refine ⟨upd_same, ?_, ne_of_none e2 nb, by decide, by decide, fun z hz => ?_⟩
      · rw [upd_ne (ne_of_none e2 nb), e2, List.map_map]
        rfl
      · obtain ⟨x, _, rfl⟩ := List.mem_map.mp hz
        split <;> omega
end
end Fv


set_option Elab.async false
set_option linter.all false
set_option maxRecDepth 100000
set_option maxHeartbeats 1000000
namespace Fv
open PySem PySem.Spec PyProof.Rows L2
def shortD : PyData → Prop := fun _ => True
theorem same_upd {H : Hp} {p : Addr} {o : HO} (h : H p = none) : Same H (upd H p o) := fun b x e => by
  rw [upd_ne (ne_of_none e h)]
  exact e
theorem Dq.plain {H : Hp} {b : Addr} {v : V} {d : PyData} (h : Dq H b v d) : Plain v := by
  cases h <;> first | exact .inl rfl | exact .inr ⟨_, rfl⟩
theorem Fine.line {d : PyData} (h : Fine d) : d.shown.length ≤ sizeLine := Nat.le_trans h.len (by decide)
theorem Fine.low {d : PyData} (h : Fine d) : d.depth ≤ 20 := Nat.le_trans h.deep (by decide)
end Fv


set_option Elab.async false
set_option linter.all false
set_option maxRecDepth 100000
set_option maxHeartbeats 2000000
namespace Fv
open PySem PySem.Spec PyProof.Rows L2
abbrev sOdd : Stmt := top 9999
def ten (n : Nat) : Int := 10 ^ n
theorem int_zeros : ∀ n : Nat, n < 40 → PySem.intText? ("1" ++ zeros n) = some (ten n) ∧ (("1" : Str) ++ zeros n).length ≤ 640 := by decide +kernel
def oddD (n : Nat) (nm : Str) : List PyData := [.int 0, .int 1, .int (-1), .int (ten n), .int (-(ten n)), .bool true, .bool false, .none, .str "", .str "a", .str nm, .str (nm ++ "z"), .str "abcdefgh",
  .str "abcdefghi", .str "A", .str "a1", .str "a b",
  .str "plain", .str "high", .str "low", .str "Plain", .list [], .tuple [], .dict [], .list [.int 1], .tuple [.int 0], .tuple [.str nm], .dict [(.str nm, .int 1)], .list [.str nm], .tuple [.str "", .str "", .int 0]]
def NameOk (z : Str) : Prop := z.length ≤ 100 ∧ ∀ c ∈ z.cps.toList, c < 128
theorem NameOk.ok {z : Str} (h : NameOk z) : okS z := ⟨by have := h.1; omega, h.2⟩
theorem NameOk.more {z : Str} (h : NameOk z) : okS (z ++ "z") := by
  refine ⟨?_, ?_⟩
  · have e : ("z" : Str).length = 1 := by decide +kernel
    rw [strLen_append, e]
    have := h.1
    omega
  · intro c hc
    have e : (z ++ "z" : Str).cps.toList = z.cps.toList ++ ("z" : Str).cps.toList := by
      show (z.cps ++ _).toList = _
      simp
    rw [e] at hc
    rcases List.mem_append.mp hc with q | q
    · exact h.2 c q
    · have : ∀ c ∈ ("z" : Str).cps.toList, c < 128 := by decide +kernel
      exact this c q
def okB (z : Str) : Bool := decide (z.length ≤ 1000) && z.cps.toList.all fun c => decide (c < 128)
theorem okS_of {z : Str} (h : okB z = true) : okS z := by
  unfold okB at h
  simp only [Bool.and_eq_true, decide_eq_true_eq, List.all_eq_true] at h
  exact h
theorem fine_ten : ∀ n : Nat, n < 40 → (PyData.int (ten n)).showable = true ∧ (PyData.int (ten n)).shown.length ≤ 20000 ∧ (PyData.int (-(ten n))).showable = true ∧ (PyData.int (-(ten n))).shown.length ≤ 20000 := by decide +kernel
def Nice (d : PyData) : Prop := Fine d ∧ shortD d
theorem nice_str {z : Str} (h : okS z) : Nice (.str z) := ⟨Fine.str h, True.intro⟩
theorem fine_dec {d : PyData} (h : (d.showable && decide (d.shown.length ≤ 20000) && decide (d.depth ≤ 3)) = true) : Fine d := by
  simp only [Bool.and_eq_true, decide_eq_true_eq] at h
  exact ⟨h.1.1, h.1.2, h.2⟩
theorem odd_nice {n : Nat} {nm : Str} (hn : n < 40) (h : NameOk nm) : ∀ d ∈ oddD n nm, Nice d := by
  obtain ⟨t1, t2, t3, t4⟩ := fine_ten n hn
  intro d hd
  unfold oddD at hd
  simp only [List.mem_cons, List.not_mem_nil, or_false] at hd
  rcases hd with rfl | rfl | rfl | rfl | rfl | rfl | rfl | rfl | rfl | rfl | rfl | rfl | rfl | rfl | rfl | rfl | rfl | rfl | rfl | rfl | rfl | rfl | rfl | rfl | rfl | rfl | rfl | rfl | rfl | rfl
  · exact ⟨fine_dec (by decide +kernel), True.intro⟩
  · exact ⟨fine_dec (by decide +kernel), True.intro⟩
  · exact ⟨fine_dec (by decide +kernel), True.intro⟩
  · exact ⟨⟨t1, t2, by simp [PyData.depth]⟩, True.intro⟩
  · exact ⟨⟨t3, t4, by simp [PyData.depth]⟩, True.intro⟩
  · exact ⟨fine_dec (by decide +kernel), True.intro⟩
  · exact ⟨fine_dec (by decide +kernel), True.intro⟩
  · exact ⟨fine_dec (by decide +kernel), True.intro⟩
  · (refine nice_str (okS_of ?_); decide +kernel)
  · (refine nice_str (okS_of ?_); decide +kernel)
  · exact nice_str h.ok
  · exact nice_str h.more
  · (refine nice_str (okS_of ?_); decide +kernel)
  · (refine nice_str (okS_of ?_); decide +kernel)
  · (refine nice_str (okS_of ?_); decide +kernel)
  · (refine nice_str (okS_of ?_); decide +kernel)
  · (refine nice_str (okS_of ?_); decide +kernel)
  · (refine nice_str (okS_of ?_); decide +kernel)
  · (refine nice_str (okS_of ?_); decide +kernel)
  · (refine nice_str (okS_of ?_); decide +kernel)
  · (refine nice_str (okS_of ?_); decide +kernel)
  · exact ⟨fine_dec (by decide +kernel), True.intro⟩
  · exact ⟨fine_dec (by decide +kernel), True.intro⟩
  · exact ⟨fine_dec (by decide +kernel), True.intro⟩
  · exact ⟨fine_dec (by decide +kernel), True.intro⟩
  · exact ⟨fine_dec (by decide +kernel), True.intro⟩
  · exact ⟨Fine.one_tup h.ok, True.intro⟩
  · exact ⟨Fine.one_dct h.ok, True.intro⟩
  · exact ⟨Fine.one_lst h.ok, True.intro⟩
  · exact ⟨fine_dec (by decide +kernel), True.intro⟩
end Fv


set_option Elab.async false
set_option linter.all false
set_option maxRecDepth 100000
set_option maxHeartbeats 4000000
namespace Fv
open PySem PySem.Spec PyProof.Rows L2
def odd17 (n : Nat) (nm : Str) : List V := [.int 0, .int 1, .int (-1), .int (ten n), .int (-ten n), .bl true, .bl false, .non, .str "", .str "a", .str nm, .str (nm ++ "z"), .str "abcdefgh", .str "abcdefghi", .str "A", .str "a1", .str "a b"]
def spOdd : Sp := fun vs H Q _ => ∃ (b : Addr) (nm : Str), vs = [.ref b, .str nm] ∧ Bag H b ∧ NameOk nm ∧ ∀ (v : V) (d : PyData) (H' : Hp), Dq H' b v d → Nice d → Bag H' b → Keep b H H' → (∀ c, BagAt H b c → BagAt H' b c) → Q v H'
theorem item {H Hf : Hp} {p b a : Addr} {o : HO} (n : H a = none) (hp : ∃ u, H p = some u) (hb : ∃ u, H b = some u) (k : Keep p (upd H a o) Hf) : Hf a = some o ∧ a ≠ b := by
  obtain ⟨u, hp⟩ := hp
  obtain ⟨u', hb⟩ := hb
  exact ⟨k a o (ne_of_none hp n).symm upd_same, (ne_of_none hb n).symm⟩
theorem there {H H' : Hp} {a : Addr} (k : Same H H') (h : ∃ u, H a = some u) : ∃ u, H' a = some u := by
  obtain ⟨u, h⟩ := h
  exact ⟨u, k _ _ h⟩
theorem same_twice {H : Hp} {a : Addr} {o u : HO} (n : H a = none) : Same H (upd (upd H a o) a u) := fun c v e => by
  have z := ne_of_none e n
  rw [upd_ne z, upd_ne z]
  exact e
def odd30 (n : Nat) (nm : Str) (a1 a2 a3 a4 a5 a6 a7 a8 a9 : Addr) : List V := [.int 0, .int 1, .int (-1), .int (ten n), .int (-ten n), .bl true, .bl false, .non, .str "", .str "a", .str nm, .str (nm ++ "z"), .str "abcdefgh", .str "abcdefghi", .str "A", .str "a1", .str "a b",
  .str "plain", .str "high", .str "low", .str "Plain", .ref a1, .ref a2, .ref a3, .ref a4, .ref a5, .ref a6, .ref a7, .ref a8, .ref a9]
theorem odd_all {H : Hp} {b : Addr} {n : Nat} {nm : Str} {a1 a2 a3 a4 a5 a6 a7 a8 a9 : Addr} (g1 : H a1 = some (.lst [])) (b1 : a1 ≠ b) (m1 : a1 ≠ sysModules) (g2 : H a2 = some (.tup [])) (b2 : a2 ≠ b) (g3 : H a3 = some (.dK [])) (b3 : a3 ≠ b) (g4 : H a4 = some (.lst [.int 1])) (b4 : a4 ≠ b) (m4 : a4 ≠ sysModules)
    (g5 : H a5 = some (.tup [.int 0])) (b5 : a5 ≠ b) (g6 : H a6 = some (.tup [.str nm])) (b6 : a6 ≠ b) (g7 : H a7 = some (.dK [(Sum.inr nm, .int 1)])) (b7 : a7 ≠ b) (g8 : H a8 = some (.lst [.str nm])) (b8 : a8 ≠ b) (m8 : a8 ≠ sysModules) (g9 : H a9 = some (.tup [.str "", .str "", .int 0])) (b9 : a9 ≠ b) :
    DqAll H b (odd30 n nm a1 a2 a3 a4 a5 a6 a7 a8 a9) (oddD n nm) :=
  .cons (.int _) (.cons (.int _) (.cons (.int _) (.cons (.int _) (.cons (.int _) (.cons (.bl _) (.cons (.bl _) (.cons .non (.cons (.str _) (.cons (.str _) (.cons (.str _) (.cons (.str _) (.cons (.str _)
    (.cons (.str _) (.cons (.str _) (.cons (.str _) (.cons (.str _) (.cons (.str _) (.cons (.str _) (.cons (.str _) (.cons (.str _)
    (.cons (.lst g1 b1 m1 .nil) (.cons (.tup g2 b2 .nil) (.cons (.dct g3 b3 .nil .nil) (.cons (.lst g4 b4 m4 (.cons (.int _) .nil)) (.cons (.tup g5 b5 (.cons (.int _) .nil)) (.cons (.tup g6 b6 (.cons (.str _) .nil))
    (.cons (.dct g7 b7 (.cons (.str _) .nil) (.cons (.int _) .nil)) (.cons (.lst g8 b8 m8 (.cons (.str _) .nil)) (.cons (.tup g9 b9 (.cons (.str _) (.cons (.str _) (.cons (.int _) .nil)))) .nil)))))))))))))))))))))))))))))
theorem Keep.same {p : Addr} {H H' : Hp} (s : Same H H') : Keep p H H' := fun a o _ e => s a o e
theorem Bag.at_b {H : Hp} {b : Addr} (B : Bag H b) : ∃ o, H b = some o := by
  obtain ⟨c, cs, p, s, i, B⟩ := B
  exact ⟨_, B.at_⟩
theorem BagAt.same {H H' : Hp} {b c : Addr} (B : BagAt H b c) (k : Same H H') : BagAt H' b c := by
  obtain ⟨cs, p, s, i, B⟩ := B
  exact ⟨cs, p, s, i, k _ _ B.at_, k _ _ B.cells, B.ne, B.p0, B.s0, B.cs0⟩
theorem Bag.same {H H' : Hp} {b : Addr} (B : Bag H b) (k : Same H H') : Bag H' b := by
  obtain ⟨c, cs, p, s, i, B⟩ := B
  exact ⟨c, cs, p, s, i, k _ _ B.at_, k _ _ B.cells, B.ne, B.p0, B.s0, B.cs0⟩
section
variable {P : Program} {w : World} {K : PySem.W.Frag} {mg : Str → Option Value} {base : Heap}
end
end Fv


set_option Elab.async false
set_option linter.all false
set_option maxRecDepth 100000
set_option maxHeartbeats 2000000
namespace Fv
open PySem PySem.Spec PyProof.Rows L2
abbrev sMixed : Stmt := top 47
abbrev sNumber : Stmt := top 49
theorem list_cons_perm {α : Type} (i : Nat) (y : α) (xs : List α) : (xs.take i ++ [y] ++ xs.drop i).Perm (y :: xs) := by
  have h : (xs.take i ++ [y] ++ xs.drop i).Perm ([y] ++ xs.take i ++ xs.drop i) := List.Perm.append_right _ List.perm_append_comm
  have e : [y] ++ xs.take i ++ xs.drop i = y :: xs := by
    rw [List.append_assoc, List.take_append_drop]
    rfl
  exact e ▸ h
theorem BagAt.uniq {H : Hp} {b c d : Addr} (h : BagAt H b c) (g : BagAt H b d) : d = c := by
  obtain ⟨cs, p, s, i, B⟩ := h
  exact B.same g
/-- the items of a row, in another order -/
def spMixed (K : PySem.W.Frag) : Sp := fun vs H Q _ => ∃ (b a : Addr) (xs : List V), vs = [.ref b, .ref a] ∧ Bag H b ∧ a ≠ b ∧ H a = some (.lst xs) ∧ xs.length ≤ 60 ∧
  ∀ (p : Addr) (ys : List V) (H' : Hp), H p = none → p ≠ sysModules → H' p = some (.lst ys) → ys.Perm xs → Bag H' b → Keep b H H' → (∀ c, BagAt H b c → BagAt H' b c) → Q (.ref p) H'
section
variable {P : Program} {w : World} {K : PySem.W.Frag} {mg : Str → Option Value} {base : Heap}
theorem scMx : FnScope ["_law_bag_here", "_law_things", "_law_found", "_law_thing"] ["_law_bag_here", "_law_things"] (defScope sMixed) := ⟨rfl, rfl, rfl, by decide +kernel, rfl, by decide +kernel, by decide +kernel⟩
theorem ok_mixed {f fT : Addr} {fd fdT : FuncData} (F : Fun K "_law_mixed" "_law_mixed" sMixed f fd) (GT : FnOk P w K mg base CX0 1 fT fdT ["_law_bag_here", "_law_many"] spTake) (bT : Binds K fdT ["_law_bag_here", "_law_many"] []) (mT : mg "_law_take" = some (.ref fT)) (kT : PySem.W.keepIn K (.ref fT) = true)
    (ml : mg "len" = none) : FnOk P w K mg base CX0 2 f fd ["_law_bag_here", "_law_things"] (spMixed K) := by
  refine F.ok scMx (fun vs H Q E h => ?_) (fun cdv A outer s H vs Q E hr h => ?_)
  · obtain ⟨b, a, xs, rfl, _⟩ := h
    rfl
  · obtain ⟨b, a, xs, rfl, B, ab, ha, hl, q⟩ := h
    have hr1 : Room 1 _ := hr.mono (by decide)
    refine ⟨_, pss_cons (ps_set (i := 2) scMx.nd rfl (.inl rfl) (pe_lstB pa_nil))
      (pss_cons (ps_for PassesOwn.never rfl (pi_list (pv 1)) (pg_name (i := 3) scMx.nd rfl (.inl rfl))
        (pss_one (ps_expr (pe_bm PySem.F.plainAttrs_list PySem.F.slot_list_insert PySem.F.type_list_insert mt_insert (pv 2)
          (pa_cons (pe_call GT hr1 (by rfl) mT kT bT .nil pass0 (pa_cons (pv 0) (pa_cons (pe_op op_add (pe_callB call_len_seq (by rfl) ml PySem.boot_len (pa_cons (pv 2) pa_nil)) pe_int) pa_nil))) (pa_cons (pv 3) pa_nil))))))
      (pss_one (ps_ret (pv 2)))), ?_⟩
    obtain ⟨c0, B0⟩ := B
    refine ⟨Nat.zero_le _, fun p np mp => ?_⟩
    obtain ⟨B1, pb, pc⟩ := BagAt.new (o := .lst []) B0 np
    have ea : (upd H p (.lst [])) a = some (.lst xs) := by rw [upd_ne (ne_of_none ha np)]; exact ha
    have pa : a ≠ p := ne_of_none ha np
    refine ⟨_, rfl, a, rfl, ⟨_, SqL.of ea⟩, ?_⟩
    refine for_list (K := K) (a := a) (xs := xs) (fun i σ H' => ∃ y : Option V, σ = [some (.ref b), some (.ref a), some (.ref p), y] ∧ BagAt H' b c0 ∧ Keep b H H' ∧ H' a = some (.lst xs) ∧ ∃ ys : List V, H' p = some (.lst ys) ∧ ys.Perm (xs.take i))
      ⟨none, rfl, B1, Keep.new np, ea, [], upd_same, .nil⟩ (fun i σ H' _ h => ?_) ?_ ?_
    · obtain ⟨y, _, _, _, e, _⟩ := h
      exact SqL.of e
    · rintro i x σ H2 hx ⟨y, rfl, B2, k2, e2, ys, ep, pe⟩
      have hi : i < xs.length := (List.getElem?_eq_some_iff.mp hx).1
      have hys : ys.length = i := by rw [pe.length_eq, List.length_take]; omega
      refine ⟨_, rfl, .inl ⟨rfl, _, SqL.of ep⟩, _, rfl, _, rfl, p, ys, rfl, .inl (SqL.of ep), _, _, rfl, rfl, b, _, rfl, B2.bag, by omega, by omega, fun r H3 h3 B3 k3 g3 => ?_⟩
      refine ⟨_, rfl, p, ys, r, x, rfl, rfl, k3 _ _ pb ep, small1000 (by omega), by omega, by omega, ?_⟩
      refine ⟨some x, rfl, (g3 _ B2).put pb pc, fun c o n e => ?_, ?_, _, upd_same, ?_⟩
      · rw [upd_ne (ne_of_none e np)]
        exact k3 c o n (k2 c o n e)
      · rw [upd_ne pa]
        exact k3 _ _ ab e2
      · rw [List.take_add_one, hx]
        exact (list_cons_perm _ _ _).trans ((List.Perm.cons x pe).trans (List.perm_append_singleton x (xs.take i)).symm)
    · rintro σ H2 ⟨y, rfl, B2, k2, e2, ys, ep, pe⟩
      rw [List.take_length] at pe
      refine ⟨_, rfl, ?_⟩
      exact q p ys H2 np mp ep pe B2.bag k2 fun c hc => by rw [BagAt.uniq B0 hc]; exact B2
/-! ### a number -/
theorem ten_le : ∀ n : Nat, n < 40 → 2 ≤ ten n + 1 ∧ ten n ≤ 10 ^ 39 := by decide +kernel
def spNumber : Sp := fun vs H Q _ => ∃ b : Addr, vs = [.ref b] ∧ Bag H b ∧ ∀ (z : Int) (H' : Hp), -(10 ^ 39) ≤ z → z ≤ 10 ^ 39 → Bag H' b → Keep b H H' → (∀ c, BagAt H b c → BagAt H' b c) → Q (.int z) H'
theorem scNb : FnScope ["_law_bag_here", "_law_wide"] ["_law_bag_here"] (defScope sNumber) := ⟨rfl, rfl, rfl, by decide +kernel, rfl, by decide +kernel, by decide +kernel⟩
theorem ok_number {f fT : Addr} {fd fdT : FuncData} (F : Fun K "_law_number" "_law_number" sNumber f fd) (GT : FnOk P w K mg base CX0 1 fT fdT ["_law_bag_here", "_law_many"] spTake) (bT : Binds K fdT ["_law_bag_here", "_law_many"] []) (mT : mg "_law_take" = some (.ref fT)) (kT : PySem.W.keepIn K (.ref fT) = true)
    (mi : mg "int" = none) : FnOk P w K mg base CX0 2 f fd ["_law_bag_here"] spNumber := by
  refine F.ok scNb (fun vs H Q E h => ?_) (fun cdv A outer s H vs Q E hr h => ?_)
  · obtain ⟨b, rfl, _⟩ := h
    rfl
  · obtain ⟨b, rfl, B, q⟩ := h
    have hr1 : Room 1 _ := hr.mono (by decide)
    refine ⟨_, pss_cons (ps_if (pt_cmpR op_eq (pe_call GT hr1 (by rfl) mT kT bT .nil pass0 (pa_cons (pv 0) (pa_cons pe_int pa_nil))) pe_int (nomark _))
        (pss_cons (ps_set (i := 1) scNb.nd rfl (.inl rfl) (pe_op op_sub (pe_callTy call_int_str (by rfl) mi (by decide +kernel) (pa_cons (pe_op op_add_str pe_str (pe_op op_zeros pe_str (pe_op op_add pe_int (pe_call GT hr1 (by rfl) mT kT bT .nil pass0 (pa_cons (pv 0) (pa_cons pe_int pa_nil)))))) pa_nil)) (pe_call GT hr1 (by rfl) mT kT bT .nil pass0 (pa_cons (pv 0) (pa_cons pe_int pa_nil)))))
        (pss_one (ps_ret (pe_ifExp (pt_cmpR op_eq (pe_call GT hr1 (by rfl) mT kT bT .nil pass0 (pa_cons (pv 0) (pa_cons pe_int pa_nil))) pe_int (nomark _)) (pv 1) (pe_un un_neg (pv 1)))))) pss_nil)
      (pss_one (ps_ret (pe_op op_sub (pe_call GT hr1 (by rfl) mT kT bT .nil pass0 (pa_cons (pv 0) (pa_cons pe_int pa_nil))) pe_int))), ?_⟩
    refine ⟨_, rfl, b, 12, rfl, B, by decide, by decide, fun r H1 h1 B1 k1 g1 => ?_⟩
    refine ⟨rfl, _, rfl, ite2 (fun e => ?_) (fun e => ?_)⟩
    · refine ⟨_, rfl, b, 38, rfl, B1, by decide, by decide, fun n H2 h2 B2 k2 g2 => ?_⟩
      have hn : 1 + n < 40 := by omega
      obtain ⟨it, il⟩ := int_zeros (1 + n) hn
      obtain ⟨t0, t1⟩ := ten_le (1 + n) hn
      refine ⟨_, _, rfl, rfl, 1 + n, rfl, congrArg V.int (by omega), by omega, _, _, rfl, rfl, Nat.le_trans (by rw [← strLen_append]; exact il) (by decide), _, _, rfl, it, il, ?_⟩
      refine ⟨_, rfl, b, 2, rfl, B2, by decide, by decide, fun d H3 h3 B3 k3 g3 => ⟨_, _, rfl, rfl, ?_⟩⟩
      refine ⟨_, rfl, b, 2, rfl, B3, by decide, by decide, fun o H4 h4 B4 k4 g4 => ?_⟩
      have kk : Keep b H H4 := ((k1.trans k2).trans k3).trans k4
      have gg : ∀ c, BagAt H b c → BagAt H4 b c := fun c hc => g4 c (g3 c (g2 c (g1 c hc)))
      refine ⟨rfl, _, rfl, ite2 (fun e => ?_) (fun e => ?_)⟩
      · exact ⟨_, rfl, q _ H4 (by omega) (by omega) B4 kk gg⟩
      · exact ⟨_, rfl, _, rfl, q _ H4 (by omega) (by omega) B4 kk gg⟩
    · refine ⟨_, rfl, b, 9, rfl, B1, by decide, by decide, fun n H2 h2 B2 k2 g2 => ⟨_, _, rfl, rfl, ?_⟩⟩
      exact q _ H2 (by omega) (by omega) B2 (k1.trans k2) fun c hc => g2 c (g1 c hc)
end
end Fv


set_option Elab.async false
set_option linter.all false
set_option maxRecDepth 100000
set_option maxHeartbeats 1000000
/-! data in which instances of one own class may stand (told as None: what is asked of them is the same) -/
namespace Fv
open PySem PySem.Spec PyProof.Rows L2
mutual
inductive Dx (C : Addr) (H : Hp) (b : Addr) : V → PyData → Prop
  | non : Dx C H b .non .none
  | bl (x : Bool) : Dx C H b (.bl x) (.bool x)
  | int (i : Int) : Dx C H b (.int i) (.int i)
  | str (x : Str) : Dx C H b (.str x) (.str x)
  | obj {a dx : Addr} {fs : List (Str × V)} : H a = some (.ins C dx fs) → a ≠ b → Dx C H b (.ref a) .none
  | lst {a : Addr} {xs : List V} {ds : List PyData} : H a = some (.lst xs) → a ≠ b → DxAll C H b xs ds → Dx C H b (.ref a) (.list ds)
  | tup {a : Addr} {xs : List V} {ds : List PyData} : H a = some (.tup xs) → a ≠ b → DxAll C H b xs ds → Dx C H b (.ref a) (.tuple ds)
  | dct {a : Addr} {kvs : List (Key × V)} {ps : List (PyData × PyData)} : H a = some (.dK kvs) → a ≠ b → Dx C H b (.ref a) (.dict ps)
inductive DxAll (C : Addr) (H : Hp) (b : Addr) : List V → List PyData → Prop
  | nil : DxAll C H b [] []
  | cons {v : V} {vs : List V} {d : PyData} {ds : List PyData} : Dx C H b v d → DxAll C H b vs ds → DxAll C H b (v :: vs) (d :: ds)
end
mutual
theorem Dx.mono {C : Addr} {H H' : Hp} {b : Addr} (k : ∀ a o, a ≠ b → H a = some o → H' a = some o) : ∀ {v : V} {d : PyData}, Dx C H b v d → Dx C H' b v d
  | _, _, .non => .non
  | _, _, .bl x => .bl x
  | _, _, .int i => .int i
  | _, _, .str x => .str x
  | _, _, .obj e n => .obj (k _ _ n e) n
  | _, _, .lst e n h => .lst (k _ _ n e) n (DxAll.mono k h)
  | _, _, .tup e n h => .tup (k _ _ n e) n (DxAll.mono k h)
  | _, _, .dct e n => .dct (k _ _ n e) n
theorem DxAll.mono {C : Addr} {H H' : Hp} {b : Addr} (k : ∀ a o, a ≠ b → H a = some o → H' a = some o) : ∀ {v : List V} {d : List PyData}, DxAll C H b v d → DxAll C H' b v d
  | _, _, .nil => .nil
  | _, _, .cons h t => .cons (Dx.mono k h) (DxAll.mono k t)
end
mutual
theorem Dq.x {C : Addr} {H : Hp} {b : Addr} : ∀ {v : V} {d : PyData}, Dq H b v d → Dx C H b v d
  | _, _, .non => .non
  | _, _, .bl x => .bl x
  | _, _, .int i => .int i
  | _, _, .str x => .str x
  | _, _, .lst e n _ h => .lst e n (DqAll.x h)
  | _, _, .tup e n h => .tup e n (DqAll.x h)
  | _, _, .dct e n _ _ => .dct e n
theorem DqAll.x {C : Addr} {H : Hp} {b : Addr} : ∀ {v : List V} {d : List PyData}, DqAll H b v d → DxAll C H b v d
  | _, _, .nil => .nil
  | _, _, .cons h t => .cons (Dq.x h) (DqAll.x t)
end
theorem DxAll.len {C : Addr} {H : Hp} {b : Addr} : ∀ {v : List V} {d : List PyData}, DxAll C H b v d → v.length = d.length
  | _, _, .nil => rfl
  | _, _, .cons _ t => by rw [List.length_cons, List.length_cons, DxAll.len t]
theorem DxAll.get {C : Addr} {H : Hp} {b : Addr} : ∀ {v : List V} {d : List PyData} {i : Nat} {x : V}, DxAll C H b v d → v[i]? = some x → ∃ e, d[i]? = some e ∧ Dx C H b x e
  | _, _, 0, _, .cons h _, e => ⟨_, rfl, by cases e; exact h⟩
  | _, _, i + 1, _, .cons _ t, e => DxAll.get (i := i) t e
theorem DxAll.at_ {C : Addr} {H : Hp} {b : Addr} : ∀ {v : List V} {d : List PyData} {i : Nat} {e : PyData}, DxAll C H b v d → d[i]? = some e → ∃ x, v[i]? = some x ∧ Dx C H b x e
  | _, _, 0, _, .cons h _, e => ⟨_, rfl, by cases e; exact h⟩
  | _, _, i + 1, _, .cons _ t, e => DxAll.at_ (i := i) t e
/-- what the written part says of that class -/
structure KFn (K : PySem.W.Frag) (C : Addr) : Prop where
  cl : Cls K C
  ha : PySem.W.findIn K (.ref C) "__class__" = some (some (.builtin "object.__class__"))
  hn : PySem.W.specialIn K (.builtin "object.__class__") "__get__" = some (some (.builtin "getset_descriptor.__get__"))
  htk : PySem.W.takesIn K (.builtin "object.__class__") = some true
  hm : PySem.W.mroIn K C (.type "object") = some true
  kI : PySem.W.kitOne K (.ref C) (.type "int") = some false
  kB : PySem.W.kitOne K (.ref C) (.type "bool") = some false
  kS : PySem.W.kitOne K (.ref C) (.type "str") = some false
  kL : PySem.W.kitOne K (.ref C) (.type "list") = some false
  kT : PySem.W.kitOne K (.ref C) (.type "tuple") = some false
def isListD : PyData → Bool
  | .list _ => true
  | _ => false
def isTupD : PyData → Bool
  | .tuple _ => true
  | _ => false
def rowD (d : PyData) : Bool := isListD d || isTupD d
theorem kit_list {K : PySem.W.Frag} (d : PyData) : PySem.W.kitOne K (.type (tyN d)) (.type "list") = some (isListD d) := by
  cases d
  · exact kit_ty (a := "NoneType") (b := "list") (r := false) (by decide +kernel)
  · exact kit_ty (a := "bool") (b := "list") (r := false) (by decide +kernel)
  · exact kit_ty (a := "int") (b := "list") (r := false) (by decide +kernel)
  · exact kit_ty (a := "str") (b := "list") (r := false) (by decide +kernel)
  · exact kit_ty (a := "list") (b := "list") (r := true) (by decide +kernel)
  · exact kit_ty (a := "tuple") (b := "list") (r := false) (by decide +kernel)
  · exact kit_ty (a := "dict") (b := "list") (r := false) (by decide +kernel)
theorem kit_tup {K : PySem.W.Frag} (d : PyData) : PySem.W.kitOne K (.type (tyN d)) (.type "tuple") = some (isTupD d) := by
  cases d
  · exact kit_ty (a := "NoneType") (b := "tuple") (r := false) (by decide +kernel)
  · exact kit_ty (a := "bool") (b := "tuple") (r := false) (by decide +kernel)
  · exact kit_ty (a := "int") (b := "tuple") (r := false) (by decide +kernel)
  · exact kit_ty (a := "str") (b := "tuple") (r := false) (by decide +kernel)
  · exact kit_ty (a := "list") (b := "tuple") (r := false) (by decide +kernel)
  · exact kit_ty (a := "tuple") (b := "tuple") (r := true) (by decide +kernel)
  · exact kit_ty (a := "dict") (b := "tuple") (r := false) (by decide +kernel)
structure Isa (K : PySem.W.Frag) (H : Hp) (v : V) (d : PyData) (t : Value) : Prop where
  ty : TyX K H v t
  i : PySem.W.kitOne K t (.type "int") = some (isIntD d)
  b : PySem.W.kitOne K t (.type "bool") = some (isBoolD d)
  s : PySem.W.kitOne K t (.type "str") = some (isStrD d)
  l : PySem.W.kitOne K t (.type "list") = some (isListD d)
  t : PySem.W.kitOne K t (.type "tuple") = some (isTupD d)
theorem Dx.isa {K : PySem.W.Frag} {C : Addr} {H : Hp} {b : Addr} {v : V} {d : PyData} (T : KFn K C) (h : Dx C H b v d) : ∃ t, Isa K H v d t := by
  have base : ∀ {v : V}, TyX K H v (.type (tyN d)) → ∃ t, Isa K H v d t := fun y => ⟨_, y, kit_int d, kit_bool d, kit_str d, kit_list d, kit_tup d⟩
  cases h with
  | non => exact base (.base .non)
  | bl x => exact base (.base (.bl x))
  | int i => exact base (.base (.int i))
  | str x => exact base (.base (.str x))
  | obj e n => exact ⟨_, .base (.ins e T.cl T.ha T.hn T.htk T.hm), T.kI, T.kB, T.kS, T.kL, T.kT⟩
  | lst e _ _ => exact base (.base (.lst e))
  | tup e _ _ => exact base (.base (.tup e))
  | dct e _ => exact base (.base (.dK e))
theorem Dx.str_of {C : Addr} {H : Hp} {b : Addr} {v : V} {d : PyData} (h : Dx C H b v d) (e : isStrD d = true) : ∃ z, v = .str z ∧ d = .str z := by
  cases h <;> first | exact ⟨_, rfl, rfl⟩ | cases e
theorem Dx.tup_of {C : Addr} {H : Hp} {b : Addr} {v : V} {d : PyData} (h : Dx C H b v d) (e : isTupD d = true) : ∃ a xs ds, v = .ref a ∧ d = .tuple ds ∧ H a = some (.tup xs) ∧ DxAll C H b xs ds := by
  cases h with
  | tup e1 n h => exact ⟨_, _, _, rfl, rfl, e1, h⟩
  | _ => cases e
/-- a list or a tuple: its items -/
theorem Dx.row_of {K : PySem.W.Frag} {C : Addr} {H : Hp} {b : Addr} {v : V} {d : PyData} (h : Dx C H b v d) (e : rowD d = true) : ∃ a xs ds, v = .ref a ∧ (d = .tuple ds ∨ d = .list ds) ∧ (SqL K H a xs ∨ SqT K H a xs) ∧ DxAll C H b xs ds := by
  cases h with
  | tup e1 n h => exact ⟨_, _, _, rfl, .inl rfl, .inr (SqT.of e1), h⟩
  | lst e1 n h => exact ⟨_, _, _, rfl, .inr rfl, .inl (SqL.of e1), h⟩
  | _ => cases e
/-! ### how large -/
mutual
def okD : PyData → Prop
  | .str z => z.length ≤ 1000 ∧ ∀ c ∈ z.cps.toList, c < 128
  | .list ds => ds.length ≤ 60 ∧ okAll ds
  | .tuple ds => ds.length ≤ 60 ∧ okAll ds
  | _ => True
def okAll : List PyData → Prop
  | [] => True
  | d :: ds => okD d ∧ okAll ds
end
theorem okAll.mem : ∀ {ds : List PyData}, okAll ds → ∀ d ∈ ds, okD d
  | d :: ds, h, x, hx => by
    rcases List.mem_cons.mp hx with rfl | hx
    · exact h.1
    · exact okAll.mem h.2 x hx
/-! ### integers, names, sources -/
abbrev sIsInt : Stmt := top 12
abbrev sIsName : Stmt := top 13
abbrev sIsSource : Stmt := top 14
abbrev sIsRow : Stmt := top 19
def abc : Str := "abcdefghijklmnopqrstuvwxyz"
def nameS (z : Str) : Bool := decide (1 ≤ z.length) && decide (z.length ≤ 8) && z.cps.toList.all fun c => decide (c ∈ abc.cps.toList)
def nameD : PyData → Bool
  | .str z => nameS z
  | _ => false
def emptyD : PyData → Bool
  | .str z => decide (z.length = 0)
  | _ => false
def sourceD (d : PyData) : Bool := nameD d || emptyD d
def intD (d : PyData) : Bool := isIntD d && !isBoolD d
theorem name_not {d : PyData} (h : isStrD d = false) : nameD d = false := by cases d <;> first | rfl | cases h
theorem empty_not {d : PyData} (h : isStrD d = false) : emptyD d = false := by cases d <;> first | rfl | cases h
theorem small_line {n : Nat} (h : n ≤ 1000) : n ≤ sizeLine := Nat.le_of_lt (small1000 h)
def spX (C : Addr) (g : PyData → Bool) : Sp := fun vs H Q _ => ∃ (b : Addr) (v : V) (d : PyData), vs = [v] ∧ Dx C H b v d ∧ okD d ∧ (∃ o, H b = some o) ∧ ∀ H', Same H H' → Q (.bl (g d)) H'
section
variable {P : Program} {w : World} {K : PySem.W.Frag} {mg : Str → Option Value} {base : Heap} {C : Addr}
theorem sc1 : FnScope ["thing"] ["thing"] (defScope sIsInt) := ⟨rfl, rfl, rfl, by decide +kernel, rfl, by decide +kernel, by decide +kernel⟩
theorem ok_isint {f : Addr} {fd : FuncData} (T : KFn K C) (F : Fun K "is_integer" "is_integer" sIsInt f fd) (mq : mg "isinstance" = none) (mi : mg "int" = none) (mb : mg "bool" = none) : FnOk P w K mg base CX0 1 f fd ["thing"] (spX C intD) := by
  refine F.ok sc1 (fun vs H Q E h => ?_) (fun cdv A outer s H vs Q E hr h => ?_)
  · obtain ⟨b, v, d, rfl, _⟩ := h
    rfl
  · obtain ⟨b, v, d, rfl, hd, _, _, q⟩ := h
    obtain ⟨t, I⟩ := hd.isa T
    refine ⟨_, pss_one (ps_ret (pe_and (pe_callB call_isi (by rfl) mq (by decide +kernel) (pa_cons (pv 0) (pa_cons (pe_bltn (v := .ty "int") (by rfl) mi boot_int rfl) pa_nil)))
      (pe_one (pe_not (pe_callB call_isi (by rfl) mq (by decide +kernel) (pa_cons (pv 0) (pa_cons (pe_bltn (v := .ty "bool") (by rfl) mb boot_bool rfl) pa_nil))))))), ?_⟩
    refine ⟨_, rfl, _, _, _, _, _, rfl, .ty "int", I.ty, I.i, _, rfl, ?_⟩
    have e : intD d = (isIntD d && !isBoolD d) := rfl
    rw [e] at q
    cases h1 : isIntD d with
    | false =>
      rw [h1] at q
      exact q H fun _ _ e => e
    | true =>
      rw [h1] at q
      exact ⟨_, rfl, _, _, _, _, _, rfl, .ty "bool", I.ty, I.b, _, rfl, q H fun _ _ e => e⟩
theorem sc2 : FnScope ["thing", "letter"] ["thing"] (defScope sIsName) := ⟨rfl, rfl, rfl, by decide +kernel, rfl, by decide +kernel, by decide +kernel⟩
theorem ok_isname {f : Addr} {fd : FuncData} {t u : Tok} (T : KFn K C) (F : Fun K "is_name" "is_name" sIsName f fd) (mq : mg "isinstance" = none) (ms : mg "str" = none) (ml : mg "len" = none) (ma : mg "all" = none)
    (mL : mg "LETTERS" = some (.str abc t)) (mN : mg "LONGEST_NAME" = some (.int 8 u)) : FnOk P w K mg base CX0 1 f fd ["thing"] (spX C nameD) := by
  refine F.ok sc2 (fun vs H Q E h => ?_) (fun cdv A outer s H vs Q E hr h => ?_)
  · obtain ⟨b, v, d, rfl, _⟩ := h
    rfl
  · obtain ⟨b, v, d, rfl, hd, hs, hb, q⟩ := h
    obtain ⟨t', I⟩ := hd.isa T
    refine ⟨_, pss_cons (ps_if (PW.pt (pw_or (pt_not (pt_val (pe_callB call_isi (by rfl) mq (by decide +kernel) (pa_cons (pv 0) (pa_cons (pe_bltn (v := .ty "str") (by rfl) ms boot_str rfl) pa_nil)))))
        (pw_or1 (pt_not (pt_chain op_le op_le pe_int (pe_callB call_len_str (by rfl) ml PySem.boot_len (pa_cons (pv 0) pa_nil)) (pe_glob (v := .int 8) (by rfl) mN ⟨_, rfl⟩))))))
        (pss_one (ps_ret pe_bl)) pss_nil)
      (pss_one (ps_ret (pe_callB (cr_all rfl) (by rfl) ma (by decide +kernel) (pa_cons
        (pe_lc (own := [("letter", 1)]) (g := gName 1) (tt := tYes) rfl sc2.nd (pi_str (pv 0)) (blkOk_by (N := ["thing", "letter"]) (sc := defScope sIsName) (by decide +kernel))
        (fun _ _ _ _ _ => pg_name (i := 1) sc2.nd rfl (Or.inl rfl)) (fun _ _ _ _ _ => pts_nil) (fun _ _ _ _ _ => pe_cmpR op_in_sign (pv 1) (pe_glob (v := .str abc) (by rfl) mL ⟨_, rfl⟩) (by rfl))) pa_nil)))), ?_⟩
    refine ⟨_, rfl, _, _, _, _, _, rfl, .ty "str", I.ty, I.s, _, rfl, ?_⟩
    cases h1 : isStrD d with
    | false =>
      rw [name_not h1] at q
      exact q H fun _ _ e => e
    | true =>
      obtain ⟨z, rfl, rfl⟩ := hd.str_of h1
      have hz : z.length ≤ sizeLine := small_line hs.1
      have e : nameD (.str z) = (decide (1 ≤ z.length) && decide (z.length ≤ 8) && z.cps.toList.all fun c => decide (c ∈ abc.cps.toList)) := rfl
      rw [e] at q
      refine ⟨_, rfl, z, rfl, hz, _, _, rfl, rfl, _, rfl, ?_⟩
      by_cases a1 : (1 : Int) ≤ (z.length : Int)
      · have b1 : decide (1 ≤ z.length) = true := decide_eq_true (by omega)
        rw [b1] at q
        rw [decide_eq_true a1]
        refine ⟨_, _, rfl, rfl, _, rfl, ?_⟩
        by_cases a2 : (z.length : Int) ≤ 8
        · have b2 : decide (z.length ≤ 8) = true := decide_eq_true (by omega)
          rw [b2] at q
          rw [decide_eq_true a2]
          refine iteF ?_
          refine ⟨_, rfl, z, rfl, fun D hD => ?_⟩
          refine lc_it walk_str (fun i H1 => Same H H1 ∧ H1 D = some (.lst ((z.cps.toList.take i).map fun c => V.bl (decide (c ∈ abc.cps.toList))))) ⟨same_upd hD, upd_same⟩ (fun _ _ _ _ => True.intro) ?_ ?_
          · rintro i x H1 H2 hi ⟨s1, e1⟩ ⟨rfl, c, hc, rfl⟩
            refine ⟨rfl, _, rfl, c, abc, rfl, rfl, _, e1, ?_, fun a o e => ?_, ?_⟩
            · rw [List.length_map, List.length_take]
              have : z.cps.toList.length = z.length := by simp [Str.length]
              exact small1000 (by have : z.length ≤ 1000 := hs.1; omega)
            · have : a ≠ D := ne_of_none e hD
              rw [upd_ne this]
              exact s1 a o e
            · have hc' : z.cps.toList[i]? = some c := by simpa using hc
              rw [upd_same, List.take_add_one, hc', List.map_append]
              rfl
          · rintro H1 ⟨s1, e1⟩
            have ez : z.cps.size = z.cps.toList.length := by simp
            rw [ez, List.take_length] at e1
            refine ⟨D, z.cps.toList.map fun c => decide (c ∈ abc.cps.toList), rfl, SqL.of (by rw [List.map_map]; exact e1), ?_⟩
            rw [List.all_map]
            exact q H1 s1
        · have b2 : decide (z.length ≤ 8) = false := decide_eq_false (by omega)
          rw [b2] at q
          rw [decide_eq_false a2]
          exact q H fun _ _ e => e
      · have b1 : decide (1 ≤ z.length) = false := decide_eq_false (by omega)
        rw [b1] at q
        rw [decide_eq_false a1]
        exact ⟨_, rfl, q H fun _ _ e => e⟩
theorem sc3 : FnScope ["thing"] ["thing"] (defScope sIsSource) := ⟨rfl, rfl, rfl, by decide +kernel, rfl, by decide +kernel, by decide +kernel⟩
theorem ok_issource {f f1 : Addr} {fd fd1 : FuncData} (T : KFn K C) (F : Fun K "is_source" "is_source" sIsSource f fd) (G : FnOk P w K mg base CX0 1 f1 fd1 ["thing"] (spX C nameD)) (b1 : Binds K fd1 ["thing"] []) (m1 : mg "is_name" = some (.ref f1)) (k1 : PySem.W.keepIn K (.ref f1) = true)
    (mq : mg "isinstance" = none) (ms : mg "str" = none) (ml : mg "len" = none) : FnOk P w K mg base CX0 2 f fd ["thing"] (spX C sourceD) := by
  refine F.ok sc3 (fun vs H Q E h => ?_) (fun cdv A outer s H vs Q E hr h => ?_)
  · obtain ⟨b, v, d, rfl, _⟩ := h
    rfl
  · obtain ⟨b, v, d, rfl, hd, hs, hb, q⟩ := h
    refine ⟨_, pss_one (ps_ret (pe_or (pe_call G hr (by rfl) m1 k1 b1 .nil pass0 (pa_cons (pv 0) pa_nil))
      (pe_one (pe_and (pe_callB call_isi (by rfl) mq (by decide +kernel) (pa_cons (pv 0) (pa_cons (pe_bltn (v := .ty "str") (by rfl) ms boot_str rfl) pa_nil)))
        (pe_one (pe_cmpR op_eq (pe_callB call_len_str (by rfl) ml PySem.boot_len (pa_cons (pv 0) pa_nil)) pe_int (nomark _))))))), ?_⟩
    refine ⟨_, rfl, b, v, d, rfl, hd, hs, hb, fun H1 s1 => ⟨_, rfl, ?_⟩⟩
    have e : sourceD d = (nameD d || emptyD d) := rfl
    rw [e] at q
    cases h0 : nameD d with
    | true =>
      rw [h0] at q
      exact q H1 s1
    | false =>
      rw [h0, Bool.false_or] at q
      have hd1 : Dx C H1 b v d := hd.mono fun a o _ e => s1 a o e
      obtain ⟨t', I⟩ := hd1.isa T
      refine iteF ⟨_, rfl, _, _, _, _, _, rfl, .ty "str", I.ty, I.s, _, rfl, ?_⟩
      cases h1 : isStrD d with
      | false =>
        rw [empty_not h1] at q
        exact q H1 s1
      | true =>
        obtain ⟨z, rfl, rfl⟩ := hd.str_of h1
        refine iteT ⟨_, rfl, z, rfl, small_line hs.1, rfl, ?_⟩
        have e2 : decide (V.int (z.length : Int) = V.int 0) = decide (z.length = 0) := by
          rw [Bool.eq_iff_iff]
          simp
        show Q (V.bl (decide (V.int (z.length : Int) = V.int 0))) H1
        rw [e2]
        exact q H1 s1
end
end Fv


set_option Elab.async false
set_option linter.all false
set_option maxRecDepth 100000
set_option maxHeartbeats 1000000
/-! rows: a list or a tuple, walked; parts of statements known -/
namespace L2
open PySem PySem.Spec PyProof.Rows
theorem SqL.same {K : PySem.W.Frag} {H H' : Hp} {a : Addr} {xs : List V} (s : ∀ c o, H c = some o → H' c = some o) (h : SqL K H a xs) : SqL K H' a xs := by
  rcases h with (h | ⟨o, h⟩) | h
  · exact .inl (.inl (s _ _ h))
  · exact .inl (.inr ⟨o, s _ _ h⟩)
  · exact .inr h
theorem SqT.same {K : PySem.W.Frag} {H H' : Hp} {a : Addr} {xs : List V} (s : ∀ c o, H c = some o → H' c = some o) (h : SqT K H a xs) : SqT K H' a xs := by
  rcases h with (h | ⟨o, h⟩) | h
  · exact .inl (.inl (s _ _ h))
  · exact .inl (.inr ⟨o, s _ _ h⟩)
  · exact .inr h
section
variable {X : Cx} {tg : Expr}
def iRow (K : PySem.W.Frag) (tl : TE) : TI := fun σ H R => tl σ H fun x H1 => ∃ a xs, x = .ref a ∧ (SqL K H1 a xs ∨ SqT K H1 a xs) ∧ ∀ J G, Walk J xs.length G (YAt xs) → (∀ H', (∀ c o, H1 c = some o → H' c = some o) → G H') → R J H1
/-- a name that holds a list or a tuple -/
theorem pi_row {l : Expr} {i : Nat} (hl : PE X l (tVar i)) : PI X tg l (iRow X.K (tVar i)) := by
  constructor
  intro pins s σ H R I h
  obtain ⟨v, e, a, xs, ev, hq, q⟩ := h
  rcases hq with hq | hq
  · exact (pi_list hl).run pins s σ H R I ⟨v, e, a, ev, ⟨xs, hq⟩, q _ _ walk_list fun H' s => hq.same s⟩
  · exact (pi_tup hl).run pins s σ H R I ⟨v, e, a, ev, ⟨xs, hq⟩, q _ _ walk_tup fun H' s => hq.same s⟩
end
end L2
namespace Fv
open PySem PySem.Spec PyProof.Rows L2
abbrev sAreParts : Stmt := top 30
abbrev sIsPart : Stmt := top 31
abbrev sIsSetting : Stmt := top 29
def pairD : PyData → Bool
  | .tuple [x, y] => sourceD x && intD y
  | _ => false
def tripD : PyData → Bool
  | .tuple [x, y, z] => nameD x && sourceD y && intD z
  | _ => false
def itemsD : PyData → List PyData
  | .tuple ds => ds
  | .list ds => ds
  | _ => []
def partsD (d : PyData) : Bool := rowD d && (itemsD d).all pairD
theorem pair_not {d : PyData} (h : isTupD d = false) : pairD d = false := by cases d <;> first | rfl | cases h
theorem trip_not {d : PyData} (h : isTupD d = false) : tripD d = false := by cases d <;> first | rfl | cases h
theorem pair_len {ds : List PyData} (h : ds.length ≠ 2) : pairD (.tuple ds) = false := by
  match ds, h with
  | [], _ => rfl
  | [_], _ => rfl
  | [_, _], h => exact absurd rfl h
  | _ :: _ :: _ :: _, _ => rfl
theorem trip_len {ds : List PyData} (h : ds.length ≠ 3) : tripD (.tuple ds) = false := by
  match ds, h with
  | [], _ => rfl
  | [_], _ => rfl
  | [_, _], _ => rfl
  | [_, _, _], h => exact absurd rfl h
  | _ :: _ :: _ :: _ :: _, _ => rfl
theorem len_of {n m : Nat} (e : ¬ ((!decide (V.int (n : Int) = V.int (m : Int))) = true)) : n = m := by
  rw [Bool.not_eq_true, Bool.not_eq_false'] at e
  have := V.int.inj (of_decide_eq_true e)
  omega
theorem DxAll.two {C : Addr} {H : Hp} {b : Addr} {x y : V} {ds : List PyData} (h : DxAll C H b [x, y] ds) : ∃ dx dy, ds = [dx, dy] ∧ Dx C H b x dx ∧ Dx C H b y dy := by
  cases h with
  | cons h1 h => cases h with
    | cons h2 h =>
      cases h
      exact ⟨_, _, rfl, h1, h2⟩
theorem DxAll.three {C : Addr} {H : Hp} {b : Addr} {x y z : V} {ds : List PyData} (h : DxAll C H b [x, y, z] ds) : ∃ dx dy dz, ds = [dx, dy, dz] ∧ Dx C H b x dx ∧ Dx C H b y dy ∧ Dx C H b z dz := by
  cases h with
  | cons h1 h => cases h with
    | cons h2 h => cases h with
      | cons h3 h =>
        cases h
        exact ⟨_, _, _, rfl, h1, h2, h3⟩
theorem two_of {xs : List V} (h : xs.length = 2) : ∃ x y, xs = [x, y] := by
  match xs, h with
  | [x, y], _ => exact ⟨x, y, rfl⟩
theorem three_of {xs : List V} (h : xs.length = 3) : ∃ x y z, xs = [x, y, z] := by
  match xs, h with
  | [x, y, z], _ => exact ⟨x, y, z, rfl⟩
section
variable {P : Program} {w : World} {K : PySem.W.Frag} {mg : Str → Option Value} {base : Heap} {C : Addr}
theorem sc5 : FnScope ["thing"] ["thing"] (defScope sIsRow) := ⟨rfl, rfl, rfl, by decide +kernel, rfl, by decide +kernel, by decide +kernel⟩
theorem ok_isrow {f : Addr} {fd : FuncData} (T : KFn K C) (F : Fun K "is_row" "is_row" sIsRow f fd) (mq : mg "isinstance" = none) (ml : mg "list" = none) (mt : mg "tuple" = none) : FnOk P w K mg base CX0 1 f fd ["thing"] (spX C rowD) := by
  refine F.ok sc5 (fun vs H Q E h => ?_) (fun cdv A outer s H vs Q E hr h => ?_)
  · obtain ⟨b, v, d, rfl, _⟩ := h
    rfl
  · obtain ⟨b, v, d, rfl, hd, _, _, q⟩ := h
    refine ⟨_, pss_one (ps_ret (pe_callB call_isiT (by rfl) mq (by decide +kernel) (pa_cons (pv 0) (pa_cons (pe_tup (pa_cons (pe_bltn (v := .ty "list") (by rfl) ml boot_list rfl) (pa_cons (pe_bltn (v := .ty "tuple") (by rfl) mt boot_tuple rfl) pa_nil))) pa_nil)))), ?_⟩
    refine ⟨_, rfl, by show 2 ≤ sizeLine; decide, fun p np => ?_⟩
    obtain ⟨t, I⟩ := (hd.mono fun a o _ e => same_upd (o := .tup [.ty "list", .ty "tuple"]) np a o e).isa T
    exact ⟨_, _, _, _, _, _, rfl, upd_same, .cons (.ty "list") (.cons (.ty "tuple") .nil), I.ty, kitAny_cons (r := rowD d) I.l (fun e => by
      refine kitAny_cons (r := rowD d) I.t (fun e2 => ?_) (fun e2 => ?_)
      · unfold rowD
        rw [e, e2]
        rfl
      · unfold rowD
        rw [e2, Bool.or_true]) (fun e => by
      unfold rowD
      rw [e]
      rfl), q _ (same_upd np)⟩
theorem sc6 : FnScope ["thing"] ["thing"] (defScope sIsPart) := ⟨rfl, rfl, rfl, by decide +kernel, rfl, by decide +kernel, by decide +kernel⟩
theorem ok_ispart {f fS fI : Addr} {fd fdS fdI : FuncData} (T : KFn K C) (F : Fun K "_is_part" "_is_part" sIsPart f fd)
    (GS : FnOk P w K mg base CX0 2 fS fdS ["thing"] (spX C sourceD)) (bS : Binds K fdS ["thing"] []) (mS : mg "is_source" = some (.ref fS)) (kS : PySem.W.keepIn K (.ref fS) = true)
    (GI : FnOk P w K mg base CX0 1 fI fdI ["thing"] (spX C intD)) (bI : Binds K fdI ["thing"] []) (mI : mg "is_integer" = some (.ref fI)) (kI : PySem.W.keepIn K (.ref fI) = true)
    (mq : mg "isinstance" = none) (mt : mg "tuple" = none) (ml : mg "len" = none) : FnOk P w K mg base CX0 3 f fd ["thing"] (spX C pairD) := by
  refine F.ok sc6 (fun vs H Q E h => ?_) (fun cdv A outer s H vs Q E hr h => ?_)
  · obtain ⟨b, v, d, rfl, _⟩ := h
    rfl
  · obtain ⟨b, v, d, rfl, hd, hs, hb, q⟩ := h
    obtain ⟨t, I⟩ := hd.isa T
    have hr1 : Room 1 _ := hr.mono (by decide)
    refine ⟨_, pss_cons (ps_if (PW.pt (pw_or (pt_not (pt_val (pe_callB call_isi (by rfl) mq (by decide +kernel) (pa_cons (pv 0) (pa_cons (pe_bltn (v := .ty "tuple") (by rfl) mt boot_tuple rfl) pa_nil)))))
        (pw_or1 (pt_cmpR op_ne (pe_callB call_len_seq (by rfl) ml PySem.boot_len (pa_cons (pv 0) pa_nil)) pe_int (nomark _)))))
        (pss_one (ps_ret pe_bl)) pss_nil)
      (pss_one (ps_ret (pe_and (pe_call GS hr (by rfl) mS kS bS .nil pass0 (pa_cons (pe_ix ix_tup (pv 0) pe_int (fun _ _ => rfl)) pa_nil))
        (pe_one (pe_call GI hr1 (by rfl) mI kI bI .nil pass0 (pa_cons (pe_ix ix_tup (pv 0) pe_int (fun _ _ => rfl)) pa_nil)))))), ?_⟩
    refine ⟨_, rfl, _, _, _, _, _, rfl, .ty "tuple", I.ty, I.t, _, rfl, ?_⟩
    cases h1 : isTupD d with
    | false =>
      rw [pair_not h1] at q
      exact q H fun _ _ e => e
    | true =>
      obtain ⟨a, xs, ds, rfl, rfl, e1, hx⟩ := hd.tup_of h1
      have hlen := hx.len
      refine ⟨_, rfl, a, xs, rfl, .inr (SqT.of e1), rfl, _, rfl, ite2 (fun e => ?_) (fun e => ?_)⟩
      · have n2 : ds.length ≠ 2 := fun z => by
          rw [hlen, z] at e
          exact absurd e (by decide)
        rw [pair_len n2] at q
        exact q H fun _ _ e => e
      · obtain ⟨x, y, rfl⟩ := two_of (len_of e)
        obtain ⟨dx, dy, rfl, h1, h2⟩ := hx.two
        · have hs2 : okD dx ∧ okD dy ∧ True := hs.2
          refine ⟨_, rfl, a, _, _, _, rfl, rfl, SqT.of e1, atI_nat (j := 0) rfl, b, x, dx, rfl, h1, hs2.1, hb, fun H1 s1 => ⟨_, rfl, ?_⟩⟩
          have ep : pairD (.tuple [dx, dy]) = (sourceD dx && intD dy) := rfl
          rw [ep] at q
          cases h3 : sourceD dx with
          | false =>
            rw [h3] at q
            exact q H1 s1
          | true =>
            rw [h3] at q
            refine ⟨_, rfl, a, _, _, _, rfl, rfl, SqT.of (s1 _ _ e1), atI_nat (j := 1) rfl, b, y, dy, rfl, h2.mono fun c o _ e => s1 c o e, hs2.2.1, there s1 hb, fun H2 s2 => ?_⟩
            exact q H2 (s1.trans s2)
theorem sc7 : FnScope ["thing"] ["thing"] (defScope sIsSetting) := ⟨rfl, rfl, rfl, by decide +kernel, rfl, by decide +kernel, by decide +kernel⟩
theorem ok_issetting {f fN fS fI : Addr} {fd fdN fdS fdI : FuncData} (T : KFn K C) (F : Fun K "_is_setting" "_is_setting" sIsSetting f fd)
    (GN : FnOk P w K mg base CX0 1 fN fdN ["thing"] (spX C nameD)) (bN : Binds K fdN ["thing"] []) (mN : mg "is_name" = some (.ref fN)) (kN : PySem.W.keepIn K (.ref fN) = true)
    (GS : FnOk P w K mg base CX0 2 fS fdS ["thing"] (spX C sourceD)) (bS : Binds K fdS ["thing"] []) (mS : mg "is_source" = some (.ref fS)) (kS : PySem.W.keepIn K (.ref fS) = true)
    (GI : FnOk P w K mg base CX0 1 fI fdI ["thing"] (spX C intD)) (bI : Binds K fdI ["thing"] []) (mI : mg "is_integer" = some (.ref fI)) (kI : PySem.W.keepIn K (.ref fI) = true)
    (mq : mg "isinstance" = none) (mt : mg "tuple" = none) (ml : mg "len" = none) : FnOk P w K mg base CX0 3 f fd ["thing"] (spX C tripD) := by
  refine F.ok sc7 (fun vs H Q E h => ?_) (fun cdv A outer s H vs Q E hr h => ?_)
  · obtain ⟨b, v, d, rfl, _⟩ := h
    rfl
  · obtain ⟨b, v, d, rfl, hd, hs, hb, q⟩ := h
    obtain ⟨t, I⟩ := hd.isa T
    have hr1 : Room 1 _ := hr.mono (by decide)
    refine ⟨_, pss_cons (ps_if (PW.pt (pw_or (pt_not (pt_val (pe_callB call_isi (by rfl) mq (by decide +kernel) (pa_cons (pv 0) (pa_cons (pe_bltn (v := .ty "tuple") (by rfl) mt boot_tuple rfl) pa_nil)))))
        (pw_or1 (pt_cmpR op_ne (pe_callB call_len_seq (by rfl) ml PySem.boot_len (pa_cons (pv 0) pa_nil)) pe_int (nomark _)))))
        (pss_one (ps_ret pe_bl)) pss_nil)
      (pss_one (ps_ret (pe_and (pe_call GN hr1 (by rfl) mN kN bN .nil pass0 (pa_cons (pe_ix ix_tup (pv 0) pe_int (fun _ _ => rfl)) pa_nil))
        (pe_and (pe_call GS hr (by rfl) mS kS bS .nil pass0 (pa_cons (pe_ix ix_tup (pv 0) pe_int (fun _ _ => rfl)) pa_nil))
        (pe_one (pe_call GI hr1 (by rfl) mI kI bI .nil pass0 (pa_cons (pe_ix ix_tup (pv 0) pe_int (fun _ _ => rfl)) pa_nil))))))), ?_⟩
    refine ⟨_, rfl, _, _, _, _, _, rfl, .ty "tuple", I.ty, I.t, _, rfl, ?_⟩
    cases h1 : isTupD d with
    | false =>
      rw [trip_not h1] at q
      exact q H fun _ _ e => e
    | true =>
      obtain ⟨a, xs, ds, rfl, rfl, e1, hx⟩ := hd.tup_of h1
      have hlen := hx.len
      refine ⟨_, rfl, a, xs, rfl, .inr (SqT.of e1), rfl, _, rfl, ite2 (fun e => ?_) (fun e => ?_)⟩
      · have n2 : ds.length ≠ 3 := fun z => by
          rw [hlen, z] at e
          exact absurd e (by decide)
        rw [trip_len n2] at q
        exact q H fun _ _ e => e
      · obtain ⟨x, y, z, rfl⟩ := three_of (len_of e)
        obtain ⟨dx, dy, dz, rfl, h1, h2, h4⟩ := hx.three
        · have hs2 : okD dx ∧ okD dy ∧ okD dz ∧ True := hs.2
          refine ⟨_, rfl, a, _, _, _, rfl, rfl, SqT.of e1, atI_nat (j := 0) rfl, b, x, dx, rfl, h1, hs2.1, hb, fun H1 s1 => ⟨_, rfl, ?_⟩⟩
          have ep : tripD (.tuple [dx, dy, dz]) = (nameD dx && sourceD dy && intD dz) := rfl
          rw [ep] at q
          cases h3 : nameD dx with
          | false =>
            rw [h3] at q
            exact q H1 s1
          | true =>
            rw [h3, Bool.true_and] at q
            refine iteT ⟨_, rfl, a, _, _, _, rfl, rfl, SqT.of (s1 _ _ e1), atI_nat (j := 1) rfl, b, y, dy, rfl, h2.mono fun c o _ e => s1 c o e, hs2.2.1, there s1 hb, fun H2 s2 => ⟨_, rfl, ?_⟩⟩
            cases h5 : sourceD dy with
            | false =>
              rw [h5] at q
              exact q H2 (s1.trans s2)
            | true =>
              rw [h5] at q
              refine ⟨_, rfl, a, _, _, _, rfl, rfl, SqT.of (s2 _ _ (s1 _ _ e1)), atI_nat (j := 2) rfl, b, z, dz, rfl, h4.mono fun c o _ e => s2 _ _ (s1 c o e), hs2.2.2.1, there (s1.trans s2) hb, fun H3 s3 => ?_⟩
              exact q H3 ((s1.trans s2).trans s3)
end
end Fv


set_option Elab.async false
set_option linter.all false
set_option maxRecDepth 100000
set_option maxHeartbeats 1000000
namespace Fv
open PySem PySem.Spec PyProof.Rows L2
theorem rows_items {d : PyData} {ds : List PyData} (h : d = .tuple ds ∨ d = .list ds) : itemsD d = ds := by rcases h with rfl | rfl <;> rfl
theorem rows_ok {d : PyData} {ds : List PyData} (h : d = .tuple ds ∨ d = .list ds) (k : okD d) : ds.length ≤ 60 ∧ okAll ds := by rcases h with rfl | rfl <;> exact k
theorem small60 {n : Nat} (h : n ≤ 60) : n < sizeLine := small1000 (by omega)
theorem take_map_snoc {α β : Type} {f : α → β} {xs : List α} {i : Nat} {x : α} (h : xs[i]? = some x) : (xs.take (i + 1)).map f = (xs.take i).map f ++ [f x] := by
  rw [List.take_add_one, h, List.map_append]
  rfl
section
variable {P : Program} {w : World} {K : PySem.W.Frag} {mg : Str → Option Value} {base : Heap} {C : Addr}
theorem sc8 : FnScope ["thing", "part"] ["thing"] (defScope sAreParts) := ⟨rfl, rfl, rfl, by decide +kernel, rfl, by decide +kernel, by decide +kernel⟩
theorem ok_areparts {f fR fP : Addr} {fd fdR fdP : FuncData} (F : Fun K "_are_parts" "_are_parts" sAreParts f fd)
    (GR : FnOk P w K mg base CX0 1 fR fdR ["thing"] (spX C rowD)) (bR : Binds K fdR ["thing"] []) (mR : mg "is_row" = some (.ref fR)) (kR : PySem.W.keepIn K (.ref fR) = true)
    (GP : FnOk P w K mg base CX0 3 fP fdP ["thing"] (spX C pairD)) (bP : Binds K fdP ["thing"] []) (mP : mg "_is_part" = some (.ref fP)) (kP : PySem.W.keepIn K (.ref fP) = true)
    (ma : mg "all" = none) : FnOk P w K mg base CX0 4 f fd ["thing"] (spX C partsD) := by
  refine F.ok sc8 (fun vs H Q E h => ?_) (fun cdv A outer s H vs Q E hr h => ?_)
  · obtain ⟨b, v, d, rfl, _⟩ := h
    rfl
  · obtain ⟨b, v, d, rfl, hd, hs, hb, q⟩ := h
    have hr1 : Room 1 _ := hr.mono (by decide)
    refine ⟨_, pss_one (ps_ret (pe_and (pe_call GR hr1 (by rfl) mR kR bR .nil pass0 (pa_cons (pv 0) pa_nil))
      (pe_one (pe_callB (cr_all rfl) (by rfl) ma (by decide +kernel) (pa_cons
        (pe_lc (own := [("part", 1)]) (g := gName 1) (tt := tYes) rfl sc8.nd (pi_row (pv 0)) (blkOk_by (N := ["thing", "part"]) (sc := defScope sAreParts) (by decide +kernel))
        (fun _ _ _ _ _ => pg_name (i := 1) sc8.nd rfl (Or.inl rfl)) (fun _ _ _ _ _ => pts_nil) (fun _ _ _ _ _ => pe_call GP hr (by rfl) mP kP bP .nil pass0 (pa_cons (pv 1) pa_nil))) pa_nil))))), ?_⟩
    refine ⟨_, rfl, b, v, d, rfl, hd, hs, hb, fun H1 s1 => ⟨_, rfl, ?_⟩⟩
    have e : partsD d = (rowD d && (itemsD d).all pairD) := rfl
    rw [e] at q
    cases h0 : rowD d with
    | false =>
      rw [h0] at q
      exact q H1 s1
    | true =>
      rw [h0, Bool.true_and] at q
      have hd1 : Dx C H1 b v d := hd.mono fun a o _ e => s1 a o e
      obtain ⟨a, xs, ds, rfl, hdd, hrow, hx⟩ := hd1.row_of (K := K) h0
      rw [rows_items hdd] at q
      obtain ⟨hl, hok⟩ := rows_ok hdd hs
      have hlen := hx.len
      refine ⟨_, rfl, a, xs, rfl, hrow, fun J G wk hG D hD => ?_⟩
      refine lc_it wk (fun i H' => Same H1 H' ∧ H' D = some (.lst ((ds.take i).map fun d => V.bl (pairD d)))) ⟨same_upd hD, upd_same⟩ (fun i H' _ h => hG H' h.1) ?_ ?_
      · rintro i x H' H2 hi ⟨s', e'⟩ ⟨rfl, hxi⟩
        obtain ⟨dx, hdi, hdx⟩ := hx.get hxi
        refine ⟨rfl, _, rfl, b, x, dx, rfl, hdx.mono fun c o _ e => s' c o e, hok.mem dx (List.mem_of_getElem? hdi), there (s1.trans s') hb, fun H3 s3 => ⟨_, s3 _ _ e', ?_, fun c o e => ?_, ?_⟩⟩
        · rw [List.length_map, List.length_take]
          exact small60 (by omega)
        · rw [upd_ne (ne_of_none e hD)]
          exact s3 _ _ (s' c o e)
        · rw [upd_same, take_map_snoc hdi]
      · rintro H2 ⟨s2, e2⟩
        rw [hlen, List.take_length] at e2
        refine ⟨D, ds.map pairD, rfl, SqL.of (by rw [List.map_map]; exact e2), ?_⟩
        rw [List.all_map]
        exact q H2 (s1.trans s2)
end
end Fv


set_option Elab.async false
set_option linter.all false
set_option maxRecDepth 100000
set_option maxHeartbeats 2000000
/-! is_statement, from what its helpers tell -/
namespace Fv
open PySem PySem.Spec PyProof.Rows L2
abbrev sIsSt : Stmt := top 23
def strS : PyData → Str
  | .str z => z
  | _ => ""
def headS : PyData → Str
  | .tuple (.str z :: _) => z
  | _ => ""
def setsD (d : PyData) : Bool := rowD d && (itemsD d).all tripD && decide ((itemsD d).map headS).Nodup
def namesD (d : PyData) : Bool := rowD d && (itemsD d).all nameD && decide ((itemsD d).map strS).Nodup
def setR : List PyData → Bool
  | [a] => setsD a
  | _ => false
def mostR : List PyData → Bool
  | [a, c] => nameD a && (partsD c && !(itemsD c).isEmpty)
  | _ => false
def callR : List PyData → Bool
  | [a, c, e] => nameD a && (partsD c && namesD e)
  | _ => false
/-- what stands behind the word of a statement -/
def restD (w : Str) (r : List PyData) : Bool :=
  if w = "skip" then r.isEmpty else if w = "set" then setR r else if w = "most" ∨ w = "least" then mostR r else if w = "call" then callR r else false
def stD : PyData → Bool
  | .tuple (.str w :: r) => restD w r
  | _ => false
theorem st_not {d : PyData} (h : isTupD d = false) : stD d = false := by cases d <;> first | rfl | cases h
theorem st_word {d : PyData} {r : List PyData} (h : isStrD d = false) : stD (.tuple (d :: r)) = false := by cases d <;> first | rfl | cases h
theorem rest_set {r : List PyData} (h : r.length ≠ 1) : setR r = false := by
  match r, h with
  | [], _ => rfl
  | [_], h => exact absurd rfl h
  | _ :: _ :: _, _ => rfl
theorem rest_most {r : List PyData} (h : r.length ≠ 2) : mostR r = false := by
  match r, h with
  | [], _ => rfl
  | [_], _ => rfl
  | [_, _], h => exact absurd rfl h
  | _ :: _ :: _ :: _, _ => rfl
theorem rest_call {r : List PyData} (h : r.length ≠ 3) : callR r = false := by
  match r, h with
  | [], _ => rfl
  | [_], _ => rfl
  | [_, _], _ => rfl
  | [_, _, _], h => exact absurd rfl h
  | _ :: _ :: _ :: _ :: _, _ => rfl
theorem one_of {xs : List V} (h : xs.length = 1) : ∃ x, xs = [x] := by
  match xs, h with
  | [x], _ => exact ⟨x, rfl⟩
theorem DxAll.one {C : Addr} {H : Hp} {b : Addr} {x : V} {ds : List PyData} (h : DxAll C H b [x] ds) : ∃ dx, ds = [dx] ∧ Dx C H b x dx := by
  cases h with
  | cons h1 h =>
    cases h
    exact ⟨_, rfl, h1⟩
theorem int_len {n m : Nat} : decide (V.int (n : Int) = V.int (m : Int)) = decide (n = m) := by
  rw [Bool.eq_iff_iff]
  simp
  omega
theorem str_dec {x y : Str} : decide (V.str x = V.str y) = decide (x = y) := by
  rw [Bool.eq_iff_iff]
  simp
section
variable {P : Program} {w : World} {K : PySem.W.Frag} {mg : Str → Option Value} {base : Heap} {C : Addr}
theorem sc9 : FnScope ["thing", "word"] ["thing"] (defScope sIsSt) := ⟨rfl, rfl, rfl, by decide +kernel, rfl, by decide +kernel, by decide +kernel⟩
theorem ok_isst {f fN fA fS fM : Addr} {fd fdN fdA fdS fdM : FuncData} (T : KFn K C) (F : Fun K "is_statement" "is_statement" sIsSt f fd)
    (GN : FnOk P w K mg base CX0 1 fN fdN ["thing"] (spX C nameD)) (bN : Binds K fdN ["thing"] []) (mN : mg "is_name" = some (.ref fN)) (kN : PySem.W.keepIn K (.ref fN) = true)
    (GA : FnOk P w K mg base CX0 4 fA fdA ["thing"] (spX C partsD)) (bA : Binds K fdA ["thing"] []) (mA : mg "_are_parts" = some (.ref fA)) (kA : PySem.W.keepIn K (.ref fA) = true)
    (GS : FnOk P w K mg base CX0 4 fS fdS ["thing"] (spX C setsD)) (bS : Binds K fdS ["thing"] []) (mS : mg "_are_settings" = some (.ref fS)) (kS : PySem.W.keepIn K (.ref fS) = true)
    (GM : FnOk P w K mg base CX0 2 fM fdM ["thing"] (spX C namesD)) (bM : Binds K fdM ["thing"] []) (mM : mg "are_names" = some (.ref fM)) (kM : PySem.W.keepIn K (.ref fM) = true)
    (mq : mg "isinstance" = none) (mt : mg "tuple" = none) (ms : mg "str" = none) (ml : mg "len" = none) : FnOk P w K mg base CX0 5 f fd ["thing"] (spX C stD) := by
  refine F.ok sc9 (fun vs H Q E h => ?_) (fun cdv A outer s H vs Q E hr h => ?_)
  · obtain ⟨b, v, d, rfl, _⟩ := h
    rfl
  · obtain ⟨b, v, d, rfl, hd, hs, hb, q⟩ := h
    obtain ⟨t, I⟩ := hd.isa T
    have hr1 : Room 1 _ := hr.mono (by decide)
    have hr2 : Room 2 _ := hr.mono (by decide)
    refine ⟨_, pss_cons (ps_if (PW.pt (pw_or (pt_not (pt_val (pe_callB call_isi (by rfl) mq (by decide +kernel) (pa_cons (pv 0) (pa_cons (pe_bltn (v := .ty "tuple") (by rfl) mt boot_tuple rfl) pa_nil)))))
        (pw_or (pt_cmpR op_eq (pe_callB call_len_seq (by rfl) ml PySem.boot_len (pa_cons (pv 0) pa_nil)) pe_int (nomark _))
        (pw_or1 (pt_not (pt_val (pe_callB call_isi (by rfl) mq (by decide +kernel) (pa_cons (pe_ix ix_tup (pv 0) pe_int (fun _ _ => rfl)) (pa_cons (pe_bltn (v := .ty "str") (by rfl) ms boot_str rfl) pa_nil)))))))))
        (pss_one (ps_ret pe_bl)) pss_nil)
      (pss_cons (ps_set (i := 1) sc9.nd rfl (.inl rfl) (pe_ix ix_tup (pv 0) pe_int (fun _ _ => rfl)))
      (pss_cons (ps_if (pt_cmpR op_eq (pv 1) pe_str (nomark _)) (pss_one (ps_ret (pe_cmpR op_eq (pe_callB call_len_seq (by rfl) ml PySem.boot_len (pa_cons (pv 0) pa_nil)) pe_int (nomark _)))) pss_nil)
      (pss_cons (ps_if (pt_cmpR op_eq (pv 1) pe_str (nomark _)) (pss_one (ps_ret (pe_and (pe_cmpR op_eq (pe_callB call_len_seq (by rfl) ml PySem.boot_len (pa_cons (pv 0) pa_nil)) pe_int (nomark _))
          (pe_one (pe_call GS hr (by rfl) mS kS bS .nil pass0 (pa_cons (pe_ix ix_tup (pv 0) pe_int (fun _ _ => rfl)) pa_nil)))))) pss_nil)
      (pss_cons (ps_if (PW.pt (pw_or (pt_cmpR op_eq (pv 1) pe_str (nomark _)) (pw_or1 (pt_cmpR op_eq (pv 1) pe_str (nomark _)))))
          (pss_one (ps_ret (pe_and (pe_cmpR op_eq (pe_callB call_len_seq (by rfl) ml PySem.boot_len (pa_cons (pv 0) pa_nil)) pe_int (nomark _))
            (pe_and (pe_call GN hr1 (by rfl) mN kN bN .nil pass0 (pa_cons (pe_ix ix_tup (pv 0) pe_int (fun _ _ => rfl)) pa_nil))
            (pe_and (pe_call GA hr (by rfl) mA kA bA .nil pass0 (pa_cons (pe_ix ix_tup (pv 0) pe_int (fun _ _ => rfl)) pa_nil))
            (pe_one (pe_cmpR op_gt (pe_callB call_len_seq (by rfl) ml PySem.boot_len (pa_cons (pe_ix ix_tup (pv 0) pe_int (fun _ _ => rfl)) pa_nil)) pe_int (nomark _)))))))) pss_nil)
      (pss_cons (ps_if (pt_cmpR op_eq (pv 1) pe_str (nomark _))
          (pss_one (ps_ret (pe_and (pe_cmpR op_eq (pe_callB call_len_seq (by rfl) ml PySem.boot_len (pa_cons (pv 0) pa_nil)) pe_int (nomark _))
            (pe_and (pe_call GN hr1 (by rfl) mN kN bN .nil pass0 (pa_cons (pe_ix ix_tup (pv 0) pe_int (fun _ _ => rfl)) pa_nil))
            (pe_and (pe_call GA hr (by rfl) mA kA bA .nil pass0 (pa_cons (pe_ix ix_tup (pv 0) pe_int (fun _ _ => rfl)) pa_nil))
            (pe_one (pe_call GM hr2 (by rfl) mM kM bM .nil pass0 (pa_cons (pe_ix ix_tup (pv 0) pe_int (fun _ _ => rfl)) pa_nil)))))))) pss_nil)
      (pss_one (ps_ret pe_bl))))))), ?_⟩
    refine ⟨_, rfl, _, _, _, _, _, rfl, .ty "tuple", I.ty, I.t, _, rfl, ?_⟩
    cases h1 : isTupD d with
    | false =>
      rw [st_not h1] at q
      exact q H fun _ _ e => e
    | true =>
      obtain ⟨a, xs, ds, rfl, rfl, e1, hx⟩ := hd.tup_of h1
      have hlen := hx.len
      cases hx with
      | nil =>
        refine ⟨_, rfl, a, _, rfl, .inr (SqT.of e1), rfl, _, rfl, ?_⟩
        exact q H fun _ _ e => e
      | @cons x0 xr d0 dr h0 hx =>
        have hlr := hx.len
        have hok : okD d0 ∧ okAll dr := hs.2
        have hl60 : dr.length + 1 ≤ 60 := hs.1
        refine ⟨_, rfl, a, _, rfl, .inr (SqT.of e1), rfl, _, rfl, ?_⟩
        have z0 : decide (V.int (((x0 :: xr).length : Nat) : Int) = V.int 0) = false := by
          refine (int_len (m := 0)).trans ?_
          rw [List.length_cons]
          exact decide_eq_false (by omega)
        rw [z0]
        obtain ⟨t0, I0⟩ := h0.isa T
        refine ⟨_, rfl, a, _, _, _, rfl, rfl, SqT.of e1, atI_nat (j := 0) rfl, _, _, _, _, _, rfl, .ty "str", I0.ty, I0.s, _, rfl, ?_⟩
        cases h2 : isStrD d0 with
        | false =>
          rw [st_word h2] at q
          exact q H fun _ _ e => e
        | true =>
          obtain ⟨z, rfl, rfl⟩ := h0.str_of h2
          have fin : stD (.tuple (.str z :: dr)) = restD z dr := rfl
          rw [fin] at q
          unfold restD at q
          have len1 : ∀ m : Nat, decide (V.int (((V.str z :: xr).length : Nat) : Int) = V.int ((m + 1 : Nat) : Int)) = decide (dr.length = m) := fun m => by
            rw [int_len, List.length_cons, hlr, Bool.eq_iff_iff]
            simp
          refine ⟨_, rfl, a, _, _, _, rfl, rfl, SqT.of e1, atI_nat (j := 0) rfl, ?_⟩
          refine ⟨_, rfl, rfl, _, rfl, ite2 (fun e => ?_) (fun e => ?_)⟩
          · rw [str_dec] at e
            rw [if_pos (of_decide_eq_true e)] at q
            refine ⟨_, rfl, a, _, rfl, .inr (SqT.of e1), rfl, ?_⟩
            have e3 : decide (V.int (((V.str z :: xr).length : Nat) : Int) = V.int 1) = dr.isEmpty := by
              refine (len1 0).trans ?_
              cases dr <;> rfl
            show Q (V.bl (decide (V.int (((V.str z :: xr).length : Nat) : Int) = V.int 1))) H
            rw [e3]
            exact q H fun _ _ e => e
          rw [str_dec] at e
          rw [if_neg (fun y => e (decide_eq_true y))] at q
          refine ⟨_, rfl, rfl, _, rfl, ite2 (fun e => ?_) (fun e => ?_)⟩
          · rw [str_dec] at e
            rw [if_pos (of_decide_eq_true e)] at q
            refine ⟨_, rfl, a, _, rfl, .inr (SqT.of e1), rfl, _, rfl, ?_⟩
            have l1 : decide (V.int (((V.str z :: xr).length : Nat) : Int) = V.int 2) = decide (dr.length = 1) := len1 1
            rw [l1]
            by_cases n : dr.length = 1
            · rw [decide_eq_true n]
              obtain ⟨x1, rfl⟩ := one_of (hlr.trans n)
              obtain ⟨d1, rfl, g1⟩ := hx.one
              have k1 : okD d1 := hok.2.1
              refine iteT ⟨_, rfl, a, _, _, _, rfl, rfl, SqT.of e1, atI_nat (j := 1) rfl, b, x1, d1, rfl, g1, k1, hb, fun H1 s1 => ?_⟩
              exact q H1 s1
            · rw [decide_eq_false n]
              rw [rest_set n] at q
              exact q H fun _ _ e => e
          rw [str_dec] at e
          rw [if_neg (fun y => e (decide_eq_true y))] at q
          refine ⟨_, rfl, rfl, _, rfl, ?_⟩
          by_cases hm : z = "most" ∨ z = "least"
          · rw [if_pos hm] at q
            have l1 : decide (V.int (((V.str z :: xr).length : Nat) : Int) = V.int 3) = decide (dr.length = 2) := len1 2
            by_cases hz : z = "most"
            · rw [show decide (V.str z = V.str "most") = true from by rw [str_dec]; exact decide_eq_true hz]
              refine ⟨_, rfl, a, _, rfl, .inr (SqT.of e1), rfl, _, rfl, ?_⟩
              rw [l1]
              by_cases n : dr.length = 2
              · rw [decide_eq_true n]
                obtain ⟨x1, x2, rfl⟩ := two_of (hlr.trans n)
                obtain ⟨d1, d2, rfl, g1, g2⟩ := hx.two
                obtain ⟨k1, k2, _⟩ := hok.2
                refine iteT ⟨_, rfl, a, _, _, _, rfl, rfl, SqT.of e1, atI_nat (j := 1) rfl, b, x1, d1, rfl, g1, k1, hb, fun H1 s1 => ⟨_, rfl, ?_⟩⟩
                have er : mostR [d1, d2] = (nameD d1 && (partsD d2 && !(itemsD d2).isEmpty)) := rfl
                rw [er] at q
                cases nd : nameD d1 with
                | false =>
                  rw [nd] at q
                  exact q H1 s1
                | true =>
                  rw [nd, Bool.true_and] at q
                  refine iteT ⟨_, rfl, a, _, _, _, rfl, rfl, SqT.of (s1 _ _ e1), atI_nat (j := 2) rfl, b, x2, d2, rfl, g2.mono fun c o _ e => s1 c o e, k2, there s1 hb, fun H2 s2 => ⟨_, rfl, ?_⟩⟩
                  cases pd : partsD d2 with
                  | false =>
                    rw [pd] at q
                    exact q H2 (s1.trans s2)
                  | true =>
                    rw [pd, Bool.true_and] at q
                    have hr0 : rowD d2 = true := by
                      unfold partsD at pd
                      exact (Bool.and_eq_true_iff.mp pd).1
                    obtain ⟨a', xs', ds', rfl, hdd, hrow, hx'⟩ := (g2.mono fun c o _ e => s2 _ _ (s1 c o e)).row_of (K := K) hr0
                    refine iteT ⟨_, rfl, a, _, _, _, rfl, rfl, SqT.of (s2 _ _ (s1 _ _ e1)), atI_nat (j := 2) rfl, a', xs', rfl, hrow, _, _, rfl, rfl, ?_⟩
                    have e4 : decide ((0 : Int) < ((xs'.length : Nat) : Int)) = !(itemsD d2).isEmpty := by
                      rw [rows_items hdd, hx'.len]
                      cases ds' with
                      | nil => rfl
                      | cons y ys =>
                        refine (decide_eq_true ?_).trans rfl
                        rw [List.length_cons]
                        omega
                    show Q (V.bl (decide ((0 : Int) < ((xs'.length : Nat) : Int)))) H2
                    rw [e4]
                    exact q H2 (s1.trans s2)
              · rw [decide_eq_false n]
                rw [rest_most n] at q
                exact q H fun _ _ e => e
            · rw [show decide (V.str z = V.str "most") = false from by rw [str_dec]; exact decide_eq_false hz]
              refine ⟨_, rfl, rfl, _, rfl, ?_⟩
              rw [show decide (V.str z = V.str "least") = true from by rw [str_dec]; exact decide_eq_true (hm.resolve_left hz)]
              refine ⟨_, rfl, a, _, rfl, .inr (SqT.of e1), rfl, _, rfl, ?_⟩
              rw [l1]
              by_cases n : dr.length = 2
              · rw [decide_eq_true n]
                obtain ⟨x1, x2, rfl⟩ := two_of (hlr.trans n)
                obtain ⟨d1, d2, rfl, g1, g2⟩ := hx.two
                obtain ⟨k1, k2, _⟩ := hok.2
                refine iteT ⟨_, rfl, a, _, _, _, rfl, rfl, SqT.of e1, atI_nat (j := 1) rfl, b, x1, d1, rfl, g1, k1, hb, fun H1 s1 => ⟨_, rfl, ?_⟩⟩
                have er : mostR [d1, d2] = (nameD d1 && (partsD d2 && !(itemsD d2).isEmpty)) := rfl
                rw [er] at q
                cases nd : nameD d1 with
                | false =>
                  rw [nd] at q
                  exact q H1 s1
                | true =>
                  rw [nd, Bool.true_and] at q
                  refine iteT ⟨_, rfl, a, _, _, _, rfl, rfl, SqT.of (s1 _ _ e1), atI_nat (j := 2) rfl, b, x2, d2, rfl, g2.mono fun c o _ e => s1 c o e, k2, there s1 hb, fun H2 s2 => ⟨_, rfl, ?_⟩⟩
                  cases pd : partsD d2 with
                  | false =>
                    rw [pd] at q
                    exact q H2 (s1.trans s2)
                  | true =>
                    rw [pd, Bool.true_and] at q
                    have hr0 : rowD d2 = true := by
                      unfold partsD at pd
                      exact (Bool.and_eq_true_iff.mp pd).1
                    obtain ⟨a', xs', ds', rfl, hdd, hrow, hx'⟩ := (g2.mono fun c o _ e => s2 _ _ (s1 c o e)).row_of (K := K) hr0
                    refine iteT ⟨_, rfl, a, _, _, _, rfl, rfl, SqT.of (s2 _ _ (s1 _ _ e1)), atI_nat (j := 2) rfl, a', xs', rfl, hrow, _, _, rfl, rfl, ?_⟩
                    have e4 : decide ((0 : Int) < ((xs'.length : Nat) : Int)) = !(itemsD d2).isEmpty := by
                      rw [rows_items hdd, hx'.len]
                      cases ds' with
                      | nil => rfl
                      | cons y ys =>
                        refine (decide_eq_true ?_).trans rfl
                        rw [List.length_cons]
                        omega
                    show Q (V.bl (decide ((0 : Int) < ((xs'.length : Nat) : Int)))) H2
                    rw [e4]
                    exact q H2 (s1.trans s2)
              · rw [decide_eq_false n]
                rw [rest_most n] at q
                exact q H fun _ _ e => e
          · rw [if_neg hm] at q
            rw [show decide (V.str z = V.str "most") = false from by rw [str_dec]; exact decide_eq_false fun y => hm (.inl y)]
            refine ⟨_, rfl, rfl, _, rfl, ?_⟩
            rw [show decide (V.str z = V.str "least") = false from by rw [str_dec]; exact decide_eq_false fun y => hm (.inr y)]
            refine ⟨_, rfl, rfl, _, rfl, ite2 (fun e => ?_) (fun e => ?_)⟩
            · rw [str_dec] at e
              rw [if_pos (of_decide_eq_true e)] at q
              refine ⟨_, rfl, a, _, rfl, .inr (SqT.of e1), rfl, _, rfl, ?_⟩
              have l1 : decide (V.int (((V.str z :: xr).length : Nat) : Int) = V.int 4) = decide (dr.length = 3) := len1 3
              rw [l1]
              by_cases n : dr.length = 3
              · rw [decide_eq_true n]
                obtain ⟨x1, x2, x3, rfl⟩ := three_of (hlr.trans n)
                obtain ⟨d1, d2, d3, rfl, g1, g2, g3⟩ := hx.three
                obtain ⟨k1, k2, k3, _⟩ := hok.2
                refine iteT ⟨_, rfl, a, _, _, _, rfl, rfl, SqT.of e1, atI_nat (j := 1) rfl, b, x1, d1, rfl, g1, k1, hb, fun H1 s1 => ⟨_, rfl, ?_⟩⟩
                have er : callR [d1, d2, d3] = (nameD d1 && (partsD d2 && namesD d3)) := rfl
                rw [er] at q
                cases nd : nameD d1 with
                | false =>
                  rw [nd] at q
                  exact q H1 s1
                | true =>
                  rw [nd, Bool.true_and] at q
                  refine iteT ⟨_, rfl, a, _, _, _, rfl, rfl, SqT.of (s1 _ _ e1), atI_nat (j := 2) rfl, b, x2, d2, rfl, g2.mono fun c o _ e => s1 c o e, k2, there s1 hb, fun H2 s2 => ⟨_, rfl, ?_⟩⟩
                  cases pd : partsD d2 with
                  | false =>
                    rw [pd] at q
                    exact q H2 (s1.trans s2)
                  | true =>
                    rw [pd, Bool.true_and] at q
                    refine iteT ⟨_, rfl, a, _, _, _, rfl, rfl, SqT.of (s2 _ _ (s1 _ _ e1)), atI_nat (j := 3) rfl, b, x3, d3, rfl, g3.mono fun c o _ e => s2 _ _ (s1 c o e), k3, there (s1.trans s2) hb, fun H3 s3 => ?_⟩
                    exact q H3 ((s1.trans s2).trans s3)
              · rw [decide_eq_false n]
                rw [rest_call n] at q
                exact q H fun _ _ e => e
            · rw [str_dec] at e
              rw [if_neg (fun y => e (decide_eq_true y))] at q
              exact q H fun _ _ e => e
end
end Fv


set_option Elab.async false
set_option linter.all false
set_option maxRecDepth 100000
set_option maxHeartbeats 2000000
namespace Fv
open PySem PySem.Spec PyProof.Rows L2
/-- a list against an empty one, whatever is in it -/
def rNil (g : Bool → Bool) (K : PySem.W.Frag) : R2 := fun x y H Q => ∃ (a b : Addr) (xs : List V), x = .ref a ∧ y = .ref b ∧ SqL K H a xs ∧ SqL K H b [] ∧ Q (.bl (g xs.isEmpty)) H
section
variable {X : Cx}
theorem op_neNil (hu : X.A.units + 64 < cLine) : OpR X (compareOp .NotEq) (rNil (fun b => !b) X.K) := by
  intro pins s σ H x y v u Q I rx ry h
  obtain ⟨a, b, xs, rfl, rfl, ha, hb, q⟩ := h
  cases rx
  cases ry
  obtain ⟨us, r1, p1, _⟩ := I.list ha
  obtain ⟨ws, r2, p2, _⟩ := I.list hb
  cases r2
  cases xs with
  | nil =>
    cases r1
    exact SeqAt.RcNeAt.lists (e := fun _ => true) p1.isList p2.isList rfl (by omega) (fun j h1 _ => absurd h1 (Nat.not_lt_zero j)) X.prog X.w _ _ ⟨.bl false, H, I, rfl, q⟩
  | cons x xs =>
    have n : (us.toArray.size != ([] : List Value).toArray.size) = true := by
      rw [List.size_toArray, ← r1.length]
      rfl
    exact SeqAt.RcNeAt.lists_lengths p1.isList p2.isList n (by omega) X.prog X.w _ _ ⟨.bl true, H, I, rfl, q⟩
theorem op_eqNil (hu : X.A.units + 64 < cLine) : OpR X (compareOp .Eq) (rNil (fun b => b) X.K) := by
  intro pins s σ H x y v u Q I rx ry h
  obtain ⟨a, b, xs, rfl, rfl, ha, hb, q⟩ := h
  cases rx
  cases ry
  obtain ⟨us, r1, p1, _⟩ := I.list ha
  obtain ⟨ws, r2, p2, _⟩ := I.list hb
  cases r2
  cases xs with
  | nil =>
    cases r1
    exact SeqAt.RcAt.lists (e := fun _ => true) p1.isList p2.isList rfl (by omega) (fun j h1 _ => absurd h1 (Nat.not_lt_zero j)) X.prog X.w _ _ ⟨.bl true, H, I, rfl, q⟩
  | cons x xs =>
    have n : (us.toArray.size != ([] : List Value).toArray.size) = true := by
      rw [List.size_toArray, ← r1.length]
      rfl
    exact SeqAt.RcAt.lists_lengths p1.isList p2.isList n (by omega) X.prog X.w _ _ ⟨.bl false, H, I, rfl, q⟩
end
end Fv


set_option Elab.async false
set_option linter.all false
set_option maxRecDepth 100000
set_option maxHeartbeats 2000000
/-! the law's own reading of names, sources, integers, rows, pairs -/
namespace Fv
open PySem PySem.Spec PyProof.Rows L2
theorem filter_len_take {α : Type} (p : α → Bool) (l : List α) (i : Nat) : ((l.take i).filter p).length ≤ l.length := by
  have l1 := List.length_filter_le p (l.take i)
  have l2 : (l.take i).length ≤ l.length := by rw [List.length_take]; omega
  omega
theorem filter_take_snoc {α : Type} {p : α → Bool} {l : List α} {i : Nat} {x : α} (h : l[i]? = some x) : (l.take (i + 1)).filter p = (l.take i).filter p ++ (if p x = true then [x] else []) := by
  rw [List.take_add_one, h, List.filter_append]
  cases e : p x <;> simp [e]
theorem filter_none {α : Type} (p : α → Bool) (l : List α) : (l.filter fun x => !p x).isEmpty = l.all p := by
  induction l with
  | nil => rfl
  | cons x l ih =>
    cases e : p x with
    | true => simpa [e] using ih
    | false => simp [e]
theorem map_empty {α β : Type} (f : α → β) (l : List α) : (l.map f).isEmpty = l.isEmpty := by cases l <;> rfl
section
variable {P : Program} {w : World} {K : PySem.W.Frag} {mg : Str → Option Value} {base : Heap} {C : Addr}
end
end Fv


set_option Elab.async false
set_option linter.all false
set_option maxRecDepth 100000
set_option maxHeartbeats 2000000
namespace Fv
open PySem PySem.Spec PyProof.Rows L2
theorem all_take_snoc {α : Type} {p : α → Bool} {l : List α} {i : Nat} {x : α} (h : l[i]? = some x) : (l.take (i + 1)).all p = ((l.take i).all p && p x) := by
  rw [List.take_add_one, h, List.all_append]
  simp
theorem all_false {α : Type} {p : α → Bool} {l : List α} {i : Nat} {x : α} (h : l[i]? = some x) (e : p x = false) : l.all p = false := by
  cases q : l.all p with
  | false => rfl
  | true =>
    have := List.all_eq_true.mp q x (List.mem_of_getElem? h)
    rw [e] at this
    cases this
section
variable {P : Program} {w : World} {K : PySem.W.Frag} {mg : Str → Option Value} {base : Heap} {C : Addr}
end
end Fv


set_option Elab.async false
set_option linter.all false
set_option maxRecDepth 100000
set_option maxHeartbeats 2000000
namespace Fv
open PySem PySem.Spec PyProof.Rows L2
theorem inV_strs (z : Str) (zs : List Str) : inV (.str z) (zs.map V.str) = decide (z ∈ zs) := by
  unfold inV
  rw [Bool.eq_iff_iff, List.any_eq_true, decide_eq_true_eq]
  constructor
  · rintro ⟨y, hy, e⟩
    obtain ⟨t, ht, rfl⟩ := List.mem_map.mp hy
    have : t = z := by simpa [eqV] using e
    exact this ▸ ht
  · intro h
    exact ⟨.str z, List.mem_map.mpr ⟨z, h, rfl⟩, by simp [eqV]⟩
theorem flat_strs (zs : List Str) : (zs.map V.str).all flatV = true := by
  rw [List.all_map]
  exact List.all_eq_true.mpr fun _ _ => rfl
theorem cut_to (xs : List V) (k : Nat) : cutV xs none (some (k : Int)) = xs.take k := by
  unfold cutV
  rw [HT.sIx_none, HT.sIx_nat]
  simp only [List.drop_zero, Nat.sub_zero]
  rw [List.take_eq_take_iff]
  omega
theorem cut_from (xs : List V) (k : Nat) : cutV xs (some (k : Int)) none = xs.drop k := by
  unfold cutV
  rw [HT.sIx_none, HT.sIx_nat]
  rw [List.take_of_length_le (by rw [List.length_drop]; omega)]
  by_cases h : k ≤ xs.length
  · rw [Nat.min_eq_left h]
  · rw [Nat.min_eq_right (by omega), List.drop_of_length_le (Nat.le_refl _), List.drop_of_length_le (by omega)]
/-- the k-th is there already ahead -/
def twice (zs : List Str) (k : Nat) : Bool := (zs[k]?).any fun z => decide (z ∈ zs.take k)
theorem twice_none (zs : List Str) : ((List.range zs.length).filter (twice zs)).isEmpty = decide zs.Nodup := by
  rw [Bool.eq_iff_iff, List.isEmpty_iff, decide_eq_true_eq, List.filter_eq_nil_iff]
  constructor
  · intro h
    refine List.pairwise_iff_getElem.mpr fun i j hi hj hij e => ?_
    refine h j (List.mem_range.mpr hj) ?_
    unfold twice
    rw [List.getElem?_eq_getElem hj]
    show decide (zs[j] ∈ zs.take j) = true
    rw [decide_eq_true_eq, ← e]
    exact List.mem_take_iff_getElem.mpr ⟨i, by omega, rfl⟩
  · intro h k hk e
    have hk' := List.mem_range.mp hk
    unfold twice at e
    rw [List.getElem?_eq_getElem hk'] at e
    have e' : zs[k] ∈ zs.take k := of_decide_eq_true e
    obtain ⟨i, hi, ei⟩ := List.mem_take_iff_getElem.mp e'
    exact List.pairwise_iff_getElem.mp h i k (by omega) hk' (by omega) ei
def spUnlike (K : PySem.W.Frag) : Sp := fun vs H Q _ => ∃ (a : Addr) (zs : List Str), vs = [.ref a] ∧ SqL K H a (zs.map V.str) ∧ zs.length ≤ 60 ∧ ∀ H', Same H H' → Q (.bl (decide zs.Nodup)) H'
section
variable {P : Program} {w : World} {K : PySem.W.Frag} {mg : Str → Option Value} {base : Heap} {C : Addr}
end
end Fv


set_option Elab.async false
set_option linter.all false
set_option maxRecDepth 100000
set_option maxHeartbeats 4000000
namespace Fv
open PySem PySem.Spec PyProof.Rows L2
def threeD : PyData → Bool
  | .tuple [_, _, _] => true
  | _ => false
def firstD : PyData → PyData
  | .tuple (x :: _) => x
  | _ => .none
def restT : PyData → PyData
  | .tuple (_ :: r) => .tuple r
  | _ => .none
theorem three_len {ds : List PyData} : threeD (.tuple ds) = decide (ds.length = 3) := by
  match ds with
  | [] => rfl
  | [_] => rfl
  | [_, _] => rfl
  | [_, _, _] => rfl
  | _ :: _ :: _ :: _ :: r =>
    refine (decide_eq_false ?_).symm
    simp only [List.length_cons]
    omega
theorem three_not {d : PyData} (h : isTupD d = false) : threeD d = false := by cases d <;> first | rfl | cases h
theorem three_shape {d : PyData} (h : threeD d = true) : ∃ x y z, d = .tuple [x, y, z] := by
  unfold threeD at h
  split at h
  · exact ⟨_, _, _, rfl⟩
  · cases h
theorem trip_of {d : PyData} (h : threeD d = true) : tripD d = (nameD (firstD d) && pairD (restT d)) := by
  obtain ⟨x, y, z, rfl⟩ := three_shape h
  show (nameD x && sourceD y && intD z) = (nameD x && (sourceD y && intD z))
  rw [Bool.and_assoc]
theorem head_of {d : PyData} (h : threeD d = true) : headS d = strS (firstD d) := by
  obtain ⟨x, y, z, rfl⟩ := three_shape h
  cases x <;> rfl
theorem trip_three {d : PyData} (h : threeD d = false) : tripD d = false := by
  unfold tripD
  split
  · cases h
  · rfl
theorem all_trip : ∀ {ds : List PyData}, ds.all threeD = true → ds.all tripD = (ds.all (fun d => nameD (firstD d)) && ds.all (fun d => pairD (restT d)))
  | [], _ => rfl
  | d :: ds, h => by
    rw [List.all_cons, Bool.and_eq_true] at h
    rw [List.all_cons, List.all_cons, List.all_cons, trip_of h.1, all_trip h.2]
    cases nameD (firstD d) <;> cases pairD (restT d) <;> simp
theorem all_no_three : ∀ {ds : List PyData}, ds.all threeD = false → ds.all tripD = false
  | [], h => by cases h
  | d :: ds, h => by
    rw [List.all_cons] at h ⊢
    cases e : threeD d with
    | false => rw [trip_three e]; rfl
    | true =>
      rw [e, Bool.true_and] at h
      rw [all_no_three h, Bool.and_false]
theorem name_str {d : PyData} (h : nameD d = true) : ∃ z, d = .str z := by
  cases d <;> first | exact ⟨_, rfl⟩ | cases h
theorem heads_map {ds : List PyData} (h : ds.all threeD = true) : ds.map headS = (ds.map firstD).map strS := by
  rw [List.map_map]
  refine List.map_congr_left fun d hd => ?_
  exact head_of (List.all_eq_true.mp h d hd)
def rLenS (K : PySem.W.Frag) : List V → Hp → VK → Prop := fun xs H Q => ∃ p ys, xs = [V.ref p] ∧ (SqL K H p ys ∨ SqT K H p ys) ∧ Q (.int ((ys.length : Nat) : Int)) H
theorem DxAll.snoc {C : Addr} {H : Hp} {b : Addr} {v : V} {d : PyData} (h : Dx C H b v d) : ∀ {vs : List V} {ds : List PyData}, DxAll C H b vs ds → DxAll C H b (vs ++ [v]) (ds ++ [d])
  | _, _, .nil => .cons h .nil
  | _, _, .cons g t => .cons g (DxAll.snoc h t)
theorem okAll.rest : ∀ {ds : List PyData}, okAll ds → okAll (ds.map restT)
  | [], _ => True.intro
  | d :: ds, h => by
    refine ⟨?_, okAll.rest h.2⟩
    have h1 := h.1
    unfold restT
    split
    · rename_i x r
      have h1' : (x :: r).length ≤ 60 ∧ okD x ∧ okAll r := h1
      exact ⟨by have := h1'.1; rw [List.length_cons] at this; omega, h1'.2.2⟩
    · exact True.intro
theorem none_back {H H' : Hp} {a : Addr} (s : Same H H') (n : H' a = none) : H a = none := by
  cases e : H a with
  | none => rfl
  | some o => exact absurd n (by rw [s _ _ e]; exact nofun)
theorem in_del {H H' : Hp} {D : Addr} (s : Same H H') (n : H D = none) : ∀ c o, H c = some o → del H' D c = some o := fun c o e => by
  rw [del_ne (ne_of_none e n)]
  exact s c o e
theorem del_upd {H : Hp} {D : Addr} {o : HO} : del (upd H D o) D = del H D := by
  funext c
  by_cases h : c = D
  · rw [h, del_same, del_same]
  · rw [del_ne h, del_ne h, upd_ne h]
theorem del_sub {H : Hp} {D : Addr} : ∀ c o, del H D c = some o → H c = some o := fun c o e => by
  by_cases h : c = D
  · rw [h, del_same] at e
    cases e
  · rw [del_ne h] at e
    exact e
section
variable {P : Program} {w : World} {K : PySem.W.Frag} {mg : Str → Option Value} {base : Heap} {C : Addr}
end
end Fv


set_option Elab.async false
set_option linter.all false
set_option maxRecDepth 100000
set_option maxHeartbeats 4000000
namespace L2
open PySem PySem.Spec PyProof.Rows
variable {X : Cx} {tg : Expr}
/-- an item of a tuple that a name holds, a list or a tuple itself -/
theorem pi_rowIx {l : Expr} {i : Nat} {k : Int} (hl : PE X l (tOp (rIxT X.K) (tVar i) (tC (.int k)))) : PI X tg l (iRow X.K (tOp (rIxT X.K) (tVar i) (tC (.int k)))) := by
  constructor
  intro pins s σ H R I h
  obtain ⟨v, e, p, ys, j, z, e1, e2, e3, e4, a, xs, ev, hq, q⟩ := h
  rcases hq with hq | hq
  · exact (pi_list hl).run pins s σ H R I ⟨v, e, p, ys, j, z, e1, e2, e3, e4, a, ev, ⟨xs, hq⟩, q _ _ walk_list fun H' s => hq.same s⟩
  · exact (pi_tup hl).run pins s σ H R I ⟨v, e, p, ys, j, z, e1, e2, e3, e4, a, ev, ⟨xs, hq⟩, q _ _ walk_tup fun H' s => hq.same s⟩
end L2
namespace Fv
open PySem PySem.Spec PyProof.Rows L2
theorem rest1 {w : Str} : restD w [] = decide (w = "skip") := by
  unfold restD
  by_cases h1 : w = "skip"
  · rw [if_pos h1, decide_eq_true h1]
    rfl
  · rw [if_neg h1, decide_eq_false h1]
    split
    · rfl
    · split
      · rfl
      · split <;> rfl
theorem rest2 {w : Str} {a : PyData} : restD w [a] = (decide (w = "set") && setsD a) := by
  unfold restD
  by_cases h1 : w = "skip"
  · rw [if_pos h1, h1, show decide (("skip" : Str) = "set") = false by decide +kernel]
    rfl
  · rw [if_neg h1]
    by_cases h2 : w = "set"
    · rw [if_pos h2, decide_eq_true h2]
      rfl
    · rw [if_neg h2, decide_eq_false h2]
      split
      · rfl
      · split <;> rfl
theorem rest3 {w : Str} {a c : PyData} : restD w [a, c] = (decide (w = "most" ∨ w = "least") && (nameD a && (partsD c && !(itemsD c).isEmpty))) := by
  unfold restD
  by_cases h1 : w = "skip"
  · rw [if_pos h1, h1, show decide (("skip" : Str) = "most" ∨ ("skip" : Str) = "least") = false by decide +kernel]
    rfl
  · rw [if_neg h1]
    by_cases h2 : w = "set"
    · rw [if_pos h2, h2, show decide (("set" : Str) = "most" ∨ ("set" : Str) = "least") = false by decide +kernel]
      rfl
    · rw [if_neg h2]
      by_cases h3 : w = "most" ∨ w = "least"
      · rw [if_pos h3, decide_eq_true h3]
        rfl
      · rw [if_neg h3, decide_eq_false h3]
        split <;> rfl
theorem rest4 {w : Str} {a c e : PyData} : restD w [a, c, e] = (decide (w = "call") && (nameD a && (partsD c && namesD e))) := by
  unfold restD
  by_cases h1 : w = "skip"
  · rw [if_pos h1, h1, show decide (("skip" : Str) = "call") = false by decide +kernel]
    rfl
  · rw [if_neg h1]
    by_cases h2 : w = "set"
    · rw [if_pos h2, h2, show decide (("set" : Str) = "call") = false by decide +kernel]
      rfl
    · rw [if_neg h2]
      by_cases h3 : w = "most" ∨ w = "least"
      · rw [if_pos h3]
        have : decide (w = "call") = false := by
          rcases h3 with rfl | rfl <;> decide +kernel
        rw [this]
        rfl
      · rw [if_neg h3]
        by_cases h4 : w = "call"
        · rw [if_pos h4, decide_eq_true h4]
          rfl
        · rw [if_neg h4, decide_eq_false h4]
          rfl
theorem rest5 {w : Str} {r : List PyData} (h : 4 ≤ r.length) : restD w r = false := by
  unfold restD
  split
  · cases r with
    | nil => exact absurd h (by decide)
    | cons x r => rfl
  · split
    · exact rest_set (by omega)
    · split
      · exact rest_most (by omega)
      · split
        · exact rest_call (by omega)
        · rfl
theorem DxAll.names {C : Addr} {H : Hp} {b : Addr} : ∀ {v : List V} {d : List PyData}, DxAll C H b v d → d.all nameD = true → v = (d.map strS).map V.str
  | _, _, .nil, _ => rfl
  | _, _, .cons (v := x) (d := dx) h t, e => by
    rw [List.all_cons, Bool.and_eq_true] at e
    obtain ⟨z, rfl⟩ := name_str e.1
    cases h
    rw [List.map_cons, List.map_cons, ← DxAll.names t e.2]
    rfl
section
variable {P : Program} {w : World} {K : PySem.W.Frag} {mg : Str → Option Value} {base : Heap} {C : Addr}
end
end Fv


set_option Elab.async false
set_option linter.all false
set_option maxRecDepth 100000
set_option maxHeartbeats 4000000
namespace Fv
open PySem PySem.Spec PyProof.Rows L2
abbrev sParts : Stmt := top 27
/-- the parts of a statement -/
def partsOf : PyData → List PyData
  | .tuple [.str _, p] => itemsD p
  | .tuple (_ :: _ :: p :: _) => itemsD p
  | _ => []
/-- a statement by its words -/
inductive StShape : PyData → Prop
  | skip : StShape (.tuple [.str "skip"])
  | set {p : PyData} : setsD p = true → StShape (.tuple [.str "set", p])
  | most {w x : Str} {p : PyData} : (w = "most" ∨ w = "least") → nameD (.str x) = true → partsD p = true → (itemsD p).isEmpty = false → StShape (.tuple [.str w, .str x, p])
  | call {x : Str} {p r : PyData} : nameD (.str x) = true → partsD p = true → namesD r = true → StShape (.tuple [.str "call", .str x, p, r])
theorem st_shape {d : PyData} (h : stD d = true) : StShape d := by
  unfold stD at h
  split at h
  · rename_i w r
    match r with
    | [] =>
      rw [rest1] at h
      rw [of_decide_eq_true h]
      exact .skip
    | [p] =>
      rw [rest2, Bool.and_eq_true] at h
      rw [of_decide_eq_true h.1]
      exact .set h.2
    | [x, p] =>
      rw [rest3, Bool.and_eq_true, Bool.and_eq_true, Bool.and_eq_true] at h
      obtain ⟨z, rfl⟩ := name_str h.2.1
      exact .most (of_decide_eq_true h.1) h.2.1 h.2.2.1 (by simpa using h.2.2.2)
    | [x, p, r] =>
      rw [rest4, Bool.and_eq_true, Bool.and_eq_true, Bool.and_eq_true] at h
      obtain ⟨z, rfl⟩ := name_str h.2.1
      rw [of_decide_eq_true h.1]
      exact .call h.2.1 h.2.2.1 h.2.2.2
    | _ :: _ :: _ :: _ :: r =>
      rw [rest5 (by simp)] at h
      cases h
  · cases h
def spParts (K : PySem.W.Frag) (C : Addr) : Sp := fun vs H Q _ => ∃ (b : Addr) (v : V) (d : PyData), vs = [v] ∧ Dx C H b v d ∧ okD d ∧ stD d = true ∧ (∃ o, H b = some o) ∧
  ∀ (H' : Hp) (p : Addr) (xs : List V), Same H H' → p ≠ b → SqT K H' p xs → DxAll C H' b xs (partsOf d) → Q (.ref p) H'
theorem row_sets {d : PyData} (h : setsD d = true) : rowD d = true := by
  unfold setsD at h
  rw [Bool.and_eq_true, Bool.and_eq_true] at h
  exact h.1.1
theorem row_parts {d : PyData} (h : partsD d = true) : rowD d = true := by
  unfold partsD at h
  rw [Bool.and_eq_true] at h
  exact h.1
section
variable {P : Program} {w : World} {K : PySem.W.Frag} {mg : Str → Option Value} {base : Heap} {C : Addr}
theorem sc10 : FnScope ["statement"] ["statement"] (defScope sParts) := ⟨rfl, rfl, rfl, by decide +kernel, rfl, by decide +kernel, by decide +kernel⟩
theorem ok_parts {f aP : Addr} {fd : FuncData} (F : Fun K "_parts" "_parts" sParts f fd) (mP : mg "PARTS" = some (.ref aP)) (p1 : KDct K w aP "set" (.int 1)) (p2 : ∀ z : Str, z = "most" ∨ z = "least" ∨ z = "call" → KDct K w aP z (.int 2)) (mt : mg "tuple" = none) :
    FnOk P w K mg base CX0 1 f fd ["statement"] (spParts K C) := by
  refine F.ok sc10 (fun vs H Q E h => ?_) (fun cdv A outer s H vs Q E hr h => ?_)
  · obtain ⟨b, v, d, rfl, _⟩ := h
    rfl
  · obtain ⟨b, v, d, rfl, hd, hs, hst, ⟨ob, hb⟩, q⟩ := h
    refine ⟨_, pss_cons (ps_if (pt_cmpR op_eq (pe_ix ix_tup (pv 0) pe_int (fun _ _ => rfl)) pe_str (nomark _)) (pss_one (ps_ret (pe_tup pa_nil))) pss_nil)
      (pss_one (ps_ret (pe_callTy call_tuple_of (by rfl) mt boot_tuple (pa_cons (pe_ix ix_tup (pv 0) (pe_ix ix_kdict (pe_glob (v := .ref aP) (by rfl) mP rfl) (pe_ix ix_tup (pv 0) pe_int (fun _ _ => rfl)) (fun _ _ => rfl)) (fun _ _ => rfl)) pa_nil)))), ?_⟩
    have go : ∀ {H0 : Hp} {x : V} {dp : PyData}, H0 = H → Dx C H b x dp → rowD dp = true → ∃ p ys, [x] = [V.ref p] ∧ ((SqL K H p ys ∧ ∀ l, H l = none → (∀ (H' : Hp) (p : Addr) (xs : List V), Same H H' → p ≠ b → SqT K H' p xs → DxAll C H' b xs (itemsD dp) → Q (.ref p) H') → Q (.ref l) (upd H l (.tup ys))) ∨
        (SqT K H p ys ∧ ((∀ (H' : Hp) (p : Addr) (xs : List V), Same H H' → p ≠ b → SqT K H' p xs → DxAll C H' b xs (itemsD dp) → Q (.ref p) H') → Q (.ref p) H))) := fun {H0 x dp} _ hx hrow => by
      cases hx with
      | lst e n h =>
        refine ⟨_, _, rfl, .inl ⟨SqL.of e, fun l nl k => ?_⟩⟩
        exact k _ l _ (same_upd nl) (ne_of_none hb nl).symm (SqT.of upd_same) (h.mono fun c o _ e => same_upd nl c o e)
      | tup e n h => exact ⟨_, _, rfl, .inr ⟨SqT.of e, fun k => k H _ _ (fun _ _ e => e) n (SqT.of e) h⟩⟩
      | _ => cases hrow
    obtain ⟨a, xs, ds, rfl, ed, e1, hx⟩ := hd.tup_of (by
      have := st_shape hst
      cases this <;> rfl)
    have sh := st_shape hst
    cases sh with
    | skip =>
      cases ed
      cases hx with
      | cons h0 hx =>
        cases h0
        refine ⟨_, rfl, a, _, _, _, rfl, rfl, SqT.of e1, atI_nat (j := 0) rfl, rfl, _, rfl, ?_⟩
        refine ⟨Nat.zero_le _, fun p np => ?_⟩
        exact q _ p [] (same_upd np) (ne_of_none hb np).symm (SqT.of upd_same) .nil
    | set h =>
      cases ed
      cases hx with
      | cons h0 hx =>
        cases h0
        obtain ⟨x1, rfl⟩ := one_of hx.len
        obtain ⟨d1, ed, g1⟩ := hx.one
        cases ed
        refine ⟨_, rfl, a, _, _, _, rfl, rfl, SqT.of e1, atI_nat (j := 0) rfl, rfl, _, rfl, ?_⟩
        refine ⟨_, rfl, _, rfl, a, _, _, _, rfl, rfl, SqT.of e1, atI_nat (j := 0) rfl, aP, _, _, rfl, rfl, p1, a, _, _, _, rfl, rfl, SqT.of e1, atI_nat (j := 1) rfl, ?_⟩
        obtain ⟨p, ys, ep, hh⟩ := go rfl g1 (row_sets h)
        refine ⟨p, ys, ep, hh.imp (fun ⟨u, v⟩ => ⟨u, fun l nl => v l nl q⟩) fun ⟨u, v⟩ => ⟨u, v q⟩⟩
    | @most zw zx zp hw h2 h3 h4 =>
      cases ed
      cases hx with
      | cons h0 hx =>
        cases h0
        obtain ⟨x1, x2, rfl⟩ := two_of hx.len
        obtain ⟨d1, d2, ed, g1, g2⟩ := hx.two
        cases ed
        have nw : decide (V.str zw = V.str "skip") = false := by
          rw [str_dec]
          rcases hw with rfl | rfl <;> decide +kernel
        refine ⟨_, rfl, a, _, _, _, rfl, rfl, SqT.of e1, atI_nat (j := 0) rfl, rfl, _, rfl, ?_⟩
        rw [nw]
        refine iteF ⟨_, rfl, _, rfl, a, _, _, _, rfl, rfl, SqT.of e1, atI_nat (j := 0) rfl, aP, _, _, rfl, rfl, p2 _ (hw.elim .inl fun z => .inr (.inl z)), a, _, _, _, rfl, rfl, SqT.of e1, atI_nat (j := 2) rfl, ?_⟩
        obtain ⟨p, ys, ep, hh⟩ := go rfl g2 (row_parts h3)
        refine ⟨p, ys, ep, hh.imp (fun ⟨u, v⟩ => ⟨u, fun l nl => v l nl q⟩) fun ⟨u, v⟩ => ⟨u, v q⟩⟩
    | call h2 h3 h4 =>
      cases ed
      cases hx with
      | cons h0 hx =>
        cases h0
        obtain ⟨x1, x2, x3, rfl⟩ := three_of hx.len
        obtain ⟨d1, d2, d3, ed, g1, g2, g3⟩ := hx.three
        cases ed
        have nw : decide (V.str "call" = V.str "skip") = false := by
          rw [str_dec]
          decide +kernel
        refine ⟨_, rfl, a, _, _, _, rfl, rfl, SqT.of e1, atI_nat (j := 0) rfl, rfl, _, rfl, ?_⟩
        rw [nw]
        refine iteF ⟨_, rfl, _, rfl, a, _, _, _, rfl, rfl, SqT.of e1, atI_nat (j := 0) rfl, aP, _, _, rfl, rfl, p2 _ (.inr (.inr rfl)), a, _, _, _, rfl, rfl, SqT.of e1, atI_nat (j := 2) rfl, ?_⟩
        obtain ⟨p, ys, ep, hh⟩ := go rfl g2 (row_parts h3)
        refine ⟨p, ys, ep, hh.imp (fun ⟨u, v⟩ => ⟨u, fun l nl => v l nl q⟩) fun ⟨u, v⟩ => ⟨u, v q⟩⟩
end
end Fv


set_option Elab.async false
set_option linter.all false
set_option maxRecDepth 100000
set_option maxHeartbeats 4000000
namespace Fv
open PySem PySem.Spec PyProof.Rows L2
/-- a part's last, its source -/
def lastI : PyData → Int
  | .tuple [_, .int c] => c
  | .tuple [_, _, .int c] => c
  | _ => 0
def srcS : PyData → Str
  | .tuple [.str y, _] => y
  | .tuple [_, .str y, _] => y
  | _ => ""
def numsOf (d : PyData) : List Int := (partsOf d).map lastI
theorem source_str {d : PyData} (h : sourceD d = true) : ∃ z, d = .str z := by
  cases d <;> first | exact ⟨_, rfl⟩ | cases h
theorem int_of {d : PyData} (h : intD d = true) : ∃ i, d = .int i := by
  cases d <;> first | exact ⟨_, rfl⟩ | cases h
theorem pair_shape {d : PyData} (h : pairD d = true) : ∃ y c, d = .tuple [.str y, .int c] := by
  unfold pairD at h
  split at h
  · rw [Bool.and_eq_true] at h
    obtain ⟨y, rfl⟩ := source_str h.1
    obtain ⟨c, rfl⟩ := int_of h.2
    exact ⟨y, c, rfl⟩
  · cases h
theorem trip_shape {d : PyData} (h : tripD d = true) : ∃ x y c, d = .tuple [.str x, .str y, .int c] := by
  unfold tripD at h
  split at h
  · rw [Bool.and_eq_true, Bool.and_eq_true] at h
    obtain ⟨x, rfl⟩ := name_str h.1.1
    obtain ⟨y, rfl⟩ := source_str h.1.2
    obtain ⟨c, rfl⟩ := int_of h.2
    exact ⟨x, y, c, rfl⟩
  · cases h
/-- each part ends with a source and an integer -/
theorem part_of {d e : PyData} (h : stD d = true) (he : e ∈ partsOf d) : (∃ y c, e = .tuple [.str y, .int c]) ∨ ∃ x y c, e = .tuple [.str x, .str y, .int c] := by
  have sh := st_shape h
  have pp : ∀ {p : PyData}, partsD p = true → e ∈ itemsD p → ∃ y c, e = .tuple [.str y, .int c] := fun {p} hp hm => by
    unfold partsD at hp
    rw [Bool.and_eq_true] at hp
    exact pair_shape (List.all_eq_true.mp hp.2 e hm)
  cases sh with
  | skip => cases he
  | set hp =>
    unfold setsD at hp
    rw [Bool.and_eq_true, Bool.and_eq_true] at hp
    exact .inr (trip_shape (List.all_eq_true.mp hp.1.2 e he))
  | most _ _ hp _ => exact .inl (pp hp he)
  | call _ hp _ => exact .inl (pp hp he)
theorem part_last {C : Addr} {H : Hp} {b : Addr} {x : V} {d e : PyData} (h : stD d = true) (he : e ∈ partsOf d) (g : Dx C H b x e) : ∃ a xs, x = .ref a ∧ H a = some (.tup xs) ∧ atI xs (-1) = some (.int (lastI e)) ∧ atI xs (-2) = some (.str (srcS e)) := by
  rcases part_of h he with ⟨y, c, rfl⟩ | ⟨x', y, c, rfl⟩
  · obtain ⟨a, xs, ds, rfl, ed, e1, hx⟩ := g.tup_of rfl
    cases ed
    obtain ⟨v1, v2, rfl⟩ := two_of hx.len
    obtain ⟨_, _, ee, g1, g2⟩ := hx.two
    cases ee
    cases g1
    cases g2
    exact ⟨a, _, rfl, e1, rfl, rfl⟩
  · obtain ⟨a, xs, ds, rfl, ed, e1, hx⟩ := g.tup_of rfl
    cases ed
    obtain ⟨v1, v2, v3, rfl⟩ := three_of hx.len
    obtain ⟨_, _, _, ee, g1, g2, g3⟩ := hx.three
    cases ee
    cases g1
    cases g2
    cases g3
    exact ⟨a, _, rfl, e1, rfl, rfl⟩
theorem parts_len {d : PyData} (h : okD d) (hs : stD d = true) : (partsOf d).length ≤ 60 := by
  have row : ∀ {p : PyData}, okD p → (itemsD p).length ≤ 60 := fun {p} hp => by
    cases p <;> first | exact Nat.zero_le _ | exact hp.1
  have sh := st_shape hs
  cases sh with
  | skip => exact Nat.zero_le _
  | set hp => exact row (show okD _ from h.2.2.1)
  | most _ _ _ _ => exact row (show okD _ from h.2.2.2.1)
  | call _ _ _ => exact row (show okD _ from h.2.2.2.1)
section
variable {P : Program} {w : World} {K : PySem.W.Frag} {mg : Str → Option Value} {base : Heap} {C : Addr}
end
end Fv


set_option Elab.async false
set_option linter.all false
set_option maxRecDepth 100000
set_option maxHeartbeats 4000000
namespace Fv
open PySem PySem.Spec PyProof.Rows L2
abbrev sFrozen : Stmt := top 24
def fz : PyData → PyData
  | .list l => .tuple l
  | d => d
def frozenD : PyData → PyData
  | .tuple ds => .tuple (ds.map fz)
  | d => d
theorem fz_not {d : PyData} (h : rowD d = false) : fz d = d := by cases d <;> first | rfl | cases h
theorem DqAll.snoc {H : Hp} {b : Addr} {v : V} {d : PyData} (h : Dq H b v d) : ∀ {vs : List V} {ds : List PyData}, DqAll H b vs ds → DqAll H b (vs ++ [v]) (ds ++ [d])
  | _, _, .nil => .cons h .nil
  | _, _, .cons g t => .cons g (DqAll.snoc h t)
theorem DqAll.len {H : Hp} {b : Addr} : ∀ {v : List V} {d : List PyData}, DqAll H b v d → v.length = d.length
  | _, _, .nil => rfl
  | _, _, .cons _ t => by rw [List.length_cons, List.length_cons, DqAll.len t]
theorem DqAll.at_ {H : Hp} {b : Addr} : ∀ {v : List V} {d : List PyData} {i : Nat} {x : V}, DqAll H b v d → v[i]? = some x → ∃ e, d[i]? = some e ∧ Dq H b x e
  | _, _, 0, _, .cons h _, e => ⟨_, rfl, by cases e; exact h⟩
  | _, _, i + 1, _, .cons _ t, e => DqAll.at_ (i := i) t e
theorem Dq.tup_of {H : Hp} {b : Addr} {v : V} {d : PyData} (h : Dq H b v d) (e : isTupD d = true) : ∃ a xs ds, v = .ref a ∧ a ≠ b ∧ d = .tuple ds ∧ H a = some (.tup xs) ∧ DqAll H b xs ds := by
  cases h with
  | tup e1 n h => exact ⟨_, _, _, rfl, n, rfl, e1, h⟩
  | _ => cases e
theorem st_tup {d : PyData} (h : stD d = true) : isTupD d = true := by
  have := st_shape h
  cases this <;> rfl
/-- the same with tuples for lists -/
def spFrozen : Sp := fun vs H Q _ => ∃ (b : Addr) (v : V) (d : PyData), vs = [v] ∧ Dq H b v d ∧ okD d ∧ stD d = true ∧ (∃ o, H b = some o) ∧
  ∀ (H' : Hp) (p : Addr), Same H H' → Dq H' b (.ref p) (frozenD d) → Q (.ref p) H'
def rTupOf (K : PySem.W.Frag) : List V → Hp → VK → Prop := fun xs H Q => ∃ p ys, xs = [.ref p] ∧ ((SqL K H p ys ∧ ∀ l, H l = none → Q (.ref l) (upd H l (.tup ys))) ∨ (SqT K H p ys ∧ Q (.ref p) H))
section
variable {P : Program} {w : World} {K : PySem.W.Frag} {mg : Str → Option Value} {base : Heap} {C : Addr}
theorem sc12 : FnScope ["statement", "item"] ["statement"] (defScope sFrozen) := ⟨rfl, rfl, rfl, by decide +kernel, rfl, by decide +kernel, by decide +kernel⟩
theorem ok_frozen {f fR : Addr} {fd fdR : FuncData} (F : Fun K "frozen" "frozen" sFrozen f fd) (GR : FnOk P w K mg base CX0 1 fR fdR ["thing"] (spX C rowD)) (bR : Binds K fdR ["thing"] []) (mR : mg "is_row" = some (.ref fR)) (kR : PySem.W.keepIn K (.ref fR) = true)
    (mt : mg "tuple" = none) : FnOk P w K mg base CX0 2 f fd ["statement"] spFrozen := by
  refine F.ok sc12 (fun vs H Q E h => ?_) (fun cdv A outer s H vs Q E hr h => ?_)
  · obtain ⟨b, v, d, rfl, _⟩ := h
    rfl
  · obtain ⟨b, v, d, rfl, hd, hs, hst, hb, q⟩ := h
    refine ⟨_, pss_one (ps_ret (pe_callTy call_tuple_of (by rfl) mt boot_tuple (pa_cons
      (pe_lc (own := [("item", 1)]) (g := gName 1) (tt := tYes) rfl sc12.nd (pi_tup (pv 0)) (blkOk_by (N := ["statement", "item"]) (sc := defScope sFrozen) (by decide +kernel))
        (fun _ _ _ _ _ => pg_name (i := 1) sc12.nd rfl (Or.inl rfl)) (fun _ _ _ _ _ => pts_nil)
        (fun _ _ _ _ _ => pe_ifExp (pt_val (pe_call GR hr (by rfl) mR kR bR .nil pass0 (pa_cons (pv 1) pa_nil))) (pe_callTy (T := "tuple") (r := rTupOf K) call_tuple_of (by rfl) mt boot_tuple (pa_cons (pv 1) pa_nil)) (pv 1))) pa_nil))), ?_⟩
    obtain ⟨a, xs, ds, rfl, ab, rfl, e1, hx⟩ := hd.tup_of (st_tup hst)
    have hlen := hx.len
    have hok : ds.length ≤ 60 ∧ okAll ds := hs
    refine ⟨_, rfl, a, rfl, ⟨xs, SqT.of e1⟩, fun D hD => ?_⟩
    have sub : ∀ {H' H4 : Hp}, Same H' H4 → ∀ c o, del H' D c = some o → del H4 D c = some o := fun {H' H4} s c o e => by
      have nc : c ≠ D := fun z => by
        rw [z, del_same] at e
        cases e
      rw [del_ne nc]
      exact s c o (del_sub c o e)
    refine lc_tup (K := K) (a := a) (xs := xs) (fun i H' => Same H H' ∧ ∃ ys : List V, H' D = some (.lst ys) ∧ DqAll (del H' D) b ys ((ds.take i).map fz)) ⟨same_upd hD, [], upd_same, .nil⟩ (fun i H' _ h => SqT.of (h.1 _ _ e1)) ?_ ?_
    · rintro i x H' hxi ⟨s', ys, e', ya⟩
      obtain ⟨dx, hdi, hdx⟩ := hx.at_ hxi
      have yl : ys.length ≤ i := by rw [ya.len, List.length_map, List.length_take]; omega
      have hi : i < ds.length := (List.getElem?_eq_some_iff.mp hdi).1
      have put : ∀ (H4 : Hp) (y : V), Same H' H4 → Dq (del H4 D) b y (fz dx) → ∃ acc, H4 D = some (.lst acc) ∧ acc.length < sizeLine ∧ Same H (upd H4 D (.lst (acc ++ [y]))) ∧ ∃ ys : List V, (upd H4 D (.lst (acc ++ [y]))) D = some (.lst ys) ∧ DqAll (del (upd H4 D (.lst (acc ++ [y]))) D) b ys ((ds.take (i + 1)).map fz) := fun H4 y s4 hy => by
        refine ⟨ys, s4 _ _ e', small60 (by omega), fun c o e => ?_, _, upd_same, ?_⟩
        · rw [upd_ne (ne_of_none e hD)]
          exact s4 _ _ (s' c o e)
        · rw [del_upd, take_map_snoc hdi]
          exact DqAll.snoc hy (ya.mono fun c o _ e => sub s4 c o e)
      refine ⟨rfl, _, rfl, b, x, dx, rfl, (hdx.mono fun c o _ e => s' c o e).x, hok.2.mem dx (List.mem_of_getElem? hdi), there s' hb, fun H3 s3 => ?_⟩
      have s03 := s'.trans s3
      have inD : ∀ c o, H c = some o → del H3 D c = some o := in_del s03 hD
      cases hr0 : rowD dx with
      | false =>
        refine ⟨_, rfl, iteF ⟨_, rfl, put H3 x s3 ?_⟩⟩
        rw [fz_not hr0]
        exact hdx.mono fun c o _ e => inD c o e
      | true =>
        cases hdx with
        | @lst al xl dl el nl ml hl =>
          refine ⟨_, rfl, iteT ⟨_, rfl, al, xl, rfl, .inl ⟨SqL.of (s03 _ _ el), fun l fl => ?_⟩⟩⟩
          obtain ⟨ob, hob⟩ := there s03 hb
          refine put _ _ (s3.trans (same_upd fl)) (.tup (xs := xl) ?_ (ne_of_none hob fl).symm (hl.mono fun c o _ e => sub (same_upd fl) c o (inD c o e)))
          have lD : l ≠ D := (ne_of_none (s3 _ _ e') fl).symm
          rw [del_ne lD]
          exact upd_same
        | @tup al xl dl el nl hl =>
          exact ⟨_, rfl, iteT ⟨_, rfl, al, xl, rfl, .inr ⟨SqT.of (s03 _ _ el), put H3 _ s3 (.tup (inD _ _ el) nl (hl.mono fun c o _ e => inD c o e))⟩⟩⟩
        | _ => cases hr0
    · rintro H2 ⟨s2, ys, e2, ya⟩
      rw [hlen, List.take_length] at ya
      refine ⟨D, ys, rfl, .inl ⟨SqL.of e2, fun l fl => ?_⟩⟩
      obtain ⟨ob, hob⟩ := there s2 hb
      have w1 := same_upd (o := .tup ys) fl
      exact q _ l (s2.trans w1) (.tup upd_same (ne_of_none hob fl).symm (ya.mono fun c o _ e => w1 c o (del_sub c o e)))
end
end Fv


set_option Elab.async false
set_option linter.all false
set_option maxRecDepth 100000
set_option maxHeartbeats 4000000
namespace Fv
open PySem PySem.Spec PyProof.Rows L2
abbrev sNames : Stmt := top 48
/-- letters a to z alone -/
def asc (z : Str) : Prop := ∀ c ∈ z.cps.toList, c ∈ abc.cps.toList
theorem toList_add (x y : Str) : (x ++ y).cps.toList = x.cps.toList ++ y.cps.toList := by
  show (x.cps ++ y.cps).toList = _
  simp
theorem asc_add {x y : Str} (h : asc x) (k : asc y) : asc (x ++ y) := by
  intro c hc
  rw [toList_add] at hc
  exact (List.mem_append.mp hc).elim (h c) (k c)
theorem asc_cut {z : Str} (h : asc z) (lo hi : Option Int) : asc (cutS z lo hi) := by
  intro c hc
  unfold cutS at hc
  have h1 := List.mem_of_mem_take (show c ∈ _ from by simpa using hc)
  exact h c (List.mem_of_mem_drop h1)
theorem asc_one {z : Str} (h : asc z) {i : Nat} {c : Nat} (e : z.cps.toList[i]? = some c) : asc ⟨#[c]⟩ := by
  intro x hx
  have : x = c := by simpa using hx
  rw [this]
  exact h c (List.mem_of_getElem? e)
theorem len_list (z : Str) : z.cps.toList.length = z.length := by simp [Str.length]
theorem abc_len : abc.length = 26 := by decide +kernel
theorem abc_asc : asc abc := fun _ h => h
theorem line300 {n : Nat} (h : n ≤ 300) : n ≤ sizeLine := Nat.le_trans h (by decide)
theorem cut_parts (z : Str) (k : Nat) : (cutS z none (some (k : Int))).length + (cutS z (some (k : Int)) none).length = z.length := by
  unfold cutS Str.length
  simp only [HT.sIx_none, HT.sIx_nat]
  simp
  omega
def NmOk (z : Str) : Prop := 1 ≤ z.length ∧ z.length ≤ 8 ∧ asc z
theorem NmOk.name {z : Str} (h : NmOk z) : nameS z = true := by
  unfold nameS
  rw [decide_eq_true h.1, decide_eq_true h.2.1]
  simp only [Bool.true_and, List.all_eq_true, decide_eq_true_eq]
  exact h.2.2
theorem nm_of {z : Str} (h : nameS z = true) : NmOk z := by
  unfold nameS at h
  simp only [Bool.and_eq_true, decide_eq_true_eq, List.all_eq_true] at h
  exact ⟨h.1.1, h.1.2, h.2⟩
theorem nz26 : (26 : Int) ≠ 0 := by decide
def one (c : Nat) : Str := ⟨#[c]⟩
theorem join_ones : ∀ cs : List Nat, Str.join "" (cs.map one) = ⟨cs.toArray⟩
  | [] => by decide +kernel
  | [c] => rfl
  | c :: d :: r => by
    have ih := join_ones (d :: r)
    show one c ++ "" ++ Str.join "" ((d :: r).map one) = _
    rw [ih]
    have e : ∀ x y : Str, x.cps.toList = y.cps.toList → x = y := by
      rintro ⟨x⟩ ⟨y⟩ h
      have : x = y := by simpa using h
      rw [this]
    apply e
    rw [toList_add, toList_add]
    have e0 : ("" : Str).cps.toList = [] := by decide +kernel
    rw [e0]
    simp [one]
theorem sum_ones : ∀ cs : List Nat, ((cs.map one).map (·.length)).sum = cs.length
  | [] => rfl
  | c :: r => by
    rw [List.map_cons, List.map_cons, List.sum_cons, sum_ones r]
    show 1 + r.length = r.length + 1
    omega
theorem cut_map {α : Type} (f : α → V) (xs : List α) (lo hi : Option Int) : cutV (xs.map f) lo hi = ((xs.drop (HT.sIx xs.length 0 lo)).take (HT.sIx xs.length xs.length hi - HT.sIx xs.length 0 lo)).map f := by
  unfold cutV
  rw [List.length_map, ← List.map_drop, ← List.map_take]
theorem tops (WS : List Str) (t m : Nat) (hm : m ≤ WS.length) : ∃ zs : List Str, cutV (cutV (WS.map V.str) (some (t : Int)) none ++ cutV (WS.map V.str) none (some (t : Int))) none (some (m : Int)) = zs.map V.str ∧ zs.length = m ∧ (∀ z ∈ zs, z ∈ WS) ∧ (WS.Nodup → zs.Nodup) := by
  rw [cut_map, cut_map, ← List.map_append, cut_map]
  refine ⟨_, rfl, ?_, ?_, ?_⟩
  · simp only [HT.sIx_none, HT.sIx_nat, List.length_take, List.length_drop, List.length_append, List.drop_zero, Nat.sub_zero]
    omega
  · intro z hz
    have h1 := List.mem_of_mem_drop (List.mem_of_mem_take hz)
    rcases List.mem_append.mp h1 with q | q
    · exact List.mem_of_mem_drop (List.mem_of_mem_take q)
    · exact List.mem_of_mem_drop (List.mem_of_mem_take q)
  · intro nd
    refine List.Nodup.sublist ((List.take_sublist _ _).trans (List.drop_sublist _ _)) ?_
    simp only [HT.sIx_none, HT.sIx_nat, List.drop_zero, Nat.sub_zero]
    refine List.nodup_append.mpr ⟨nd.sublist ((List.take_sublist _ _).trans (List.drop_sublist _ _)), nd.sublist (List.take_sublist _ _), ?_⟩
    intro a ha b hb e
    subst e
    have h1 := List.mem_of_mem_take ha
    have nd2 := nd
    rw [← List.take_append_drop (min t WS.length) WS, List.nodup_append] at nd2
    exact nd2.2.2 a hb a h1 rfl
/-- the letters of one draw are unlike -/
def ltr (t j : Nat) : Nat := abc.cps.toList.getD ((t + 3 * j) % 26) 0
theorem ltr_inj : ∀ t : Nat, t < 20 → ∀ i : Nat, i < 20 → ∀ j : Nat, j < 20 → ltr t i = ltr t j → i = j := by decide +kernel
theorem append_mid {x z : Str} {a b : Nat} (h : x ++ ⟨#[a]⟩ ++ z = x ++ ⟨#[b]⟩ ++ z) : a = b := by
  have e := congrArg (fun s : Str => s.cps.toList) h
  simp only [toList_add] at e
  have e2 := List.append_cancel_right e
  have e3 := List.append_cancel_left e2
  simpa using e3
theorem nodup_of {α : Type} (f : Nat → α) (n : Nat) (h : ∀ i, i < n → ∀ j, j < n → f i = f j → i = j) : ((List.range n).map f).Nodup := by
  induction n with
  | zero => simp
  | succ n ih =>
    rw [List.range_succ, List.map_append, List.nodup_append]
    refine ⟨ih (fun i hi j hj => h i (by omega) j (by omega)), by simp, ?_⟩
    intro a ha b hb e
    obtain ⟨i, hi, rfl⟩ := List.mem_map.1 ha
    have hi := List.mem_range.1 hi
    simp only [List.map_cons, List.map_nil, List.mem_singleton] at hb
    subst hb
    have := h i (by omega) n (by omega) e
    omega
theorem ltr_at {t i r : Nat} (er : ((t : Int) + 3 * (0 + (i : Int))).fmod 26 = (r : Int)) (hl : r < abc.cps.toList.length) : abc.cps.toList[r] = ltr t i := by
  have e : (t + 3 * i) % 26 = r := by
    have h : ((t : Int) + 3 * (0 + (i : Int))).fmod 26 = ((t : Int) + 3 * (0 + (i : Int))) % 26 := Int.fmod_eq_emod_of_nonneg _ (by omega)
    omega
  unfold ltr
  rw [e, List.getD_eq_getElem?_getD, List.getElem?_eq_getElem hl]
  rfl
/-- not both of two strange names -/
def ZQ (zs : List Str) : Prop := (("zzzzzzzz" : Str) ∈ zs → ("qqqqqqqq" : Str) ∈ zs → False) ∧ (("yyyyyyyy" : Str) ∈ zs → ("rrrrrrrr" : Str) ∈ zs → False)
theorem zq_mid {a b x y : Str} {p q c d : Nat} (ha : ∀ c ∈ a.cps.toList, c = p) (hb : ∀ c ∈ b.cps.toList, c = q) (npq : p ≠ q) (hx : 1 ≤ x.length + y.length) (h1 : a = x ++ ⟨#[c]⟩ ++ y) (h2 : b = x ++ ⟨#[d]⟩ ++ y) : False := by
  have e1 := congrArg (fun s : Str => s.cps.toList) h1
  have e2 := congrArg (fun s : Str => s.cps.toList) h2
  simp only [toList_add] at e1 e2
  obtain ⟨u, hu⟩ : ∃ u, u ∈ x.cps.toList ++ y.cps.toList := by
    rw [← len_list, ← len_list, ← List.length_append] at hx
    exact List.exists_mem_of_length_pos hx
  have i1 : ∀ e : Nat, u ∈ x.cps.toList ++ [e] ++ y.cps.toList := fun e => by
    rcases List.mem_append.mp hu with h | h
    · exact List.mem_append_left _ (List.mem_append_left _ h)
    · exact List.mem_append_right _ h
  have k1 := ha u (by rw [e1]; exact i1 c)
  have k2 := hb u (by rw [e2]; exact i1 d)
  exact npq (k1.symm.trans k2)
def spNames : Sp := fun vs H Q _ => ∃ (b : Addr) (m : Nat), vs = [.ref b, .int m] ∧ Bag H b ∧ m ≤ 20 ∧ ∀ (p : Addr) (zs : List Str) (H' : Hp), H' p = some (.lst (zs.map V.str)) → zs.length = m → p ≠ b → (∀ z ∈ zs, NmOk z) → zs.Nodup → ZQ zs → Bag H' b → Keep b H H' → (∀ c, BagAt H b c → BagAt H' b c) → Q (.ref p) H'
section
variable {P : Program} {w : World} {K : PySem.W.Frag} {mg : Str → Option Value} {base : Heap}
abbrev nN : List Str := ["_law_bag_here", "_law_many", "_law_letters", "_law_words", "_law_style", "_law_turn", "_law_base", "_law_at", "_law_k"]
theorem scN : FnScope nN ["_law_bag_here", "_law_many"] (defScope sNames) := ⟨rfl, rfl, rfl, by decide +kernel, rfl, by decide +kernel, by decide +kernel⟩
theorem ok_names {f fT : Addr} {fd fdT : FuncData} (F : Fun K "_law_names" "_law_names" sNames f fd) (GT : FnOk P w K mg base CX0 1 fT fdT ["_law_bag_here", "_law_many"] spTake) (bT : Binds K fdT ["_law_bag_here", "_law_many"] []) (mT : mg "_law_take" = some (.ref fT)) (kT : PySem.W.keepIn K (.ref fT) = true)
    (mr : mg "range" = none) (ml : mg "len" = none) (mi : mg "int" = none) : FnOk P w K mg base CX0 3 f fd ["_law_bag_here", "_law_many"] spNames := by
  refine F.ok scN (fun vs H Q E h => ?_) (fun cdv A outer s H vs Q E hr h => ?_)
  · obtain ⟨b, m, rfl, _⟩ := h
    rfl
  · obtain ⟨b, m, rfl, B, m2, q⟩ := h
    have hr1 : Room 1 _ := hr.mono (by decide)
    refine ⟨_, pss_cons (ps_set (i := 2) scN.nd rfl (.inr rfl) pe_str)
      (pss_cons (ps_set (i := 3) scN.nd rfl (.inl rfl) pe_str)
      (pss_cons (ps_set (i := 3) scN.nd rfl (.inl rfl) (pe_split (pe_op op_add_str (pv 3) pe_str) pe_str))
      (pss_cons (ps_asg (pe_tup (pa_cons (pe_call GT hr1 (by rfl) mT kT bT .nil pass0 (pa_cons (pv 0) (pa_cons pe_int pa_nil))) (pa_cons (pe_call GT hr1 (by rfl) mT kT bT .nil pass0 (pa_cons (pv 0) (pa_cons pe_int pa_nil))) pa_nil)))
          (pg_tup (by rfl) (pgs_cons (pg_name (i := 4) scN.nd rfl (.inl rfl)) (pgs_cons (pg_name (i := 5) scN.nd rfl (.inr rfl)) pgs_nil))))
      (pss_cons (ps_set (i := 6) scN.nd rfl (.inr rfl) (pe_join pe_str
          (pe_lc (own := [("_law_k", 8)]) (g := gName 8) (tt := tYes) rfl scN.nd (pi_range1 (by rfl) mr (pa_cons (pe_op op_add pe_int (pe_call GT hr1 (by rfl) mT kT bT .nil pass0 (pa_cons (pv 0) (pa_cons pe_int pa_nil)))) pa_nil)) (blkOk_by (N := nN) (sc := defScope sNames) (by decide +kernel))
            (fun _ _ _ _ _ => pg_name (i := 8) scN.nd rfl (Or.inl rfl)) (fun _ _ _ _ _ => pts_nil) (fun _ _ _ _ _ => pe_ix ix_str (pv 2) (pe_call GT hr1 (by rfl) mT kT bT .nil pass0 (pa_cons (pv 0) (pa_cons pe_int pa_nil))) (fun _ _ => rfl)))))
      (pss_cons (ps_set (i := 7) scN.nd rfl (.inr rfl) (pe_call GT hr1 (by rfl) mT kT bT .nil pass0 (pa_cons (pv 0) (pa_cons (pe_op op_add (pe_callB call_len_str (by rfl) ml PySem.boot_len (pa_cons (pv 6) pa_nil)) pe_int) pa_nil))))
      (pss_cons (ps_if (pt_cmpR op_eq (pv 4) pe_int (nomark _))
        (pss_one (ps_ret (pe_slice sl_list (pe_op op_cat (pe_slice sl_list (pv 3) (po_some (pv 5)) po_none) (pe_slice sl_list (pv 3) po_none (po_some (pv 5)))) po_none (po_some (pv 1))))) pss_nil)
      (pss_cons (ps_if (pt_cmpR op_eq (pv 4) pe_int (nomark _))
        (pss_one (ps_ret (pe_lc (own := [("_law_k", 8)]) (g := gName 8) (tt := tYes) rfl scN.nd (pi_range1 (by rfl) mr (pa_cons (pv 1) pa_nil)) (blkOk_by (N := nN) (sc := defScope sNames) (by decide +kernel))
            (fun _ _ _ _ _ => pg_name (i := 8) scN.nd rfl (Or.inl rfl)) (fun _ _ _ _ _ => pts_nil) (fun _ _ _ _ _ => pe_ix ix_str (pv 2) (pe_op op_modN (pe_callTy call_int1 (by rfl) mi (by decide +kernel) (pa_cons (pe_op op_add (pv 5) (pe_op op_mul pe_int (pv 8))) pa_nil)) pe_int) (fun _ _ => rfl))))) pss_nil)
      (pss_one (ps_ret (pe_lc (own := [("_law_k", 8)]) (g := gName 8) (tt := tYes) rfl scN.nd (pi_range1 (by rfl) mr (pa_cons (pv 1) pa_nil)) (blkOk_by (N := nN) (sc := defScope sNames) (by decide +kernel))
            (fun _ _ _ _ _ => pg_name (i := 8) scN.nd rfl (Or.inl rfl)) (fun _ _ _ _ _ => pts_nil) (fun _ _ _ _ _ => pe_op op_add_str (pe_op op_add_str (pe_slice sl_str (pv 6) po_none (po_some (pv 7))) (pe_ix ix_str (pv 2) (pe_op op_modN (pe_callTy call_int1 (by rfl) mi (by decide +kernel) (pa_cons (pe_op op_add (pv 5) (pe_op op_mul pe_int (pv 8))) pa_nil)) pe_int) (fun _ _ => rfl)))
              (pe_slice sl_str (pv 6) (po_some (pv 7)) po_none)))))))))))), ?_⟩
    refine asgC (asgC ?_)
    refine ⟨_, rfl, _, _, rfl, rfl, by decide +kernel, ⟨_, rfl⟩, _, _, rfl, rfl, by decide +kernel, by decide +kernel, fun pw npw => ?_⟩
    dsimp only
    generalize eW : Txt.split _ _ = WS
    have lW : WS.length = 25 := by
      rw [← eW]
      decide +kernel
    have dW : WS.Nodup := by
      rw [← eW]
      decide +kernel
    have zW : ("zzzzzzzz" : Str) ∉ WS := by
      rw [← eW]
      decide +kernel
    have yW : ("yyyyyyyy" : Str) ∉ WS := by
      rw [← eW]
      decide +kernel
    have nW : ∀ z ∈ WS, NmOk z := by
      rw [← eW]
      exact fun z hz => nm_of (List.all_eq_true.mp (by decide +kernel) z hz)
    have B1 := B.new (o := .lst (WS.map V.str)) npw
    have pwb : pw ≠ b := by
      obtain ⟨o, e⟩ := B.at_b
      exact (ne_of_none e npw).symm
    refine ⟨_, rfl, b, 4, rfl, B1, by decide, by decide, fun st H2 h2 B2 k2 g2 => ?_⟩
    refine ⟨_, rfl, b, 20, rfl, B2, by decide, by decide, fun tu H3 h3 B3 k3 g3 => ?_⟩
    refine ⟨by show 2 ≤ sizeLine; decide, fun t nt => ⟨t, _, rfl, SqT.of upd_same, rfl, _, _, rfl, _, _, rfl, rfl, ?_⟩⟩
    have B4 := B3.new (o := .tup [.int st, .int tu]) nt
    have k04 : Keep b H (upd H3 t (.tup [.int st, .int tu])) := (((Keep.new npw).trans k2).trans k3).trans (Keep.new nt)
    have ew4 : (upd H3 t (.tup [.int st, .int tu])) pw = some (.lst (WS.map V.str)) := by
      have e := k3 _ _ pwb (k2 _ _ pwb upd_same)
      rw [upd_ne (ne_of_none e nt)]
      exact e
    refine ⟨⟨_, rfl⟩, _, rfl, b, 7, rfl, B4, by decide, by decide, fun n7 H5 h5 B5 k5 g5 => ?_⟩
    have k05 := k04.trans k5
    have ew5 := k5 _ _ pwb ew4
    refine ⟨_, _, rfl, rfl, 1 + (n7 : Int), rfl, by omega, by omega, fun D hD => ?_⟩
    obtain ⟨c0, Bc0⟩ : ∃ c, BagAt H b c := B
    have B5c : BagAt H5 b c0 := g5 _ ((g3 _ (g2 _ (Bc0.new npw).1)).new nt).1
    obtain ⟨B5n, Db, Dc⟩ := BagAt.new (o := .lst []) B5c hD
    have Dw : D ≠ pw := (ne_of_none ew5 hD).symm
    have free : ∀ a o, H a = some o → a ≠ b → a ≠ D := fun a o e n => ne_of_none (k05 a o n e) hD
    refine lc_range (lo := 0) (n := (1 + (n7 : Int)).toNat) (fun i H' => BagAt H' b c0 ∧ Keep b H H' ∧ H' pw = some (.lst (WS.map V.str)) ∧ ∃ cs : List Nat, cs.length = i ∧ (∀ c ∈ cs, c ∈ abc.cps.toList) ∧ H' D = some (.lst ((cs.map one).map V.str)))
      ⟨B5n, k05.trans (Keep.new hD), by rw [upd_ne Dw.symm]; exact ew5, [], rfl, fun _ h => absurd h List.not_mem_nil, upd_same⟩ ?_ ?_
    · rintro i H' hi ⟨B', k', ew', cs, cl, ca, eD⟩
      refine ⟨rfl, _, rfl, _, rfl, b, 26, rfl, B'.bag, by decide, by decide, fun r H6 h6 B6 k6 g6 => ?_⟩
      have hl : r < abc.cps.toList.length := by rw [len_list, abc_len]; omega
      have ec := List.getElem?_eq_getElem hl
      refine ⟨abc, r, _, rfl, rfl, line300 (by rw [abc_len]; decide), atI_nat ec, _, k6 _ _ Db eD, ?_, (g6 _ B').put Db Dc, fun a o n e => ?_, ?_, cs ++ [abc.cps.toList[r]], by simp [cl], ?_, ?_⟩
      · rw [List.length_map, List.length_map]
        exact small1000 (by omega)
      · rw [upd_ne (free a o e n)]
        exact k6 a o n (k' a o n e)
      · rw [upd_ne Dw.symm]
        exact k6 _ _ pwb ew'
      · intro c hc
        rcases List.mem_append.mp hc with z | z
        · exact ca c z
        · rw [List.mem_singleton.mp z]
          exact abc_asc _ (List.getElem_mem hl)
      · rw [upd_same, List.map_append, List.map_append]
        rfl
    · rintro H6 ⟨B6, k6, ew6, cs, cl, ca, eD⟩
      have cl8 : cs.length ≤ 7 := by omega
      refine ⟨_, D, cs.map one, rfl, rfl, .inl (SqL.of eD), ?_, ?_⟩
      · rw [sum_ones, List.length_map]
        have e0 : ("" : Str).length = 0 := by decide +kernel
        rw [e0]
        omega
      rw [TL.join_eq, join_ones]
      obtain ⟨bs, ebs⟩ : ∃ bs : Str, bs = ⟨cs.toArray⟩ := ⟨_, rfl⟩
      have bl : bs.length = cs.length := by rw [ebs]; simp [Str.length]
      have ba : asc bs := by
        rw [ebs]
        intro c hc
        exact ca c (by simpa using hc)
      rw [← ebs]
      refine ⟨_, rfl, _, rfl, bs, rfl, line300 (by omega), _, _, rfl, rfl, b, (bs.length : Int) + 1, rfl, B6.bag, by omega, by omega, fun at_ H7 h7 B7 k7 g7 => ?_⟩
      have k07 := k6.trans k7
      have ew7 := k7 _ _ pwb ew6
      have B7c := g7 _ B6
      refine ⟨_, rfl, rfl, _, rfl, ite2 (fun e => ?_) (fun e => ?_)⟩
      · refine ⟨_, rfl, _, rfl, _, rfl, pw, _, rfl, SqL.of ew7, fun x1 n1 => ?_⟩
        have x1w : pw ≠ x1 := ne_of_none ew7 n1
        refine ⟨_, rfl, _, rfl, _, rfl, pw, _, rfl, SqL.of (by rw [upd_ne x1w]; exact ew7), fun x2 n2 => ?_⟩
        have x12 : x1 ≠ x2 := ne_of_none upd_same n2
        refine ⟨x1, x2, _, _, rfl, rfl, by rw [upd_ne x12]; exact upd_same, upd_same, ?_, fun x3 n3 => ?_⟩
        · rw [cut_map, cut_map, List.length_map, List.length_map, List.length_take, List.length_take, List.length_drop, List.length_drop]
          simp only [HT.sIx_none, HT.sIx_nat]
          exact line300 (by omega)
        refine ⟨_, rfl, _, rfl, x3, _, rfl, SqL.of upd_same, fun x4 n4 => ?_⟩
        obtain ⟨zs, ez, zl, zm, zn⟩ := tops WS tu m (by omega)
        rw [ez]
        have K3 := (((Keep.new (b := b) (o := .lst (cutV (WS.map V.str) (some (tu : Int)) none)) n1).trans (Keep.new n2)).trans (Keep.new n3)).trans (Keep.new (o := .lst (zs.map V.str)) n4)
        obtain ⟨C1, _⟩ := B7c.new n1
        obtain ⟨C2, _⟩ := C1.new n2
        obtain ⟨C3, _⟩ := C2.new n3
        obtain ⟨C4, y1, _⟩ := C3.new (o := .lst (zs.map V.str)) n4
        exact q x4 zs _ upd_same zl y1 (fun z h => nW z (zm z h)) (zn dW) ⟨fun h _ => zW (zm _ h), fun h _ => yW (zm _ h)⟩ C4.bag (k07.trans K3) (fun c hc => by rw [BagAt.uniq Bc0 hc]; exact C4)
      · refine ⟨_, rfl, rfl, _, rfl, ite2 (fun e => ?_) (fun e => ?_)⟩
        · refine ⟨_, rfl, _, rfl, by omega, by omega, fun G hG => ?_⟩
          obtain ⟨C7, Gb, Gc⟩ := BagAt.new (o := .lst []) B7c hG
          have free2 : ∀ a o, H a = some o → a ≠ b → a ≠ G := fun a o e n => ne_of_none (k07 a o n e) hG
          refine lc_range (lo := 0) (n := ((m : Int)).toNat) (fun i H' => BagAt H' b c0 ∧ Keep b H H' ∧ ∃ zs : List Str, zs.length = i ∧ (∀ z ∈ zs, NmOk z) ∧ zs = (List.range i).map (fun j => one (ltr tu j)) ∧ H' G = some (.lst (zs.map V.str)))
            ⟨C7, k07.trans (Keep.new hG), [], rfl, fun _ h => absurd h List.not_mem_nil, rfl, upd_same⟩ ?_ ?_
          · rintro i H' hi ⟨B', k', zs, zl, zo, zr, eG⟩
            obtain ⟨r, er, r1⟩ := modN (a := (tu : Int) + 3 * (0 + (i : Int))) (m := 26) (by omega) (by decide)
            have hl : r < abc.cps.toList.length := by rw [len_list, abc_len]; omega
            have ec := List.getElem?_eq_getElem hl
            have el := ltr_at er hl
            refine ⟨rfl, _, rfl, _, rfl, _, rfl, _, _, rfl, rfl, .inl ⟨by decide, by decide⟩, _, _, rfl, rfl, .inl ⟨_, rfl, _, _, rfl, rfl, nz26, abc, _, _, rfl, rfl, line300 (by rw [abc_len]; decide), by rw [er]; exact atI_nat ec, ?_⟩⟩
            refine ⟨_, eG, ?_, B'.put Gb Gc, fun a o n e => ?_, zs ++ [one (abc.cps.toList[r])], by simp [zl], ?_, ?_, ?_⟩
            · rw [List.length_map]
              exact small1000 (by omega)
            · rw [upd_ne (free2 a o e n)]
              exact k' a o n e
            · intro z hz
              rcases List.mem_append.mp hz with y | y
              · exact zo z y
              · rw [List.mem_singleton.mp y]
                exact ⟨by show 1 ≤ 1; decide, by show 1 ≤ 8; decide, asc_one abc_asc ec⟩
            · rw [zr, List.range_succ, List.map_append, el]
              rfl
            · rw [upd_same, List.map_append]
              rfl
          · rintro H8 ⟨B8, k8, zs, zl, zo, zr, eG⟩
            refine q G zs H8 eG (by omega) Gb zo ?_ ?_ B8.bag k8 (fun c hc => by rw [BagAt.uniq Bc0 hc]; exact B8)
            · rw [zr]
              exact nodup_of _ _ fun i hi j hj e => ltr_inj tu (by omega) i (by omega) j (by omega) (by simpa [one] using e)
            · constructor
              · intro hz _
                rw [zr] at hz
                obtain ⟨j, _, e⟩ := List.mem_map.mp hz
                have := congrArg Str.length e
                exact absurd this (by show ¬ (1 = Str.length "zzzzzzzz"); decide +kernel)
              · intro hz _
                rw [zr] at hz
                obtain ⟨j, _, e⟩ := List.mem_map.mp hz
                have := congrArg Str.length e
                exact absurd this (by show ¬ (1 = Str.length "yyyyyyyy"); decide +kernel)
        · refine ⟨_, rfl, _, rfl, by omega, by omega, fun G hG => ?_⟩
          obtain ⟨C7, Gb, Gc⟩ := BagAt.new (o := .lst []) B7c hG
          have free2 : ∀ a o, H a = some o → a ≠ b → a ≠ G := fun a o e n => ne_of_none (k07 a o n e) hG
          refine lc_range (lo := 0) (n := ((m : Int)).toNat) (fun i H' => BagAt H' b c0 ∧ Keep b H H' ∧ ∃ zs : List Str, zs.length = i ∧ (∀ z ∈ zs, NmOk z) ∧ zs = (List.range i).map (fun j => cutS bs none (some (at_ : Int)) ++ ⟨#[ltr tu j]⟩ ++ cutS bs (some (at_ : Int)) none) ∧ H' G = some (.lst (zs.map V.str)))
            ⟨C7, k07.trans (Keep.new hG), [], rfl, fun _ h => absurd h List.not_mem_nil, rfl, upd_same⟩ ?_ ?_
          · rintro i H' hi ⟨B', k', zs, zl, zo, zr, eG⟩
            obtain ⟨r, er, r1⟩ := modN (a := (tu : Int) + 3 * (0 + (i : Int))) (m := 26) (by omega) (by decide)
            have hl : r < abc.cps.toList.length := by rw [len_list, abc_len]; omega
            have ec := List.getElem?_eq_getElem hl
            have el := ltr_at er hl
            have l1 : (⟨#[abc.cps.toList[r]]⟩ : Str).length = 1 := rfl
            have c1 := cutS_length bs none (some (at_ : Int))
            have c2 := cutS_length bs (some (at_ : Int)) none
            refine ⟨rfl, _, rfl, _, rfl, _, rfl, bs, rfl, line300 (by omega), ?_⟩
            refine ⟨_, rfl, _, rfl, _, rfl, _, _, rfl, rfl, .inl ⟨by decide, by decide⟩, _, _, rfl, rfl, .inl ⟨_, rfl, _, _, rfl, rfl, nz26, abc, _, _, rfl, rfl, line300 (by rw [abc_len]; decide), by rw [er]; exact atI_nat ec, ?_⟩⟩
            refine ⟨_, _, rfl, rfl, line300 (by rw [l1]; omega), _, rfl, _, rfl, _, rfl, bs, rfl, line300 (by omega), _, _, rfl, rfl, line300 (by rw [strLen_append, l1]; omega), ?_⟩
            refine ⟨_, eG, ?_, B'.put Gb Gc, fun a o n e => ?_, zs ++ [cutS bs none (some (at_ : Int)) ++ ⟨#[abc.cps.toList[r]]⟩ ++ cutS bs (some (at_ : Int)) none], by simp [zl], ?_, ?_, ?_⟩
            · rw [List.length_map]
              exact small1000 (by omega)
            · rw [upd_ne (free2 a o e n)]
              exact k' a o n e
            · intro z hz
              rcases List.mem_append.mp hz with y | y
              · exact zo z y
              · rw [List.mem_singleton.mp y]
                have cp := cut_parts bs at_
                exact ⟨by rw [strLen_append, strLen_append, l1]; omega, by rw [strLen_append, strLen_append, l1]; omega, asc_add (asc_add (asc_cut ba _ _) (asc_one abc_asc ec)) (asc_cut ba _ _)⟩
            · rw [zr, List.range_succ, List.map_append, el]
              rfl
            · rw [upd_same, List.map_append]
              rfl
          · rintro H8 ⟨B8, k8, zs, zl, zo, zr, eG⟩
            refine q G zs H8 eG (by omega) Gb zo ?_ ?_ B8.bag k8 (fun c hc => by rw [BagAt.uniq Bc0 hc]; exact B8)
            · rw [zr]
              exact nodup_of _ _ fun i hi j hj e => ltr_inj tu (by omega) i (by omega) j (by omega) (append_mid e)
            · have cp := cut_parts bs at_
              constructor
              · intro h1 h2
                rw [zr] at h1 h2
                obtain ⟨j1, _, e1⟩ := List.mem_map.mp h1
                obtain ⟨j2, _, e2⟩ := List.mem_map.mp h2
                exact zq_mid (p := 122) (q := 113) (by decide +kernel) (by decide +kernel) (by decide) (by omega) e1.symm e2.symm
              · intro h1 h2
                rw [zr] at h1 h2
                obtain ⟨j1, _, e1⟩ := List.mem_map.mp h1
                obtain ⟨j2, _, e2⟩ := List.mem_map.mp h2
                exact zq_mid (p := 121) (q := 114) (by decide +kernel) (by decide +kernel) (by decide) (by omega) e1.symm e2.symm
end
end Fv


set_option Elab.async false
set_option linter.all false
set_option maxRecDepth 100000
set_option maxHeartbeats 4000000
namespace Fv
open PySem PySem.Spec PyProof.Rows L2
abbrev sKinds : Stmt := top 50
def kindS (k : Str) : Prop := k = "plain" ∨ k = "high" ∨ k = "low"
/-- the kinds of names, each name once -/
def kinV (ks : List (Str × Str)) : List (Key × V) := ks.map fun p => (Sum.inr p.1, .str p.2)
structure KindsOk (ks : List (Str × Str)) : Prop where
  nd : (ks.map (·.1)).Nodup
  nm : ∀ p ∈ ks, NmOk p.1
  kd : ∀ p ∈ ks, kindS p.2
theorem kinds_put {ks : List (Str × Str)} (h : KindsOk ks) {z k : Str} (hz : NmOk z) (hk : kindS k) : ∃ ks', putK (kinV ks) (Sum.inr z) (.str k) = kinV ks' ∧ KindsOk ks' ∧ ks'.length ≤ ks.length + 1 ∧ 0 < ks'.length ∧ ∀ p ∈ ks', p.1 = z ∨ ∃ q ∈ ks, q.1 = p.1 := by
  unfold putK
  by_cases c : ((kinV ks).any fun kv => decide (kv.1 = Sum.inr z)) = true
  · rw [if_pos c]
    refine ⟨ks.map fun p => if p.1 = z then (p.1, k) else p, ?_, ⟨?_, ?_, ?_⟩, by rw [List.length_map]; omega, ?_, fun p hp => by
      obtain ⟨p0, h0, rfl⟩ := List.mem_map.mp hp
      exact .inr ⟨p0, h0, by by_cases e : p0.1 = z <;> simp [e]⟩⟩
    · unfold kinV
      rw [List.map_map, List.map_map]
      refine List.map_congr_left fun p _ => ?_
      by_cases e : p.1 = z
      · simp [e]
      · simp [e]
    · rw [List.map_map]
      have : ((fun x : Str × Str => x.1) ∘ fun p : Str × Str => if p.1 = z then (p.1, k) else p) = fun p => p.1 := by
        funext p
        by_cases e : p.1 = z
        · simp [e]
        · simp [e]
      rw [this]
      exact h.nd
    · intro p hp
      obtain ⟨p0, h0, rfl⟩ := List.mem_map.mp hp
      by_cases e : p0.1 = z
      · simp only [e, if_true]
        exact hz
      · simp only [e, if_false]
        exact h.nm p0 h0
    · intro p hp
      obtain ⟨p0, h0, rfl⟩ := List.mem_map.mp hp
      by_cases e : p0.1 = z
      · simp only [e, if_true]
        exact hk
      · simp only [e, if_false]
        exact h.kd p0 h0
    · rw [List.length_map]
      cases ks with
      | nil => simp [kinV] at c
      | cons x xs => simp
  · rw [if_neg c]
    refine ⟨ks ++ [(z, k)], by unfold kinV; rw [List.map_append]; rfl, ⟨?_, ?_, ?_⟩, by simp, by simp, fun p hp => (List.mem_append.mp hp).elim (fun h => .inr ⟨p, h, rfl⟩) (fun h => .inl (by rw [List.mem_singleton.mp h]))⟩
    · rw [List.map_append]
      refine List.nodup_append.mpr ⟨h.nd, by simp, fun x hx y hy e => ?_⟩
      have ey : y = z := by simpa using hy
      subst ey
      subst e
      obtain ⟨p, hp, ep⟩ := List.mem_map.mp hx
      apply c
      rw [List.any_eq_true]
      exact ⟨(Sum.inr p.1, .str p.2), List.mem_map.mpr ⟨p, hp, rfl⟩, by simpa using ep⟩
    · intro p hp
      rcases List.mem_append.mp hp with q | q
      · exact h.nm p q
      · rw [List.mem_singleton.mp q]
        exact hz
    · intro p hp
      rcases List.mem_append.mp hp with q | q
      · exact h.kd p q
      · rw [List.mem_singleton.mp q]
        exact hk
def spKinds : Sp := fun vs H Q _ => ∃ (b a : Addr) (zs : List Str), vs = [.ref b, .ref a] ∧ Bag H b ∧ a ≠ b ∧ H a = some (.lst (zs.map V.str)) ∧ zs.length ≤ 20 ∧ (∀ z ∈ zs, NmOk z) ∧
  ∀ (p : Addr) (ks : List (Str × Str)) (H' : Hp), H p = none → H' p = some (.dK (kinV ks)) → KindsOk ks → (∀ p ∈ ks, p.1 ∈ zs) → ks.length ≤ zs.length → (zs ≠ [] → 0 < ks.length) → Bag H' b → Keep b H H' → (∀ c, BagAt H b c → BagAt H' b c) → Q (.ref p) H'
section
variable {P : Program} {w : World} {K : PySem.W.Frag} {mg : Str → Option Value} {base : Heap}
theorem scKi : FnScope ["_law_bag_here", "_law_names_here", "_law_style", "_law_kinds_here", "_law_name"] ["_law_bag_here", "_law_names_here"] (defScope sKinds) := ⟨rfl, rfl, rfl, by decide +kernel, rfl, by decide +kernel, by decide +kernel⟩
theorem ok_kinds {f fT : Addr} {fd fdT : FuncData} (F : Fun K "_law_kinds" "_law_kinds" sKinds f fd) (GT : FnOk P w K mg base CX0 1 fT fdT ["_law_bag_here", "_law_many"] spTake) (bT : Binds K fdT ["_law_bag_here", "_law_many"] []) (mT : mg "_law_take" = some (.ref fT)) (kT : PySem.W.keepIn K (.ref fT) = true) :
    FnOk P w K mg base CX0 2 f fd ["_law_bag_here", "_law_names_here"] spKinds := by
  refine F.ok scKi (fun vs H Q E h => ?_) (fun cdv A outer s H vs Q E hr h => ?_)
  · obtain ⟨b, a, zs, rfl, _⟩ := h
    rfl
  · obtain ⟨b, a, zs, rfl, B, ab, ha, hl, hz, q⟩ := h
    refine ⟨_, pss_cons (ps_par (i := 2) (j := 3) (by rfl) scKi.nd rfl rfl (by decide) rfl rfl (pa_cons (pe_call GT hr (by rfl) mT kT bT .nil pass0 (pa_cons (pv 0) (pa_cons pe_int pa_nil))) (pa_cons pe_dnewK pa_nil)) (by rfl))
      (pss_cons (ps_for PassesOwn.never rfl (pi_list (pv 1)) (pg_name (i := 4) scKi.nd rfl (.inl rfl))
        (pss_one (ps_asg (pe_ifExp (pt_cmpR op_eq (pv 2) pe_int (nomark _)) pe_str
            (pe_ix ix_list (pe_lst (pa_cons pe_str (pa_cons pe_str (pa_cons pe_str (pa_cons pe_str pa_nil))))) (pe_call GT hr (by rfl) mT kT bT .nil pass0 (pa_cons (pv 0) (pa_cons pe_int pa_nil))) (fun _ _ => rfl)))
          (pg_sub (pv 3) (pv 4) (set_dict (Nat.lt_of_le_of_lt (Nat.le_refl _) (hu_of hr)))))))
      (pss_one (ps_ret (pv 3)))), ?_⟩
    obtain ⟨c0, B0⟩ := B
    refine ⟨_, rfl, b, 3, rfl, BagAt.bag B0, by decide, by decide, fun st H1 h1 B1 k1 g1 => fun p np => ⟨_, _, rfl, ?_⟩⟩
    have B1c := g1 _ B0
    obtain ⟨B2, pb, pc⟩ := BagAt.new (o := .dK []) B1c np
    have ea : (upd H1 p (.dK [])) a = some (.lst (zs.map V.str)) := by rw [upd_ne (ne_of_none (k1 _ _ ab ha) np)]; exact k1 _ _ ab ha
    have pa : a ≠ p := ne_of_none (k1 _ _ ab ha) np
    have np0 : H p = none := by
      cases e : H p with
      | none => rfl
      | some o =>
        have := k1 p o pb e
        rw [np] at this
        cases this
    refine ⟨_, rfl, a, rfl, ⟨_, SqL.of ea⟩, ?_⟩
    refine for_list (K := K) (a := a) (xs := zs.map V.str) (fun i σ H' => ∃ y : Option V, σ = [some (.ref b), some (.ref a), some (.int st), some (.ref p), y] ∧ BagAt H' b c0 ∧ Keep b H H' ∧ H' a = some (.lst (zs.map V.str)) ∧ ∃ ks, H' p = some (.dK (kinV ks)) ∧ KindsOk ks ∧ ks.length ≤ i ∧ (0 < i → 0 < ks.length) ∧ ∀ p ∈ ks, p.1 ∈ zs)
      ⟨none, rfl, B2, k1.trans (Keep.new np), ea, [], upd_same, ⟨.nil, fun _ h => (by cases h), fun _ h => (by cases h)⟩, Nat.le_refl _, fun h => absurd h (Nat.lt_irrefl _), fun p hp => by cases hp⟩ (fun i σ H' _ h => ?_) ?_ ?_
    · obtain ⟨y, _, _, _, e, _⟩ := h
      exact SqL.of e
    · rintro i x σ H2 hx ⟨y, rfl, B2, k2, e2, ks, ep, ok, kl, kp, kin⟩
      obtain ⟨z, hzi, rfl⟩ : ∃ z, zs[i]? = some z ∧ x = V.str z := by
        rw [List.getElem?_map] at hx
        cases e : zs[i]? with
        | none => rw [e] at hx; cases hx
        | some z => rw [e] at hx; exact ⟨z, rfl, (Option.some.inj hx).symm⟩
      have hzn := hz z (List.mem_of_getElem? hzi)
      have hi : i < zs.length := (List.getElem?_eq_some_iff.mp hzi).1
      -- the store of a kind
      have put : ∀ {H3 : Hp} {k : Str}, kindS k → BagAt H3 b c0 → Keep b H H3 → H3 a = some (.lst (zs.map V.str)) → H3 p = some (.dK (kinV ks)) →
          ∃ a' H', V.ref p = .ref a' ∧ DPut H3 a' (.str z) (.str k) H' ∧ ∃ y : Option V, [some (.ref b), some (.ref a), some (.int st), some (.ref p), some (V.str z)] = [some (.ref b), some (.ref a), some (.int st), some (.ref p), y] ∧ BagAt H' b c0 ∧ Keep b H H' ∧ H' a = some (.lst (zs.map V.str)) ∧ ∃ ks, H' p = some (.dK (kinV ks)) ∧ KindsOk ks ∧ ks.length ≤ i + 1 ∧ (0 < i + 1 → 0 < ks.length) ∧ ∀ p ∈ ks, p.1 ∈ zs := fun {H3 k} hk B3 k3 e3 ep3 => by
        obtain ⟨ks', ek, ok', kl', kp', kin'⟩ := kinds_put ok hzn hk
        refine ⟨p, _, rfl, DPut.k (k := Sum.inr z) ep3 (by unfold kinV; rw [List.length_map]; exact small1000 (by omega)), _, rfl, B3.put pb pc, fun c o n e => ?_, by rw [upd_ne pa]; exact e3, ks', by rw [upd_same, ek], ok', by omega, fun _ => kp', fun p hp => (kin' p hp).elim (fun e => by rw [e]; exact List.mem_of_getElem? hzi) fun ⟨q, hq, e⟩ => by rw [← e]; exact kin q hq⟩
        rw [upd_ne (ne_of_none e np0)]
        exact k3 c o n e
      refine ⟨_, rfl, rfl, _, rfl, ite2 (fun e => ?_) (fun e => ?_)⟩
      · exact ⟨_, rfl, _, rfl, put (.inl rfl) B2 k2 e2 ep⟩
      · refine ⟨by show 4 ≤ sizeLine; decide, fun L nL => ?_⟩
        obtain ⟨B3, Lb, Lc⟩ := BagAt.new (o := .lst [.str "plain", .str "plain", .str "high", .str "low"]) B2 nL
        refine ⟨_, rfl, b, 4, rfl, BagAt.bag B3, by decide, by decide, fun r H3 h3 B4 k4 g4 => ?_⟩
        obtain ⟨k, ek, hk⟩ : ∃ k : Str, ([.str "plain", .str "plain", .str "high", .str "low"] : List V)[r]? = some (.str k) ∧ kindS k := by
          have h4 : r < 4 := by omega
          match r, h4 with
          | 0, _ => exact ⟨_, rfl, .inl rfl⟩
          | 1, _ => exact ⟨_, rfl, .inl rfl⟩
          | 2, _ => exact ⟨_, rfl, .inr (.inl rfl)⟩
          | 3, _ => exact ⟨_, rfl, .inr (.inr rfl)⟩
        have eL := k4 _ _ Lb upd_same
        refine ⟨L, _, r, _, rfl, rfl, SqL.of eL, atI_nat ek, _, rfl, _, rfl, put hk (g4 _ B3) (fun c o n e => ?_) ?_ ?_⟩
        · have e5 := k2 c o n e
          exact k4 _ _ n (by rw [upd_ne (ne_of_none e5 nL)]; exact e5)
        · exact k4 _ _ ab (by rw [upd_ne (ne_of_none e2 nL)]; exact e2)
        · exact k4 _ _ pb (by rw [upd_ne (ne_of_none ep nL)]; exact ep)
    · rintro σ H2 ⟨y, rfl, B2, k2, e2, ks, ep, ok, kl, kp, kin⟩
      rw [List.length_map] at kl kp
      refine ⟨_, rfl, ?_⟩
      exact q p ks H2 np0 ep ok kin kl (fun h => kp (List.length_pos_iff.mpr h)) B2.bag k2 fun c hc => by rw [BagAt.uniq B0 hc]; exact B2
end
end Fv


set_option Elab.async false
set_option linter.all false
set_option maxRecDepth 100000
set_option maxHeartbeats 4000000
namespace Fv
open PySem PySem.Spec PyProof.Rows L2
/-! ### what a drawn statement has to do with the kinds -/
def flowsOf : PyData → List (Str × Str)
  | .tuple [.str _, p] => (itemsD p).map fun e => (headS e, srcS e)
  | .tuple [.str _, .str x, p] => (itemsD p).map fun e => (x, srcS e)
  | _ => []
def setsOf : PyData → List Str
  | .tuple [.str _, p] => (itemsD p).map headS
  | .tuple [.str _, x, _] => [strS x]
  | .tuple [.str _, _, _, r] => (itemsD r).map strS
  | _ => []
def wordOf : PyData → Str
  | .tuple (.str w :: _) => w
  | _ => ""
def fitS (x y : Str) : Bool := decide (V.str x = V.str "plain") || decide (V.str x = V.str y)
/-- the kind that the word wants, the name's own kind otherwise -/
def wantW (w k : Str) : Str := if w = "most" then "high" else if w = "least" then "low" else k
/-- by the kinds of names kf: does y not fit x, or has x not the kind that the word wants -/
def badF (kf : Str → Str) (f : Str × Str × Str) : Bool := decide (kf f.2.1 ≠ wantW f.1 (kf f.2.1)) || !fitS (kf f.2.2) (kf f.2.1)
def kfOf (ks : List (Str × Str)) (z : Str) : Str := ((ks.find? fun p => decide (p.1 = z)).map (·.2)).getD "plain"
def kinOf (ks : List (Str × Str)) (z : Str) : Bool := (ks.find? fun p => decide (p.1 = z)).isSome
theorem kin_val : ∀ (ks : List (Str × Str)) (z : Str), valV (kinV ks) (Sum.inr z) = ((ks.find? fun p => decide (p.1 = z)).map (·.2)).map V.str
  | [], _ => rfl
  | p :: ks, z => by
    by_cases h : p.1 = z
    · rw [List.find?_cons, decide_eq_true h]
      exact valV_pos (p := ((Sum.inr p.1 : Key), V.str p.2)) (by rw [h])
    · rw [List.find?_cons, decide_eq_false h]
      exact (valV_neg (p := ((Sum.inr p.1 : Key), V.str p.2)) (fun e => h (Sum.inr.inj e))).trans (kin_val ks z)
theorem kin_is {ks : List (Str × Str)} {z k : Str} (e : valV (kinV ks) (Sum.inr z) = some (.str k)) : kinOf ks z = true ∧ kfOf ks z = k := by
  rw [kin_val] at e
  unfold kinOf kfOf
  cases h : ks.find? fun p => decide (p.1 = z) with
  | none => rw [h] at e; cases e
  | some p =>
    rw [h] at e
    exact ⟨rfl, V.str.inj (Option.some.inj e)⟩
theorem kin_in {ks : List (Str × Str)} {z : Str} (h : z ∈ ks.map (·.1)) : kinOf ks z = true := by
  unfold kinOf
  rw [List.find?_isSome]
  obtain ⟨p, hp, e⟩ := List.mem_map.mp h
  exact ⟨p, hp, decide_eq_true e⟩
theorem kf_none {ks : List (Str × Str)} (h : ∀ p ∈ ks, NmOk p.1) : kfOf ks "" = "plain" := by
  unfold kfOf
  have : (ks.find? fun p => decide (p.1 = ("" : Str))) = none := by
    rw [List.find?_eq_none]
    intro p hp hz
    have := (h p hp).1
    rw [of_decide_eq_true hz] at this
    exact absurd this (by decide)
  rw [this]
  rfl
/-- a source of that kind -/
def PtFit (ks : List (Str × Str)) (k y : Str) : Prop := y = "" ∨ (kinOf ks y = true ∧ fitS (kfOf ks y) k = true)
theorem PtFit.src {ks : List (Str × Str)} {k y : Str} (h : PtFit ks k y) : y = "" ∨ kinOf ks y = true := h.imp id (·.1)
theorem PtFit.fit {ks : List (Str × Str)} (hk : ∀ p ∈ ks, NmOk p.1) {k y : Str} (h : PtFit ks k y) : fitS (kfOf ks y) k = true := by
  rcases h with rfl | h
  · rw [kf_none hk]
    rfl
  · exact h.2
theorem fit_in {kk k : Str} (h : inV (.str kk) [.str "plain", .str k] = true) : fitS kk k = true := by
  unfold inV at h
  unfold fitS
  simp only [List.any_cons, List.any_nil, Bool.or_false, Bool.or_eq_true] at h
  rw [Bool.or_eq_true, decide_eq_true_eq, decide_eq_true_eq]
  refine h.imp (fun h => ?_) (fun h => ?_)
  · have h : (("plain" : Str) == kk) = true := h
    rw [beq_iff_eq.mp h]
  · have h : (k == kk) = true := h
    rw [beq_iff_eq.mp h]
/-- a statement of these kinds -/
structure StFit (ks : List (Str × Str)) (d : PyData) : Prop where
  sets : ∀ z ∈ setsOf d, kinOf ks z = true
  srcs : ∀ e ∈ partsOf d, srcS e = "" ∨ kinOf ks (srcS e) = true
  kinds : ∀ f ∈ flowsOf d, badF (kfOf ks) (wordOf d, f) = false
theorem fit_skip {ks : List (Str × Str)} : StFit ks (.tuple [.str "skip"]) := ⟨fun z h => absurd h List.not_mem_nil, fun e h => absurd h List.not_mem_nil, fun f h => absurd h List.not_mem_nil⟩
theorem bad_not {kf : Str → Str} {w x y : Str} (hw : wantW w (kf x) = kf x) (h : fitS (kf y) (kf x) = true) : badF kf (w, x, y) = false := by
  unfold badF
  dsimp only
  rw [hw, h, decide_eq_false (fun n => n rfl)]
  rfl
theorem fit_most {ks : List (Str × Str)} (hk : ∀ p ∈ ks, NmOk p.1) {w x : Str} {es : List PyData} (hx : kinOf ks x = true) (hw : wantW w (kfOf ks x) = kfOf ks x) (h : ∀ e ∈ es, PtFit ks (kfOf ks x) (srcS e)) : StFit ks (.tuple [.str w, .str x, .tuple es]) where
  sets := fun z hz => by
    rw [List.mem_singleton.mp (show z ∈ [x] from hz)]
    exact hx
  srcs := fun e he => (h e he).src
  kinds := fun f hf => by
    obtain ⟨e, he, rfl⟩ := List.mem_map.mp (show f ∈ es.map fun e => (x, srcS e) from hf)
    exact bad_not hw ((h e he).fit hk)
theorem fit_set {ks : List (Str × Str)} (hk : ∀ p ∈ ks, NmOk p.1) {es : List PyData} (h : ∀ e ∈ es, kinOf ks (headS e) = true ∧ PtFit ks (kfOf ks (headS e)) (srcS e)) : StFit ks (.tuple [.str "set", .tuple es]) where
  sets := fun z hz => by
    obtain ⟨e, he, rfl⟩ := List.mem_map.mp (show z ∈ es.map headS from hz)
    exact (h e he).1
  srcs := fun e he => (h e he).2.src
  kinds := fun f hf => by
    obtain ⟨e, he, rfl⟩ := List.mem_map.mp (show f ∈ es.map fun e => (headS e, srcS e) from hf)
    refine bad_not ?_ ((h e he).2.fit hk)
    show wantW "set" _ = _
    unfold wantW
    rw [if_neg (by decide +kernel), if_neg (by decide +kernel)]
theorem fit_call {ks : List (Str × Str)} {w x : Str} {es : List PyData} {qs : List Str} (h : ∀ e ∈ es, srcS e = "" ∨ kinOf ks (srcS e) = true) (hq : ∀ q ∈ qs, kinOf ks q = true) : StFit ks (.tuple [.str w, .str x, .tuple es, .tuple (qs.map .str)]) where
  sets := fun z hz => by
    obtain ⟨e, he, rfl⟩ := List.mem_map.mp (show z ∈ (qs.map PyData.str).map strS from hz)
    obtain ⟨q, hq', rfl⟩ := List.mem_map.mp he
    exact hq q hq'
  srcs := h
  kinds := fun f hf => absurd (show f ∈ ([] : List (Str × Str)) from hf) List.not_mem_nil
end Fv


set_option Elab.async false
set_option linter.all false
set_option maxRecDepth 100000
set_option maxHeartbeats 4000000
namespace Fv
open PySem PySem.Spec PyProof.Rows L2
abbrev sPart : Stmt := top 51
theorem kin_get : ∀ {ks : List (Str × Str)} {z : Str}, z ∈ ks.map (·.1) → (∀ p ∈ ks, kindS p.2) → ∃ k, valV (kinV ks) (Sum.inr z) = some (.str k) ∧ kindS k
  | [], z, h, _ => by cases h
  | p :: ks, z, h, hk => by
    by_cases e : p.1 = z
    · refine ⟨p.2, ?_, hk p List.mem_cons_self⟩
      unfold valV kinV
      rw [List.map_cons, List.find?_cons_of_pos (by simp [e])]
      rfl
    · have h' : z ∈ ks.map (·.1) := by
        rcases List.mem_cons.mp h with q | q
        · exact absurd q.symm e
        · exact q
      obtain ⟨k, e1, e2⟩ := kin_get h' fun q hq => hk q (List.mem_cons_of_mem _ hq)
      refine ⟨k, ?_, e2⟩
      unfold valV kinV at e1 ⊢
      rw [List.map_cons, List.find?_cons_of_neg (by simp [e])]
      exact e1
theorem kin_keys (ks : List (Str × Str)) : (kinV ks).map (·.1) = (ks.map (·.1)).map Sum.inr := by
  unfold kinV
  rw [List.map_map, List.map_map]
  rfl
/-- a source or a name, and a number -/
def spPart : Sp := fun vs H Q _ => ∃ (b a : Addr) (ks : List (Str × Str)) (k : Str), vs = [.ref b, .ref a, .str k] ∧ Bag H b ∧ a ≠ b ∧ H a = some (.dK (kinV ks)) ∧ KindsOk ks ∧ ks.length ≤ 20 ∧
  ∀ (p : Addr) (y : Str) (c : Int) (H' : Hp), p ≠ b → H' p = some (.tup [.str y, .int c]) → (y = "" ∨ NmOk y) ∧ PtFit ks k y → -(10 ^ 39) ≤ c → c ≤ 10 ^ 39 → Bag H' b → Keep b H H' → (∀ c, BagAt H b c → BagAt H' b c) → Q (.ref p) H'
section
variable {P : Program} {w : World} {K : PySem.W.Frag} {mg : Str → Option Value} {base : Heap}
abbrev nPt : List Str := ["_law_bag_here", "_law_kinds_here", "_law_kind", "_law_fit", "_law_name"]
theorem scPt : FnScope nPt ["_law_bag_here", "_law_kinds_here", "_law_kind"] (defScope sPart) := ⟨rfl, rfl, rfl, by decide +kernel, rfl, by decide +kernel, by decide +kernel⟩
theorem ok_part {f fT fN : Addr} {fd fdT fdN : FuncData} (F : Fun K "_law_part" "_law_part" sPart f fd) (GT : FnOk P w K mg base CX0 1 fT fdT ["_law_bag_here", "_law_many"] spTake) (bT : Binds K fdT ["_law_bag_here", "_law_many"] []) (mT : mg "_law_take" = some (.ref fT)) (kT : PySem.W.keepIn K (.ref fT) = true)
    (GN : FnOk P w K mg base CX0 2 fN fdN ["_law_bag_here"] spNumber) (bN : Binds K fdN ["_law_bag_here"] []) (mN : mg "_law_number" = some (.ref fN)) (kN : PySem.W.keepIn K (.ref fN) = true)
    (mo : mg "sorted" = none) (ml : mg "len" = none) : FnOk P w K mg base CX0 3 f fd ["_law_bag_here", "_law_kinds_here", "_law_kind"] spPart := by
  refine F.ok scPt (fun vs H Q E h => ?_) (fun cdv A outer s H vs Q E hr h => ?_)
  · obtain ⟨b, a, ks, k, rfl, _⟩ := h
    rfl
  · obtain ⟨b, a, ks, k, rfl, B, ab, ha, ok, hl, q⟩ := h
    have hr1 : Room 1 _ := hr.mono (by decide)
    have hu := hu_of hr
    refine ⟨_, pss_cons (ps_set (i := 3) scPt.nd rfl (.inl rfl) (pe_op op_cat (pe_lst (pa_cons pe_str pa_nil))
        (pe_lc (own := [("_law_name", 4)]) (g := gName 4) rfl scPt.nd (pi_list (pe_callB (call_sortedD rfl) (by rfl) mo (by decide +kernel) (pa_cons (pv 1) pa_nil))) (blkOk_by (N := nPt) (sc := defScope sPart) (by decide +kernel))
          (fun _ _ _ _ _ => pg_name (i := 4) scPt.nd rfl (Or.inl rfl))
          (fun _ _ _ _ _ => pts_one (pt_cmpR (r := rIn K false) op_in_seq (pe_dget hu (pv 1) (pv 4) (fun _ _ => rfl)) (pe_tup (pa_cons pe_str (pa_cons (pv 2) pa_nil))) (by rfl)))
          (fun _ _ _ _ _ => pv 4))))
      (pss_one (ps_ret (pe_tup (pa_cons (pe_ix ix_list (pv 3) (pe_call GT hr1 (by rfl) mT kT bT .nil pass0 (pa_cons (pv 0) (pa_cons (pe_callB call_len_seq (by rfl) ml PySem.boot_len (pa_cons (pv 3) pa_nil)) pa_nil))) (fun _ _ => rfl))
        (pa_cons (pe_call GN hr (by rfl) mN kN bN .nil pass0 (pa_cons (pv 0) pa_nil)) pa_nil))))), ?_⟩
    obtain ⟨c0, B0⟩ := B
    refine ⟨by show 1 ≤ sizeLine; decide, fun e0 ne0 => ?_⟩
    have s0 := same_upd (o := .lst [.str ""]) ne0
    refine ⟨_, rfl, a, kinV ks, ks.map (·.1), rfl, .inl (s0 _ _ ha), kin_keys ks, by rw [List.length_map]; omega, fun ys p hperm _ np => ⟨p, rfl, ⟨_, SqL.of upd_same⟩, fun D hD => ?_⟩⟩
    have s1 := s0.trans (same_upd (o := .lst (ys.map V.str)) np)
    have ep := (upd_same : (upd (upd H e0 (.lst [.str ""])) p (.lst (ys.map V.str))) p = some (.lst (ys.map V.str)))
    have e00 := (same_upd (o := .lst (ys.map V.str)) np) e0 _ upd_same
    generalize upd (upd H e0 (.lst [.str ""])) p (.lst (ys.map V.str)) = H2 at s1 ep e00 hD ⊢
    have yl : ys.length ≤ 20 := by rw [hperm.length_eq, List.length_map]; exact hl
    refine lc_list (K := K) (a := p) (xs := ys.map V.str) (fun i H' => Same H2 H' ∧ ∃ zs : List Str, H' D = some (.lst (zs.map V.str)) ∧ (∀ z ∈ zs, NmOk z ∧ kinOf ks z = true ∧ fitS (kfOf ks z) k = true) ∧ zs.length ≤ i) ⟨same_upd hD, [], upd_same, fun _ h => (by cases h), Nat.le_refl _⟩ (fun i H' _ h => SqL.of (h.1 _ _ ep)) ?_ ?_
    · rintro i x H' hx ⟨s', zs, e', zo, zl⟩
      obtain ⟨z, hzi, rfl⟩ : ∃ z, ys[i]? = some z ∧ x = V.str z := by
        rw [List.getElem?_map] at hx
        cases e : ys[i]? with
        | none => rw [e] at hx; cases hx
        | some z => rw [e] at hx; exact ⟨z, rfl, (Option.some.inj hx).symm⟩
      have hi : i < ys.length := (List.getElem?_eq_some_iff.mp hzi).1
      have hm : z ∈ ks.map (·.1) := hperm.mem_iff.mp (List.mem_of_getElem? hzi)
      have hn : NmOk z := by
        obtain ⟨pr, hp, rfl⟩ := List.mem_map.mp hm
        exact ok.nm pr hp
      obtain ⟨kk, ek, _⟩ := kin_get hm ok.kd
      obtain ⟨ki, kf⟩ := kin_is ek
      have ea := s' _ _ (s1 _ _ ha)
      refine ⟨rfl, _, rfl, _, rfl, a, _, rfl, ek ▸ DGet.k (k := Sum.inr z) ea, _, rfl, by show 2 ≤ sizeLine; decide, fun t nt => ⟨t, _, rfl, .inr (SqT.of upd_same), rfl, rfl, _, rfl, ?_⟩⟩
      have w1 := same_upd (o := .tup [.str "plain", .str k]) nt
      refine ite2 (fun hin => ?_) (fun _ => ?_)
      · have hfit := fit_in hin
        refine ⟨_, rfl, _, w1 _ _ e', by rw [List.length_map]; exact small60 (by omega), fun c o e => ?_, zs ++ [z], ?_, fun y hy => ?_, by simp; omega⟩
        · rw [upd_ne (ne_of_none e hD)]
          exact w1 _ _ (s' c o e)
        · rw [upd_same, List.map_append]
          rfl
        · rcases List.mem_append.mp hy with h | h
          · exact zo y h
          · rw [List.mem_singleton.mp h]
            exact ⟨hn, ki, by rw [kf]; exact hfit⟩
      · exact ⟨s'.trans w1, zs, w1 _ _ e', zo, by omega⟩
    · rintro H3 ⟨s3, zs, e3, zo, zl⟩
      rw [List.length_map] at zl
      refine ⟨e0, D, _, _, rfl, rfl, s3 _ _ e00, e3, by rw [List.length_map]; exact Nat.le_of_lt (small60 (by show 1 + zs.length ≤ 60; omega)), fun p2 np2 => ?_⟩
      have s4 := (s1.trans s3).trans (same_upd (o := .lst ([.str ""] ++ zs.map V.str)) np2)
      have e2 := (upd_same : (upd H3 p2 (.lst ([.str ""] ++ zs.map V.str))) p2 = some (.lst ([.str ""] ++ zs.map V.str)))
      obtain ⟨ob, hob⟩ := Bag.at_b (BagAt.bag B0)
      have p2b : p2 ≠ b := (ne_of_none (s3 _ _ (s1 _ _ hob)) np2).symm
      generalize upd H3 p2 (.lst ([.str ""] ++ zs.map V.str)) = H4 at s4 e2 ⊢
      have B4 : BagAt H4 b c0 := BagAt.same B0 s4
      have el : (([.str ""] ++ zs.map V.str : List V)).length = zs.length + 1 := by simp
      refine ⟨_, rfl, _, rfl, _, rfl, p2, _, rfl, .inl (SqL.of e2), b, _, rfl, BagAt.bag B4, by rw [el]; omega, by rw [el]; omega, fun r H5 h5 B5 k5 g5 => ?_⟩
      rw [el] at h5
      obtain ⟨y, ey, hy⟩ : ∃ y : Str, (([.str ""] ++ zs.map V.str : List V))[r]? = some (.str y) ∧ (y = "" ∨ NmOk y) ∧ PtFit ks k y := by
        cases r with
        | zero => exact ⟨_, rfl, .inl rfl, .inl rfl⟩
        | succ r =>
          have hr2 : r < zs.length := by omega
          refine ⟨zs[r], ?_, .inr (zo _ (List.getElem_mem hr2)).1, .inr (zo _ (List.getElem_mem hr2)).2⟩
          show (zs.map V.str)[r]? = _
          rw [List.getElem?_map, List.getElem?_eq_getElem hr2]
          rfl
      refine ⟨p2, _, r, _, rfl, rfl, SqL.of (k5 _ _ p2b e2), atI_nat ey, _, rfl, b, rfl, B5, fun c H6 c1 c2 B6 k6 g6 => ⟨by show 2 ≤ sizeLine; decide, fun t nt => ?_⟩⟩
      have B6c := g6 _ (g5 _ B4)
      obtain ⟨B7, tb, _⟩ := BagAt.new (o := .tup [.str y, .int c]) B6c nt
      have k04 : Keep b H H4 := fun c o _ e => s4 c o e
      exact q t y c _ tb upd_same hy c1 c2 (BagAt.bag B7) (((k04.trans k5).trans k6).trans (Keep.new nt)) fun c hc => by rw [BagAt.uniq B0 hc]; exact B7
end
end Fv


set_option Elab.async false
set_option linter.all false
set_option maxRecDepth 100000
set_option maxHeartbeats 4000000
namespace Fv
open PySem PySem.Spec PyProof.Rows L2
section
variable {P : Program} {w : World} {K : PySem.W.Frag} {mg : Str → Option Value} {base : Heap}
theorem DqAll.one {H : Hp} {b : Addr} {x : V} {ds : List PyData} (h : DqAll H b [x] ds) : ∃ dx, ds = [dx] ∧ Dq H b x dx := by
  cases h with
  | cons h1 h =>
    cases h
    exact ⟨_, rfl, h1⟩
theorem DqAll.two {H : Hp} {b : Addr} {x y : V} {ds : List PyData} (h : DqAll H b [x, y] ds) : ∃ dx dy, ds = [dx, dy] ∧ Dq H b x dx ∧ Dq H b y dy := by
  cases h with
  | cons h1 h =>
    obtain ⟨dy, rfl, h2⟩ := h.one
    exact ⟨_, _, rfl, h1, h2⟩
theorem DqAll.three {H : Hp} {b : Addr} {x y z : V} {ds : List PyData} (h : DqAll H b [x, y, z] ds) : ∃ dx dy dz, ds = [dx, dy, dz] ∧ Dq H b x dx ∧ Dq H b y dy ∧ Dq H b z dz := by
  cases h with
  | cons h1 h =>
    obtain ⟨dy, dz, rfl, h2, h3⟩ := h.two
    exact ⟨_, _, _, rfl, h1, h2, h3⟩
/-- the parts' sources and integers -/
def twoD (e : PyData) : PyData := .tuple [.str (srcS e), .int (lastI e)]
def spParted : Sp := fun vs H Q _ => ∃ (b : Addr) (v : V) (d : PyData), vs = [v] ∧ Dq H b v d ∧ okD d ∧ stD d = true ∧ frozenD d = d ∧ (∃ o, H b = some o) ∧
  ∀ (H' : Hp) (p : Addr) (ys : List V), Same H H' → H p = none → H' p = some (.lst ys) → DqAll (del H' p) b ys ((partsOf d).map twoD) → Q (.ref p) H'
end
end Fv


set_option Elab.async false
set_option linter.all false
set_option maxRecDepth 100000
set_option maxHeartbeats 4000000
namespace Fv
open PySem PySem.Spec PyProof.Rows L2
abbrev sLoose : Stmt := top 59
/-- list(x) of a tuple: a new list at none of the first places -/
def rListT (K : PySem.W.Frag) : List V → Hp → VK → Prop := fun xs H Q => ∃ p ys, xs = [.ref p] ∧ SqT K H p ys ∧ ∀ l, H l = none → l ≠ sysModules → Q (.ref l) (upd H l (.lst ys))
theorem call_listB {X : Cx} : CallR X (.type "list") (rListT X.K) := by
  intro pins s σ H xs us Q I r h
  obtain ⟨p, ys, ex, hT, q⟩ := h
  subst ex
  obtain ⟨v, ev, rv⟩ := vals1 r
  subst ev
  obtain rfl : v = Value.ref p := rv
  obtain ⟨items, ri, ⟨ob, hob, hcl, cap, hda⟩, room⟩ := I.tuple hT
  have hn := ri.length
  refine call_list_seq p (.inr rfl) hob hcl hda (fun hp cp keep new => ?_) (by simp only [List.size_toArray] <;> omega)
  have J : Inv X pins σ (upd H s.heap.objs.size (.lst ys)) { s with heap := hp } := I.laid (t' := s.toks) keep (Nat.le_refl _) ⟨room, items, cp, ri, new⟩
  exact ⟨.ref _, _, J, rfl, q _ (I.hok.fresh (Nat.le_refl _)) (Nat.ne_of_gt I.big)⟩
theorem fz_row (d : PyData) : rowD (fz d) = rowD d := by cases d <;> rfl
theorem fz_items (d : PyData) : itemsD (fz d) = itemsD d := by cases d <;> rfl
theorem fz_name (d : PyData) : nameD (fz d) = nameD d := by cases d <;> rfl
theorem fz_sets (d : PyData) : setsD (fz d) = setsD d := by
  unfold setsD
  rw [fz_row, fz_items]
theorem fz_parts (d : PyData) : partsD (fz d) = partsD d := by
  unfold partsD
  rw [fz_row, fz_items]
theorem fz_names (d : PyData) : namesD (fz d) = namesD d := by
  unfold namesD
  rw [fz_row, fz_items]
theorem rest_fz (w : Str) (r : List PyData) : restD w (r.map fz) = restD w r := by
  match r with
  | [] => rfl
  | [a] => rw [List.map_cons, List.map_nil, rest2, rest2, fz_sets]
  | [a, c] => rw [List.map_cons, List.map_cons, List.map_nil, rest3, rest3, fz_name, fz_parts, fz_items]
  | [a, c, e] => rw [List.map_cons, List.map_cons, List.map_cons, List.map_nil, rest4, rest4, fz_name, fz_parts, fz_names]
  | _ :: _ :: _ :: _ :: r => rw [rest5 (by simp), rest5 (by simp)]
theorem st_fz (es : List PyData) : stD (.tuple (es.map fz)) = stD (.tuple es) := by
  cases es with
  | nil => rfl
  | cons e es =>
    cases e with
    | str w => exact rest_fz w es
    | _ => rfl
theorem ok_fz {d : PyData} (h : okD (fz d)) : okD d := by cases d <;> exact h
theorem okAll_fz : ∀ {es : List PyData}, okAll (es.map fz) → okAll es
  | [], _ => True.intro
  | _ :: _, h => ⟨ok_fz h.1, okAll_fz h.2⟩
theorem fz_fz (d : PyData) : fz (fz d) = fz d := by cases d <;> rfl
theorem fz_fixed : ∀ {ds : List PyData}, ds.map fz = ds → ∀ e ∈ ds, fz e = e
  | [], _, e, h => by cases h
  | d :: ds, hd, e, h => by
    rw [List.map_cons] at hd
    injection hd with h1 h2
    rcases List.mem_cons.mp h with rfl | h
    · exact h1
    · exact fz_fixed h2 e h
/-- a frozen statement with lists for some of its tuples -/
def spLoose : Sp := fun vs H Q _ => ∃ (b : Addr) (v : V) (d : PyData), vs = [.ref b, v] ∧ Bag H b ∧ Dq H b v d ∧ okD d ∧ stD d = true ∧ frozenD d = d ∧
  ∀ (p : Addr) (us : List V) (d' : PyData) (H' : Hp), H p = none → H' p = some (.tup us) → (∀ c l, V.ref c ∈ us → H' c = some (.lst l) → H c = none) → Dq H' b (.ref p) d' → okD d' → stD d' = true → frozenD d' = d → Bag H' b → Keep b H H' → (∀ c, BagAt H b c → BagAt H' b c) → Q (.ref p) H'
section
variable {P : Program} {w : World} {K : PySem.W.Frag} {mg : Str → Option Value} {base : Heap}
abbrev nLo : List Str := ["_law_bag_here", "_law_statement_here", "_law_one"]
theorem scLo : FnScope nLo ["_law_bag_here", "_law_statement_here"] (defScope sLoose) := ⟨rfl, rfl, rfl, by decide +kernel, rfl, by decide +kernel, by decide +kernel⟩
theorem ok_loose {f fT : Addr} {fd fdT : FuncData} (F : Fun K "_law_loose" "_law_loose" sLoose f fd) (GT : FnOk P w K mg base CX0 1 fT fdT ["_law_bag_here", "_law_many"] spTake) (bT : Binds K fdT ["_law_bag_here", "_law_many"] []) (mT : mg "_law_take" = some (.ref fT)) (kT : PySem.W.keepIn K (.ref fT) = true)
    (mq : mg "isinstance" = none) (mt : mg "tuple" = none) (mL : mg "list" = none) : FnOk P w K mg base CX0 2 f fd ["_law_bag_here", "_law_statement_here"] spLoose := by
  refine F.ok scLo (fun vs H Q E h => ?_) (fun cdv A outer s H vs Q E hr h => ?_)
  · obtain ⟨b, v, d, rfl, _⟩ := h
    rfl
  · obtain ⟨b, v, d, rfl, B, hd, hs, hst, hfz, q⟩ := h
    refine ⟨_, pss_one (ps_ret (pe_callTy call_tuple_of (by rfl) mt boot_tuple (pa_cons
      (pe_lc (own := [("_law_one", 2)]) (g := gName 2) (tt := tYes) rfl scLo.nd (pi_tup (pv 1)) (blkOk_by (N := nLo) (sc := defScope sLoose) (by decide +kernel))
        (fun _ _ _ _ _ => pg_name (i := 2) scLo.nd rfl (Or.inl rfl)) (fun _ _ _ _ _ => pts_nil)
        (fun _ _ _ _ _ => pe_ifExp (PW.pt (pw_and (pt_val (pe_callB (id := "isinstance") (r := rIsi K) call_isi (by rfl) mq (by decide +kernel) (pa_cons (pv 2) (pa_cons (pe_bltn (v := .ty "tuple") (by rfl) mt boot_tuple rfl) pa_nil))))
            (pw_and1 (pt_cmpR op_eq (pe_call GT hr (by rfl) mT kT bT .nil pass0 (pa_cons (pv 0) (pa_cons pe_int pa_nil))) pe_int (nomark _)))))
          (pe_callTy (T := "list") (r := rListT K) call_listB (by rfl) mL boot_list (pa_cons (pv 2) pa_nil)) (pv 2))) pa_nil))), ?_⟩
    obtain ⟨c0, B0⟩ := B
    obtain ⟨a, xs, ds, rfl, ab, rfl, e1, hx⟩ := hd.tup_of (st_tup hst)
    have hfm : ds.map fz = ds := by
      have : PyData.tuple (ds.map fz) = .tuple ds := hfz
      injection this
    have hlen := hx.len
    have hok : ds.length ≤ 60 ∧ okAll ds := hs
    refine ⟨_, rfl, a, rfl, ⟨xs, SqT.of e1⟩, fun D hD => ?_⟩
    obtain ⟨B1, Db, Dc⟩ := BagAt.new (o := .lst []) B0 hD
    have sub : ∀ {H' H4 : Hp}, Keep b H' H4 → ∀ c o, c ≠ b → del H' D c = some o → del H4 D c = some o := fun {H' H4} s c o n e => by
      have nc : c ≠ D := fun z => by
        rw [z, del_same] at e
        cases e
      rw [del_ne nc]
      exact s c o n (del_sub c o e)
    have inD : ∀ {H4 : Hp}, Keep b H H4 → ∀ c o, c ≠ b → H c = some o → del H4 D c = some o := fun {H4} s c o n e => by
      rw [del_ne (ne_of_none e hD)]
      exact s c o n e
    refine lc_tup (K := K) (a := a) (xs := xs) (fun i H' => BagAt H' b c0 ∧ Keep b H H' ∧ ∃ (ys : List V) (es : List PyData), H' D = some (.lst ys) ∧ DqAll (del H' D) b ys es ∧ es.map fz = ds.take i ∧ ∀ c, V.ref c ∈ ys → ∀ l, H c ≠ some (.lst l)) ⟨B1, Keep.new hD, [], [], upd_same, .nil, rfl, fun c h => absurd h List.not_mem_nil⟩ (fun i H' _ h => SqT.of (h.2.1 _ _ ab e1)) ?_ ?_
    · rintro i x H' hxi ⟨B', k', ys, es, e', ya, em, en⟩
      obtain ⟨dx, hdi, hdx⟩ := hx.at_ hxi
      have hi : i < ds.length := (List.getElem?_eq_some_iff.mp hdi).1
      have el : es.length = i := by
        have := congrArg List.length em
        rw [List.length_map, List.length_take] at this
        omega
      have yl : ys.length = i := by rw [ya.len, el]
      have hfx : fz dx = dx := fz_fixed hfm dx (List.mem_of_getElem? hdi)
      have put : ∀ (H4 : Hp) (y : V) (e : PyData), Keep b H' H4 → BagAt H4 b c0 → fz e = dx → Dq (del H4 D) b y e → (∀ c, y = .ref c → ∀ l, H c ≠ some (.lst l)) → ∃ acc, H4 D = some (.lst acc) ∧ acc.length < sizeLine ∧ BagAt (upd H4 D (.lst (acc ++ [y]))) b c0 ∧ Keep b H (upd H4 D (.lst (acc ++ [y]))) ∧ ∃ (ys : List V) (es : List PyData), (upd H4 D (.lst (acc ++ [y]))) D = some (.lst ys) ∧ DqAll (del (upd H4 D (.lst (acc ++ [y]))) D) b ys es ∧ es.map fz = ds.take (i + 1) ∧ ∀ c, V.ref c ∈ ys → ∀ l, H c ≠ some (.lst l) := fun H4 y e k4 B4 ee hy hn => by
        refine ⟨ys, k4 _ _ Db e', small60 (by omega), B4.put Db Dc, fun c o n e => ?_, ys ++ [y], es ++ [e], upd_same, ?_, ?_, fun c hc l => (List.mem_append.mp hc).elim (fun h => en c h l) fun h => hn c (List.mem_singleton.mp h).symm l⟩
        · rw [upd_ne (ne_of_none e hD)]
          exact k4 _ _ n (k' c o n e)
        · rw [del_upd]
          exact DqAll.snoc hy (ya.mono fun c o n e => sub k4 c o n e)
        · rw [List.map_append, em, List.take_add_one, hdi]
          show _ ++ [fz e] = _
          rw [ee]
          rfl
      have hdx' := hdx.mono k'
      refine ⟨rfl, _, rfl, _, _, _, _, _, rfl, .ty "tuple", hdx'.ty, kit_tup dx, _, rfl, ?_⟩
      cases ht : isTupD dx with
      | false => exact iteF ⟨_, rfl, put H' x dx (fun _ _ _ e => e) B' hfx (hdx.mono fun c o n e => inD k' c o n e) fun c ec l el => by
        subst ec
        cases hdx with
        | lst e _ _ _ => cases hfx
        | tup e _ _ => rw [e] at el; cases el
        | dct e _ _ _ => rw [e] at el; cases el⟩
      | true =>
        obtain ⟨al, xl, dl, rfl, nl, rfl, el1, hl1⟩ := hdx.tup_of ht
        refine iteT ⟨_, rfl, b, 2, rfl, BagAt.bag B', by decide, by decide, fun r H3 h3 B3 k3 g3 => ?_⟩
        have B3c := g3 _ B'
        have k03 := k'.trans k3
        refine ⟨rfl, _, rfl, ite2 (fun _ => ?_) (fun _ => ?_)⟩
        · refine ⟨_, rfl, al, xl, rfl, SqT.of (k03 _ _ nl el1), fun l fl ml => ?_⟩
          obtain ⟨B4, lb, _⟩ := BagAt.new (o := .lst xl) B3c fl
          have k4 : Keep b H3 (upd H3 l (.lst xl)) := Keep.new fl
          refine put _ _ (.list dl) (k3.trans k4) B4 rfl (.lst (xs := xl) ?_ lb ml (hl1.mono fun c o n e => inD (k03.trans k4) c o n e)) fun c ec l' el => by
            cases ec
            rw [k03 _ _ lb el] at fl
            cases fl
          have lD : l ≠ D := (ne_of_none (k3 _ _ Db e') fl).symm
          rw [del_ne lD]
          exact upd_same
        · exact ⟨_, rfl, put H3 _ _ k3 B3c hfx (.tup (inD k03 _ _ nl el1) nl (hl1.mono fun c o n e => inD k03 c o n e)) fun c ec l' el => by cases ec; rw [el1] at el; cases el⟩
    · rintro H2 ⟨B2, k2, ys, es, e2, ya, em, en⟩
      rw [hlen, List.take_length] at em
      refine ⟨D, ys, rfl, .inl ⟨SqL.of e2, fun l fl => ?_⟩⟩
      obtain ⟨B3, lb, _⟩ := BagAt.new (o := .tup ys) B2 fl
      have k3 : Keep b H2 (upd H2 l (.tup ys)) := Keep.new fl
      have hst' : stD (.tuple es) = true := by rw [← st_fz, em]; exact hst
      have hes : es.length ≤ 60 := by
        have := congrArg List.length em
        rw [List.length_map] at this
        omega
      have nl0 : H l = none := by
        cases e : H l with
        | none => rfl
        | some o =>
          rw [k2 _ _ lb e] at fl
          cases fl
      refine q l ys (.tuple es) _ nl0 upd_same (fun c l' hc el => ?_) (.tup upd_same lb (ya.mono fun c o n e => k3 c o n (del_sub c o e))) ⟨hes, okAll_fz (by rw [em]; exact hok.2)⟩ hst' ?_ (BagAt.bag B3) (k2.trans k3) fun c hc => by rw [BagAt.uniq B0 hc]; exact B3
      · cases e : H c with
        | none => rfl
        | some o =>
          have cb : c ≠ b := by
            obtain ⟨i, hi⟩ := List.getElem?_of_mem hc
            obtain ⟨e', _, hd⟩ := ya.at_ hi
            cases hd with
            | lst _ n _ _ => exact n
            | tup _ n _ => exact n
            | dct _ n _ _ => exact n
          rw [(k2.trans k3) c o cb e] at el
          cases el
          exact absurd e (en c hc l')
      show PyData.tuple (es.map fz) = _
      rw [em]
end
end Fv


set_option Elab.async false
set_option linter.all false
set_option maxRecDepth 100000
set_option maxHeartbeats 4000000
namespace Fv
open PySem PySem.Spec PyProof.Rows L2
abbrev sSt : Stmt := top 52
/-- numbers that are drawn, few parts -/
def smallSt (d : PyData) : Prop := (partsOf d).length ≤ 20 ∧ (∀ e ∈ partsOf d, -(10 ^ 39) ≤ lastI e ∧ lastI e ≤ 10 ^ 39) ∧ ∀ e ∈ itemsD d, (itemsD e).length ≤ 20
theorem few_skip : ∀ e ∈ itemsD (.tuple [.str "skip"]), (itemsD e).length ≤ 20 := fun e he => by
  rw [List.mem_singleton.mp (show e ∈ [PyData.str "skip"] from he)]
  exact Nat.zero_le _
theorem few2 {w : Str} {es : List PyData} (h : es.length ≤ 20) : ∀ e ∈ itemsD (.tuple [.str w, .tuple es]), (itemsD e).length ≤ 20 := fun e he => by
  rcases List.mem_cons.mp (show e ∈ [PyData.str w, .tuple es] from he) with rfl | he
  · exact Nat.zero_le _
  · rw [List.mem_singleton.mp he]
    exact h
theorem few3 {w x : Str} {es : List PyData} (h : es.length ≤ 20) : ∀ e ∈ itemsD (.tuple [.str w, .str x, .tuple es]), (itemsD e).length ≤ 20 := fun e he => by
  rcases List.mem_cons.mp (show e ∈ [PyData.str w, .str x, .tuple es] from he) with rfl | he
  · exact Nat.zero_le _
  · exact few2 (w := x) h e he
theorem few4 {w x : Str} {es rs : List PyData} (h : es.length ≤ 20) (k : rs.length ≤ 20) : ∀ e ∈ itemsD (.tuple [.str w, .str x, .tuple es, .tuple rs]), (itemsD e).length ≤ 20 := fun e he => by
  rcases List.mem_cons.mp (show e ∈ [PyData.str w, .str x, .tuple es, .tuple rs] from he) with rfl | he
  · exact Nat.zero_le _
  · rcases List.mem_cons.mp he with rfl | he
    · exact Nat.zero_le _
    · rcases List.mem_cons.mp he with rfl | he
      · exact h
      · rw [List.mem_singleton.mp he]
        exact k
def spSt : Sp := fun vs H Q _ => ∃ (b a : Addr) (ks : List (Str × Str)), vs = [.ref b, .ref a] ∧ Bag H b ∧ a ≠ b ∧ H a = some (.dK (kinV ks)) ∧ KindsOk ks ∧ ks.length ≤ 20 ∧
  ∀ (p : Addr) (d : PyData) (H' : Hp), Dq H' b (.ref p) d → okD d → stD d = true → frozenD d = d → smallSt d → StFit ks d → Bag H' b → Keep b H H' → (∀ c, BagAt H b c → BagAt H' b c) → Q (.ref p) H'
theorem okAll.snoc {d : PyData} (h : okD d) : ∀ {ds : List PyData}, okAll ds → okAll (ds ++ [d])
  | [], _ => ⟨h, True.intro⟩
  | _ :: _, g => ⟨g.1, okAll.snoc h g.2⟩
theorem abc_small : ∀ c ∈ abc.cps.toList, c < 128 := by decide +kernel
theorem NmOk.ok {z : Str} (h : NmOk z) : okD (.str z) := ⟨by have := h.2.1; omega, fun c hc => abc_small c (h.2.2 c hc)⟩
theorem src_ok {y : Str} (h : y = "" ∨ NmOk y) : okD (.str y) := by
  rcases h with rfl | h
  · exact ⟨by decide, by decide⟩
  · exact h.ok
theorem src_name {y : Str} (h : y = "" ∨ NmOk y) : sourceD (.str y) = true := by
  rcases h with rfl | hy
  · rfl
  · show (nameS y || _) = true
    rw [hy.name]
    rfl
theorem strs_perm {ms : List V} {ys : List Str} (h : ms.Perm (ys.map V.str)) : ∃ zs : List Str, ms = zs.map V.str ∧ zs.Perm ys := by
  let f : V → Str := fun v => match v with | .str z => z | _ => ""
  refine ⟨ms.map f, ?_, ?_⟩
  · rw [List.map_map]
    conv => lhs; rw [← List.map_id ms]
    refine List.map_congr_left fun v hv => ?_
    obtain ⟨z, _, rfl⟩ := List.mem_map.mp (h.mem_iff.mp hv)
    rfl
  · have := h.map f
    rw [List.map_map] at this
    have e : ys.map (f ∘ V.str) = ys := by
      conv => rhs; rw [← List.map_id ys]
      exact List.map_congr_left fun _ _ => rfl
    rwa [e] at this
section
variable {P : Program} {w : World} {K : PySem.W.Frag} {mg : Str → Option Value} {base : Heap}
abbrev nSt : List Str := ["_law_bag_here", "_law_kinds_here", "_law_names_here", "_law_x", "_law_word", "_law_parts", "_law_chosen", "_law_k", "_law_name"]
theorem scSt : FnScope nSt ["_law_bag_here", "_law_kinds_here"] (defScope sSt) := ⟨rfl, rfl, rfl, by decide +kernel, rfl, by decide +kernel, by decide +kernel⟩
theorem ok_st {f fT fP fM : Addr} {fd fdT fdP fdM : FuncData} (F : Fun K "_law_statement" "_law_statement" sSt f fd) (GT : FnOk P w K mg base CX0 1 fT fdT ["_law_bag_here", "_law_many"] spTake) (bT : Binds K fdT ["_law_bag_here", "_law_many"] []) (mT : mg "_law_take" = some (.ref fT)) (kT : PySem.W.keepIn K (.ref fT) = true)
    (GP : FnOk P w K mg base CX0 3 fP fdP ["_law_bag_here", "_law_kinds_here", "_law_kind"] spPart) (bP : Binds K fdP ["_law_bag_here", "_law_kinds_here", "_law_kind"] []) (mP : mg "_law_part" = some (.ref fP)) (kP : PySem.W.keepIn K (.ref fP) = true)
    (GM : FnOk P w K mg base CX0 2 fM fdM ["_law_bag_here", "_law_things"] (spMixed K)) (bM : Binds K fdM ["_law_bag_here", "_law_things"] []) (mM : mg "_law_mixed" = some (.ref fM)) (kM : PySem.W.keepIn K (.ref fM) = true)
    (mo : mg "sorted" = none) (ml : mg "len" = none) (mr : mg "range" = none) (mt : mg "tuple" = none) : FnOk P w K mg base CX0 4 f fd ["_law_bag_here", "_law_kinds_here"] spSt := by
  refine F.ok scSt (fun vs H Q E h => ?_) (fun cdv A outer s H vs Q E hr h => ?_)
  · obtain ⟨b, a, ks, rfl, _⟩ := h
    rfl
  · obtain ⟨b, a, ks, rfl, B, ab, ha, ok, hl, q⟩ := h
    have hr1 : Room 1 _ := hr.mono (by decide)
    have hr2 : Room 2 _ := hr.mono (by decide)
    have hu := hu_of hr
    refine ⟨_, pss_cons (ps_set (i := 2) scSt.nd rfl (.inl rfl) (pe_callB (call_sortedD rfl) (by rfl) mo (by decide +kernel) (pa_cons (pv 1) pa_nil)))
      (pss_cons (ps_if (PW.pt (pw_or (pt_cmpR (op_eqNil hr.units) (pv 2) (pe_lst pa_nil) (nomark _)) (pw_or1 (pt_cmpR op_eq (pe_call GT hr1 (by rfl) mT kT bT .nil pass0 (pa_cons (pv 0) (pa_cons pe_int pa_nil))) pe_int (nomark _)))))
        (pss_one (ps_ret (pe_tup (pa_cons pe_str pa_nil)))) pss_nil)
      (pss_cons (ps_set (i := 3) scSt.nd rfl (.inr rfl) (pe_ix ix_list (pv 2) (pe_call GT hr1 (by rfl) mT kT bT .nil pass0 (pa_cons (pv 0) (pa_cons (pe_callB call_len_seq (by rfl) ml PySem.boot_len (pa_cons (pv 2) pa_nil)) pa_nil))) (fun _ _ => rfl)))
      (pss_cons (ps_if (PW.pt (pw_and (pt_cmpR op_ne (pe_dget hu (pv 1) (pv 3) (fun _ _ => rfl)) pe_str (nomark _)) (pw_and1 (pt_cmpR op_gt (pe_call GT hr1 (by rfl) mT kT bT .nil pass0 (pa_cons (pv 0) (pa_cons pe_int pa_nil))) pe_int (nomark _)))))
        (pss_cons (ps_set (i := 4) scSt.nd rfl (.inl rfl) (pe_ifExp (pt_cmpR op_eq (pe_dget hu (pv 1) (pv 3) (fun _ _ => rfl)) pe_str (nomark _)) pe_str pe_str))
        (pss_cons (ps_setLc (i := 5) (own := [("_law_k", 7)]) (g := gName 7) (tt := tYes) (by rfl) scSt.nd rfl rfl (sw_true rfl rfl rfl (by decide +kernel)) (pi_range1 (by rfl) mr (pa_cons (pe_op op_add pe_int (pe_call GT hr1 (by rfl) mT kT bT .nil pass0 (pa_cons (pv 0) (pa_cons pe_int pa_nil)))) pa_nil)) (blkOk_by (N := nSt) (sc := defScope sSt) (by decide +kernel))
            (fun _ _ _ _ _ => pg_name (i := 7) scSt.nd rfl (Or.inl rfl)) (fun _ _ _ _ _ => pts_nil) (fun _ _ _ _ _ => pe_call GP hr (by rfl) mP kP bP .nil pass0 (pa_cons (pv 0) (pa_cons (pv 1) (pa_cons (pe_dget hu (pv 1) (pv 3) (fun _ _ => rfl)) pa_nil)))))
        (pss_one (ps_ret (pe_tup (pa_cons (pv 4) (pa_cons (pv 3) (pa_cons (pe_callTy call_tuple_of (by rfl) mt boot_tuple (pa_cons (pv 5) pa_nil)) pa_nil)))))))) pss_nil)
      (pss_cons (ps_set (i := 6) scSt.nd rfl (.inl rfl) (pe_lst (pa_cons (pv 3) pa_nil)))
      (pss_cons (ps_if (pt_cmpR op_eq (pe_call GT hr1 (by rfl) mT kT bT .nil pass0 (pa_cons (pv 0) (pa_cons pe_int pa_nil))) pe_int (nomark _))
        (pss_one (ps_set (i := 6) scSt.nd rfl (.inl rfl) (pe_slice sl_list (pe_call GM hr2 (by rfl) mM kM bM .nil pass0 (pa_cons (pv 0) (pa_cons (pv 2) pa_nil))) po_none (po_some (pe_call GT hr1 (by rfl) mT kT bT .nil pass0 (pa_cons (pv 0) (pa_cons pe_int pa_nil))))))) pss_nil)
      (pss_one (ps_ret (pe_tup (pa_cons pe_str (pa_cons (pe_callTy call_tuple_of (by rfl) mt boot_tuple (pa_cons
          (pe_lc (own := [("_law_name", 8)]) (g := gName 8) (tt := tYes) rfl scSt.nd (pi_list (pv 6)) (blkOk_by (N := nSt) (sc := defScope sSt) (by decide +kernel))
            (fun _ _ _ _ _ => pg_name (i := 8) scSt.nd rfl (Or.inl rfl)) (fun _ _ _ _ _ => pts_nil)
            (fun _ _ _ _ _ => pe_op (r := rCatT K) op_catT (pe_tup (pa_cons (pv 8) pa_nil)) (pe_call GP hr (by rfl) mP kP bP .nil pass0 (pa_cons (pv 0) (pa_cons (pv 1) (pa_cons (pe_dget hu (pv 1) (pv 8) (fun _ _ => rfl)) pa_nil)))))) pa_nil)) pa_nil)))))))))), ?_⟩
    obtain ⟨c0, B0⟩ := B
    obtain ⟨ob, hob⟩ := Bag.at_b (BagAt.bag B0)
    refine ⟨_, rfl, a, kinV ks, ks.map (·.1), rfl, .inl ha, kin_keys ks, by rw [List.length_map]; omega, fun ys n hperm _ nn => ?_⟩
    have s1 := same_upd (o := .lst (ys.map V.str)) nn
    have en := (upd_same : (upd H n (.lst (ys.map V.str))) n = some (.lst (ys.map V.str)))
    have nb : n ≠ b := (ne_of_none hob nn).symm
    have B1 : BagAt (upd H n (.lst (ys.map V.str))) b c0 := BagAt.same B0 s1
    generalize upd H n (.lst (ys.map V.str)) = H1 at s1 en B1 ⊢
    have yl : ys.length ≤ 20 := by rw [hperm.length_eq, List.length_map]; exact hl
    have k01 : Keep b H H1 := fun c o _ e => s1 c o e
    have ynm : ∀ z ∈ ys, NmOk z := fun z hz => by
      obtain ⟨pr, hp, rfl⟩ := List.mem_map.mp (hperm.mem_iff.mp hz)
      exact ok.nm pr hp
    have ynd : ys.Nodup := hperm.nodup_iff.mpr ok.nd
    have ykin : ∀ z ∈ ys, ∃ k, valV (kinV ks) (Sum.inr z) = some (.str k) ∧ kindS k := fun z hz => kin_get (hperm.mem_iff.mp hz) ok.kd
    have skip : ∀ H', BagAt H' b c0 → Keep b H H' → (1 : Nat) ≤ sizeLine ∧ ∀ p, H' p = none → Q (.ref p) (upd H' p (.tup [.str "skip"])) := fun H' B' k' => by
      refine ⟨by decide, fun p np => ?_⟩
      obtain ⟨B2, pb, _⟩ := BagAt.new (o := .tup [.str "skip"]) B' np
      exact q p (.tuple [.str "skip"]) _ (.tup upd_same pb (.cons (.str _) .nil)) ⟨by decide, ⟨by decide, by decide⟩, True.intro⟩ (by decide +kernel) rfl ⟨Nat.zero_le _, (fun e he => by cases he), few_skip⟩ fit_skip (BagAt.bag B2) (k'.trans (Keep.new np)) fun c hc => by rw [BagAt.uniq B0 hc]; exact B2
    refine ⟨_, rfl, Nat.zero_le _, fun e ne => ?_⟩
    have s2 := same_upd (o := .lst []) ne
    have B2 : BagAt (upd H1 e (.lst [])) b c0 := BagAt.same B1 s2
    have k02 : Keep b H (upd H1 e (.lst [])) := k01.trans fun c o _ e => s2 c o e
    refine ⟨n, e, _, rfl, rfl, SqL.of (s2 _ _ en), SqL.of upd_same, _, rfl, ?_⟩
    have en2 := s2 _ _ en
    generalize upd H1 e (.lst []) = H2 at s2 B2 k02 en2 ⊢
    rw [map_empty]
    cases hys : ys.isEmpty with
    | true => exact skip H2 B2 k02
    | false =>
      have ypos : 0 < ys.length := by
        cases ys with
        | nil => cases hys
        | cons y ys => simp
      refine iteF ⟨_, rfl, b, 8, rfl, BagAt.bag B2, by decide, by decide, fun r0 H3 h3 B3 k3 g3 => ⟨rfl, _, rfl, ite2 (fun _ => ?_) (fun _ => ?_)⟩⟩
      · exact skip H3 (g3 _ B2) (k02.trans k3)
      have B3c := g3 _ B2
      have k03 := k02.trans k3
      have en3 := k3 _ _ nb en2
      refine ⟨_, rfl, _, rfl, _, rfl, n, _, rfl, .inl (SqL.of en3), b, _, rfl, BagAt.bag B3c, by rw [List.length_map]; omega, by rw [List.length_map]; omega, fun r H4 h4 B4 k4 g4 => ?_⟩
      rw [List.length_map] at h4
      have hr4 : r < ys.length := by omega
      obtain ⟨x, hx⟩ : ∃ x, ys[r]? = some x := ⟨_, List.getElem?_eq_getElem hr4⟩
      have xm := List.mem_of_getElem? hx
      have B4c := g4 _ B3c
      have k04 := k03.trans k4
      have en4 := k4 _ _ nb en3
      refine ⟨n, _, r, .str x, rfl, rfl, SqL.of en4, atI_nat (by rw [List.getElem?_map, hx]; rfl), ?_⟩
      obtain ⟨kx, ekx, hkx⟩ := ykin x xm
      obtain ⟨xin, xkf⟩ := kin_is ekx
      have dget : ∀ {H' : Hp}, Keep b H H' → DGet H' a (.str x) (some (.str kx)) := fun {H'} k' => ekx ▸ DGet.k (k := Sum.inr x) (k' _ _ ab ha)
      dsimp only [gName]
      refine cutK (fun σ' H' => ∃ y4 y5 y6 y7 y8 : Option V, σ' = [some (.ref b), some (.ref a), some (.ref n), some (.str x), y4, y5, y6, y7, y8] ∧ BagAt H' b c0 ∧ Keep b H H' ∧ H' n = some (.lst (ys.map V.str))) ?_ (fun kk => ?_)
      rotate_left
      · refine ⟨_, rfl, _, rfl, a, _, rfl, dget k04, rfl, _, rfl, ?_⟩
        by_cases hpl : kx = "plain"
        · rw [show (!decide (V.str kx = V.str "plain")) = false from by rw [str_dec, decide_eq_true hpl]; rfl]
          exact iteF (kk _ _ ⟨_, _, _, _, _, rfl, B4c, k04, en4⟩)
        · rw [show (!decide (V.str kx = V.str "plain")) = true from by rw [str_dec, decide_eq_false hpl]; rfl]
          refine iteT ⟨_, rfl, b, 3, rfl, BagAt.bag B4c, by decide, by decide, fun r5 H5 h5 B5 k5 g5 => ⟨_, _, rfl, rfl, _, rfl, ite2 (fun _ => ?_) (fun _ => ?_)⟩⟩
          · have B5c := g5 _ B4c
            have k05 := k04.trans k5
            dsimp only [gName]
            refine cutK (fun σ' H' => ∃ (w4 : Str) (y5 y6 y7 y8 : Option V), σ' = [some (.ref b), some (.ref a), some (.ref n), some (.str x), some (.str w4), y5, y6, y7, y8] ∧ (w4 = "most" ∨ w4 = "least") ∧ wantW w4 kx = kx ∧ H' = H5) ?_ (fun kk2 => ?_)
            rotate_left
            · refine ⟨_, rfl, _, rfl, a, _, rfl, dget k05, rfl, _, rfl, ite2 (fun e => ?_) (fun e => ?_)⟩
              · have e : kx = "high" := V.str.inj (of_decide_eq_true e)
                exact kk2 _ _ ⟨_, _, _, _, _, rfl, .inl rfl, by rw [e]; decide +kernel, rfl⟩
              · have e : kx ≠ "high" := fun z => e (decide_eq_true (by rw [z]))
                exact kk2 _ _ ⟨_, _, _, _, _, rfl, .inr rfl, by rw [(hkx.resolve_left hpl).resolve_left e]; decide +kernel, rfl⟩
            rintro σ' H' ⟨w4, y5, y6, y7, y8, rfl, hw4, hwant, rfl⟩
            refine ⟨_, rfl, b, 3, rfl, B5, by decide, by decide, fun r6 H6 h6 B6 k6 g6 => ⟨_, _, rfl, rfl, 1 + (r6 : Int), rfl, by omega, by omega, fun D hD => ?_⟩⟩
            have B6c := g6 _ B5c
            have k06 := k05.trans k6
            obtain ⟨B7, Db, Dc⟩ := BagAt.new (o := .lst []) B6c hD
            refine lc_range (lo := 0) (n := (1 + (r6 : Int)).toNat) (fun i H' => BagAt H' b c0 ∧ Keep b H6 H' ∧ ∃ (ts : List V) (es : List PyData), H' D = some (.lst ts) ∧ DqAll (del H' D) b ts es ∧ es.length = i ∧ es.all pairD = true ∧ okAll es ∧ ∀ e ∈ es, (-(10 ^ 39) ≤ lastI e ∧ lastI e ≤ 10 ^ 39) ∧ PtFit ks kx (srcS e)) ⟨B7, Keep.new hD, [], [], upd_same, .nil, rfl, rfl, True.intro, fun e he => by cases he⟩ ?_ ?_
            · rintro i H' hi ⟨B', k', ts, es, e', ta, el, et, eo, ec⟩
              have kA := k06.trans k'
              refine ⟨rfl, _, rfl, _, rfl, _, rfl, _, rfl, a, _, rfl, dget kA, b, a, ks, kx, rfl, BagAt.bag B', ab, kA _ _ ab ha, ok, hl, fun p y c H9 pb ep hyy c1 c2 B9 k9 g9 => ?_⟩
              obtain ⟨hy, hfy⟩ := hyy
              have tl : ts.length = i := by rw [ta.len, el]
              refine ⟨ts, k9 _ _ Db e', small60 (by omega), (g9 _ B').put Db Dc, fun c o n e => ?_, ts ++ [.ref p], es ++ [.tuple [.str y, .int c]], upd_same, ?_, ?_, ?_, ?_, ?_⟩
              · rw [upd_ne (ne_of_none e hD)]
                exact k9 _ _ n (k' c o n e)
              · rw [del_upd]
                have subk : ∀ c o, c ≠ b → del H' D c = some o → del H9 D c = some o := fun c o n e => by
                  have nc : c ≠ D := fun z => by
                    rw [z, del_same] at e
                    cases e
                  rw [del_ne nc]
                  exact k9 c o n (del_sub c o e)
                refine DqAll.snoc ?_ (ta.mono fun c o n e => subk c o n e)
                have pD : p ≠ D := fun z => by
                  rw [z, k9 _ _ Db e'] at ep
                  cases ep
                exact .tup (xs := [.str y, .int c]) (by rw [del_ne pD]; exact ep) pb (.cons (.str _) (.cons (.int _) .nil))
              · simp [el]
              · rw [List.all_append, et]
                show (true && ((sourceD (.str y) && true) && true)) = true
                rw [src_name hy]
                rfl
              · exact okAll.snoc (d := .tuple [.str y, .int c]) ⟨by show 2 ≤ 60; decide, src_ok hy, True.intro, True.intro⟩ eo
              · intro e he
                rcases List.mem_append.mp he with h | h
                · exact ec e h
                · rw [List.mem_singleton.mp h]
                  exact ⟨⟨c1, c2⟩, hfy⟩
            · rintro H9 ⟨B9, k9, ts, es, eD, ta, el, et, eo, ec⟩
              have elb : 1 ≤ es.length ∧ es.length ≤ 4 := by omega
              refine ⟨_, rfl, _, rfl, _, rfl, D, ts, rfl, .inl ⟨SqL.of eD, fun l2 fl => ⟨by show 3 ≤ sizeLine; decide, fun p np => ?_⟩⟩⟩
              obtain ⟨B10, lb2, _⟩ := BagAt.new (o := .tup ts) B9 fl
              obtain ⟨B11, pb2, _⟩ := BagAt.new (o := .tup [.str w4, .str x, .ref l2]) B10 np
              have kC : Keep b H9 (upd H9 l2 (.tup ts)) := Keep.new fl
              have kD : Keep b (upd H9 l2 (.tup ts)) (upd (upd H9 l2 (.tup ts)) p (.tup [.str w4, .str x, .ref l2])) := Keep.new np
              have okw : okD (.str w4) := by rcases hw4 with rfl | rfl <;> exact ⟨by decide, by decide⟩
              refine q p (.tuple [.str w4, .str x, .tuple es]) _ (.tup upd_same pb2 (.cons (.str _) (.cons (.str _) (.cons (.tup (kD _ _ lb2 upd_same) lb2 (ta.mono fun c o n e => (kC.trans kD) c o n (del_sub c o e))) .nil)))) ⟨by show 3 ≤ 60; decide, okw, (ynm x xm).ok, ⟨by omega, eo⟩, True.intro⟩ ?_ rfl ⟨by show es.length ≤ 20; omega, fun e he => (ec e he).1, few3 (by omega)⟩ (fit_most ok.nm xin (by rw [xkf]; exact hwant) fun e he => by rw [xkf]; exact (ec e he).2) (BagAt.bag B11) (((k06.trans k9).trans kC).trans kD) fun c hc => by rw [BagAt.uniq B0 hc]; exact B11
              refine rest3.trans ?_
              have hp : partsD (.tuple es) = true := by
                show (true && es.all pairD) = true
                rw [et]
                rfl
              have hne : (itemsD (.tuple es)).isEmpty = false := by
                show es.isEmpty = false
                cases es with
                | nil => exact absurd elb.1 (by decide)
                | cons e es => rfl
              rw [hp, hne, decide_eq_true hw4, show nameD (.str x) = true from (ynm x xm).name]
              rfl
          · exact kk _ _ ⟨_, _, _, _, _, rfl, g5 _ B4c, k04.trans k5, k5 _ _ nb en4⟩
      rintro σ' H5 ⟨y4, y5, y6, y7, y8, rfl, B5, k5, en5⟩
      refine ⟨_, rfl, by show 1 ≤ sizeLine; decide, fun l nl => ?_⟩
      obtain ⟨B6, lb, lc⟩ := BagAt.new (o := .lst [.str x]) B5 nl
      have k6 : Keep b H (upd H5 l (.lst [.str x])) := k5.trans (Keep.new nl)
      have en6 : (upd H5 l (.lst [.str x])) n = some (.lst (ys.map V.str)) := by rw [upd_ne (ne_of_none en5 nl)]; exact en5
      have el6 := (upd_same : (upd H5 l (.lst [.str x])) l = some (.lst [.str x]))
      generalize upd H5 l (.lst [.str x]) = H6 at B6 k6 en6 el6 ⊢
      dsimp only [gName]
      refine cutK (fun σ' H' => ∃ (y4 y5 y7 y8 : Option V) (g : Addr) (zs : List Str), σ' = [some (.ref b), some (.ref a), some (.ref n), some (.str x), y4, y5, some (.ref g), y7, y8] ∧ BagAt H' b c0 ∧ Keep b H H' ∧ g ≠ b ∧ H' g = some (.lst (zs.map V.str)) ∧ zs.Nodup ∧ zs.length ≤ 20 ∧ ∀ z ∈ zs, z ∈ ys) ?_ (fun kk => ?_)
      rotate_left
      · refine ⟨_, rfl, b, 3, rfl, BagAt.bag B6, by decide, by decide, fun r7 H7 h7 B7 k7 g7 => ⟨rfl, _, rfl, ite2 (fun _ => ?_) (fun _ => ?_)⟩⟩
        · refine ⟨_, rfl, _, rfl, b, n, ys.map V.str, rfl, B7, nb, k7 _ _ nb en6, by rw [List.length_map]; omega, fun p ms H8 np mp ep perm B8 k8 g8 => ?_⟩
          refine ⟨_, rfl, b, 4, rfl, B8, by decide, by decide, fun r9 H9 h9 B9 k9 g9 => ?_⟩
          have B9c := g9 _ (g8 _ (g7 _ B6))
          have pb : p ≠ b := fun z => by
            obtain ⟨o, ho⟩ := Bag.at_b B7
            rw [z, ho] at np
            cases np
          refine ⟨_, rfl, p, ms, rfl, SqL.of (k9 _ _ pb ep), fun g ng => ?_⟩
          obtain ⟨zs, rfl, pz⟩ : ∃ zs : List Str, ms = zs.map V.str ∧ zs.Perm ys := strs_perm perm
          obtain ⟨B10, gb, _⟩ := BagAt.new (o := .lst (cutV (zs.map V.str) none (some (r9 : Int)))) B9c ng
          refine kk _ _ ⟨_, _, _, _, g, zs.take r9, rfl, B10, ((((k6.trans k7).trans k8).trans k9).trans (Keep.new ng)), gb, ?_, ?_, ?_, ?_⟩
          · rw [upd_same, cut_to, List.map_take]
          · exact (pz.nodup_iff.mpr ynd).sublist (List.take_sublist _ _)
          · have := pz.length_eq
            rw [List.length_take]
            omega
          · exact fun z hz => pz.mem_iff.mp (List.mem_of_mem_take hz)
        · exact kk _ _ ⟨_, _, _, _, l, [x], rfl, g7 _ B6, k6.trans k7, lb, k7 _ _ lb el6, by simp, by show 1 ≤ 20; decide, fun z hz => by rw [List.mem_singleton.mp hz]; exact xm⟩
      rintro σ' H7 ⟨y4, y5, y7, y8, g, zs, rfl, B7, k7, gb, eg, znd, zl, zm⟩
      refine ⟨_, rfl, g, rfl, ⟨_, SqL.of eg⟩, fun D hD => ?_⟩
      obtain ⟨B8, Db, Dc⟩ := BagAt.new (o := .lst []) B7 hD
      have gD : g ≠ D := ne_of_none eg hD
      refine lc_list (K := K) (a := g) (xs := zs.map V.str) (fun i H' => BagAt H' b c0 ∧ Keep b H7 H' ∧ ∃ (ts : List V) (es : List PyData), H' D = some (.lst ts) ∧ DqAll (del H' D) b ts es ∧ es.length = i ∧ es.all tripD = true ∧ es.map headS = zs.take i ∧ okAll es ∧ ∀ e ∈ es, (-(10 ^ 39) ≤ lastI e ∧ lastI e ≤ 10 ^ 39) ∧ kinOf ks (headS e) = true ∧ PtFit ks (kfOf ks (headS e)) (srcS e)) ⟨B8, Keep.new hD, [], [], upd_same, .nil, rfl, rfl, rfl, True.intro, fun e he => by cases he⟩ (fun i H' _ h => SqL.of (h.2.1 _ _ gb eg)) ?_ ?_
      · rintro i xv H' hxi ⟨B', k', ts, es, e', ta, el, et, eh, eo, ec⟩
        obtain ⟨z, hzi, rfl⟩ : ∃ z, zs[i]? = some z ∧ xv = V.str z := by
          rw [List.getElem?_map] at hxi
          cases e : zs[i]? with
          | none => rw [e] at hxi; cases hxi
          | some z => rw [e] at hxi; exact ⟨z, rfl, (Option.some.inj hxi).symm⟩
        have hi : i < zs.length := (List.getElem?_eq_some_iff.mp hzi).1
        have hzm := zm z (List.mem_of_getElem? hzi)
        obtain ⟨kz, ekz, _⟩ := ykin z hzm
        obtain ⟨zin, zkf⟩ := kin_is ekz
        refine ⟨rfl, _, rfl, by show 1 ≤ sizeLine; decide, fun t1 nt1 => ?_⟩
        obtain ⟨B1', t1b, _⟩ := BagAt.new (o := .tup [.str z]) B' nt1
        have k1' : Keep b H' (upd H' t1 (.tup [.str z])) := Keep.new nt1
        have kA := (k7.trans k').trans k1'
        refine ⟨_, rfl, _, rfl, _, rfl, _, rfl, a, _, rfl, ekz ▸ DGet.k (k := Sum.inr z) (kA _ _ ab ha), b, a, ks, kz, rfl, BagAt.bag B1', ab, kA _ _ ab ha, ok, hl, fun p y c H9 pb ep hyy c1 c2 B9 k9 g9 => ?_⟩
        obtain ⟨hy, hfy⟩ := hyy
        have B9c := g9 _ B1'
        refine ⟨t1, p, [.str z], [.str y, .int c], rfl, rfl, SqT.of (k9 _ _ t1b upd_same), SqT.of ep, nofun, by show 3 ≤ sizeLine; decide, nofun, fun _ t2 nt2 => ?_⟩
        obtain ⟨B10, t2b, _⟩ := BagAt.new (o := .tup ([.str z] ++ [.str y, .int c])) B9c nt2
        have k10 : Keep b H9 (upd H9 t2 (.tup ([.str z] ++ [.str y, .int c]))) := Keep.new nt2
        have kB := (k1'.trans k9).trans k10
        have tl : ts.length = i := by rw [ta.len, el]
        have ys1 : sourceD (.str y) = true := by
          rcases hy with rfl | hy
          · rfl
          · show (nameS y || _) = true
            rw [hy.name]
            rfl
        have hzn : nameD (.str z) = true := (ynm z hzm).name
        refine ⟨ts, kB _ _ Db e', small60 (by omega), B10.put Db Dc, fun c o n e => ?_, ts ++ [.ref t2], es ++ [.tuple [.str z, .str y, .int c]], upd_same, ?_, ?_, ?_, ?_, ?_, ?_⟩
        · rw [upd_ne (ne_of_none e hD)]
          exact kB _ _ n (k' c o n e)
        · rw [del_upd]
          refine DqAll.snoc (.tup (xs := [.str z, .str y, .int c]) ?_ t2b (.cons (.str _) (.cons (.str _) (.cons (.int _) .nil)))) (ta.mono fun c o n e => ?_)
          · have t2D : t2 ≠ D := (ne_of_none ((k1'.trans k9) _ _ Db e') nt2).symm
            rw [del_ne t2D]
            exact upd_same
          · have nc : c ≠ D := fun z => by
              rw [z, del_same] at e
              cases e
            rw [del_ne nc]
            exact kB c o n (del_sub c o e)
        · simp [el]
        · rw [List.all_append, et]
          show (true && ((nameD (.str z) && sourceD (.str y) && true) && true)) = true
          rw [hzn, ys1]
          rfl
        · rw [List.map_append, eh, List.take_add_one, hzi]
          rfl
        · exact okAll.snoc (d := .tuple [.str z, .str y, .int c]) ⟨by show 3 ≤ 60; decide, (ynm z hzm).ok, src_ok hy, True.intro, True.intro⟩ eo
        · intro e he
          rcases List.mem_append.mp he with h | h
          · exact ec e h
          · rw [List.mem_singleton.mp h]
            exact ⟨⟨c1, c2⟩, zin, by show PtFit ks (kfOf ks z) y; rw [zkf]; exact hfy⟩
      · rintro H9 ⟨B9, k9, ts, es, eD, ta, el, et, eh, eo, ec⟩
        rw [List.length_map] at el eh
        rw [List.take_length] at eh
        refine ⟨D, ts, rfl, .inl ⟨SqL.of eD, fun l2 fl => ⟨by show 2 ≤ sizeLine; decide, fun p np => ?_⟩⟩⟩
        obtain ⟨B10, lb2, _⟩ := BagAt.new (o := .tup ts) B9 fl
        obtain ⟨B11, pb2, _⟩ := BagAt.new (o := .tup [.str "set", .ref l2]) B10 np
        have kC : Keep b H9 (upd H9 l2 (.tup ts)) := Keep.new fl
        have kD : Keep b (upd H9 l2 (.tup ts)) (upd (upd H9 l2 (.tup ts)) p (.tup [.str "set", .ref l2])) := Keep.new np
        have hset : setsD (.tuple es) = true := by
          show (true && es.all tripD && decide (es.map headS).Nodup) = true
          rw [et, eh, decide_eq_true znd]
          rfl
        refine q p (.tuple [.str "set", .tuple es]) _ (.tup upd_same pb2 (.cons (.str _) (.cons (.tup (kD _ _ lb2 upd_same) lb2 (ta.mono fun c o n e => (kC.trans kD) c o n (del_sub c o e))) .nil))) ⟨by show 2 ≤ 60; decide, ⟨by decide, by decide⟩, ⟨by omega, eo⟩, True.intro⟩ ?_ rfl ⟨by show es.length ≤ 20; omega, fun e he => (ec e he).1, few2 (by omega)⟩ (fit_set ok.nm fun e he => (ec e he).2) (BagAt.bag B11) (((k7.trans k9).trans kC).trans kD) fun c hc => by rw [BagAt.uniq B0 hc]; exact B11
        exact rest2.trans (by rw [hset]; decide +kernel)
end
end Fv


set_option Elab.async false
set_option linter.all false
set_option maxRecDepth 100000
set_option maxHeartbeats 2000000
/-! sets of texts: the comprehension, len, sorted -/
namespace Fv
open PySem PySem.Spec PyProof.Rows L2
def txtOf (e : Int × Value) : Str := match e.2 with | .str k _ => k | _ => ""
def TxE (P : Program) (w : World) (e : Int × Value) : Prop := ∃ k tk, e.2 = Value.str k tk ∧ e.1 = (strKind P w).hash k
/-- the set of the texts L at a; its table can be walked -/
structure TxS (P : Program) (w : World) (h : Heap) (a : Addr) (L : List Str) (o : Obj) (es : Array (Int × Value)) (ep : Nat) (t : SetTable) : Prop where
  get : h.get? a = some o
  ex : o.ExactSet
  data : o.data = .set es ep t
  good : ∀ e ∈ es.toList, TxE P w e
  perm : (es.toList.map txtOf).Perm L
  nodup : L.Nodup
  few : es.size < scanBound
  fit : t.fits es.size = true
  ris : Ris t.place.toList
  led : w.params.followText "set-order" = true ∨ t.led = true
def TxtS (P : Program) (w : World) (h : Heap) (a : Addr) (L : List Str) : Prop := ∃ o es ep t, TxS P w h a L o es ep t
def insL (L : List Str) (k : Str) : List Str := if k ∈ L then L else L ++ [k]
section
variable {P : Program} {w : World}
theorem TxE.is {e : Int × Value} (g : TxE P w e) (k : Str) : (strKind P w).is k e.2 = true ↔ txtOf e = k := by
  obtain ⟨z, tk, h1, _⟩ := g
  have e2 : txtOf e = z := by
    unfold txtOf
    rw [h1]
  rw [e2, h1]
  show Value.isStrOf k (.str z tk) = true ↔ z = k
  constructor
  · intro h
    simpa [Value.isStrOf] using h
  · rintro rfl
    simp [Value.isStrOf]
theorem tx_elems {l : List (Int × Value)} (g : ∀ e ∈ l, TxE P w e) : ElemsOf (strKind P w) l := fun e he => by
  obtain ⟨k, tk, h1, h2⟩ := g e he
  exact ⟨⟨k, by rw [h1]; exact strKind_is _ _ _ _, h2⟩, by rw [h1]; rfl⟩
theorem tx_mem {l : List (Int × Value)} {L : List Str} (g : ∀ e ∈ l, TxE P w e) (p : (l.map txtOf).Perm L) (k : Str) : k ∈ L ↔ ∃ e ∈ l, (strKind P w).is k e.2 = true := by
  rw [← p.mem_iff, List.mem_map]
  exact ⟨fun ⟨e, he, q⟩ => ⟨e, he, ((g e he).is k).2 q⟩, fun ⟨e, he, q⟩ => ⟨e, he, ((g e he).is k).1 q⟩⟩
theorem TxtS.at {h h' : Heap} {a : Addr} {L : List Str} (R : TxtS P w h a L) (k : ∀ o, h.get? a = some o → h'.get? a = some o) : TxtS P w h' a L := by
  obtain ⟨o, es, ep, t, T⟩ := R
  exact ⟨o, es, ep, t, { T with get := k _ T.get }⟩
theorem TxS.size {h : Heap} {a : Addr} {L : List Str} {o : Obj} {es : Array (Int × Value)} {ep : Nat} {t : SetTable} (T : TxS P w h a L o es ep t) : es.size = L.length := by
  have := T.perm.length_eq
  rw [List.length_map, Array.length_toList] at this
  exact this
theorem TxS.stored {h : Heap} {a : Addr} {o : Obj} {es es' : Array (Int × Value)} {ep : Nat} {t t' : SetTable} {L' : List Str} (ho : h.get? a = some o) (hx : o.ExactSet) (hd : o.data = .set es ep t)
    (g : ∀ e ∈ es'.toList, TxE P w e) (p : (es'.toList.map txtOf).Perm L') (nd : L'.Nodup) (hb : es'.size < scanBound) (hf : t'.fits es'.size = true) (hr : Ris t'.place.toList) (hl : w.params.followText "set-order" = true ∨ t'.led = true) :
    TxS P w (h.update a (Obj.putSet es' t')) a L' { o with data := .set es' (ep + 1) t' } es' (ep + 1) t' :=
  ⟨(SetOf_store (knd := strKind P w) (S' := fun k => decide (k ∈ L')) ho hx hd (tx_elems g) (fun k => by rw [decide_eq_true_eq]; exact tx_mem g p k) hb hf).1, hx, rfl, g, p, nd, hb, hf, hr, hl⟩
end
section
variable {P : Program} {w : World} {A : Around} {E : Value → Shared → Prop} {s : Shared} {a : Addr} {L : List Str}
theorem tx_tail {g : Bool → Sem Unit} (hg : ∀ (b : Bool) (s₁ : Shared) (Q' : Unit → Shared → Prop), Q' () s₁ → wpAny (model P w) A (g b) Q' E s₁)
    {o : Obj} {es : Array (Int × Value)} {ep : Nat} {t : SetTable} (ho : s.heap.get? a = some o) (hx : o.ExactSet) (hd : o.data = .set es ep t)
    {fs : Array (Int × Value)} {t2 : SetTable} {L' : List Str} (gd : ∀ e ∈ fs.toList, TxE P w e) (pm : (fs.toList.map txtOf).Perm L') (nd : L'.Nodup) (hb : fs.size < scanBound) (hf : t2.fits fs.size = true) (hr : Ris t2.place.toList)
    (hl : w.params.followText "set-order" = true ∨ t2.led = true) {wasDummy : Bool} {R : Option Bool → Shared → Prop} (hR : ∀ h', Heap.SameBut a s.heap h' → TxtS P w h' a L' → R (some true) { s with heap := h' }) :
    wpAny (model P w) A (do
        storeSet a fs t2
        if (!wasDummy && t2.tooFull) = true then do
            g (relayAll t2 fs (SetTable.grown fs.size)).2.2
            storeSet a (relayAll t2 fs (SetTable.grown fs.size)).1 (relayAll t2 fs (SetTable.grown fs.size)).2.1
            pure (some true)
          else pure (some true)) R E s := by
  have T1 := TxS.stored (P := P) ho hx hd gd pm nd hb hf hr hl
  have b1 := Heap.SameBut.update s.heap a (Obj.putSet fs t2)
  refine wpAny_bind (wpAny_storeSet_of ho hd ?_ (fits_of_scanBound hb))
  split
  · have q1 := relayAll_perm t2 fs (SetTable.grown fs.size)
    have q2 := relayAll_fits t2 fs (SetTable.grown fs.size)
    have q3 := relayAll_ris t2 fs (SetTable.grown fs.size)
    have q4 := relayAll_led t2 fs (SetTable.grown fs.size)
    generalize relayAll t2 fs (SetTable.grown fs.size) = W at q1 q2 q3 q4 ⊢
    obtain ⟨gs, t3, gave⟩ := W
    have hz : gs.size = fs.size := by
      have := q1.length_eq
      rwa [Array.length_toList, Array.length_toList] at this
    have hb2 : gs.size < scanBound := by rw [hz]; exact hb
    refine wpAny_bind (hg gave _ _ (wpAny_bind (wpAny_storeSet_of T1.get T1.data ?_ (fits_of_scanBound hb2))))
    exact wpAny_pure (hR _ (b1.trans (Heap.SameBut.update _ a _)) ⟨_, _, _, _, TxS.stored T1.get T1.ex T1.data (fun e he => gd e (q1.mem_iff.mp he)) ((q1.map txtOf).trans pm) nd hb2 q2 q3 (hl.imp id fun z => Eq.trans q4 z)⟩)
  · exact wpAny_pure (hR _ b1 ⟨_, _, _, _, T1⟩)
theorem tx_hashed {k : Str} {tk : Tok} {Q : Bool → Shared → Prop} (R : TxtS P w s.heap a L) (room : L.length + 1 < scanBound) (hQ : ∀ h', Heap.SameBut a s.heap h' → TxtS P w h' a (insL L k) → Q (!decide (k ∈ L)) { s with heap := h' }) :
    wpAny (model P w) A (setAddHashed a (.str k tk) ((strKind P w).hash k)) Q E s := by
  obtain ⟨o, es, ep, t, T⟩ := R
  have el := tx_elems T.good
  have key : (strKind P w).is k (.str k tk) = true := strKind_is _ _ _ _
  have sc : (Value.str k tk).scannable = true := rfl
  have mm := tx_mem T.good T.perm k
  unfold setAddHashed setAddHashedIn
  refine wpAny_holding (wpAny_bind (wpAny_setState_of T.get T.data T.fit ?_))
  dsimp only
  rw [byScan_of sc T.few el]
  simp only [↓reduceIte]
  unfold setAddByScan
  refine wpAny_bind (wpAny_bind (wpAny_rule (wpAny_bind (wpAny_setScan_of key T.get T.data T.fit el ?_))))
  cases fi : List.findIdx? (fun e => (strKind P w).is k e.2) es.toList with
  | some j =>
    obtain ⟨hj, pj, _⟩ := List.findIdx?_eq_some_iff_getElem.mp fi
    have hk : k ∈ L := mm.2 ⟨es.toList[j], List.getElem_mem hj, pj⟩
    have q := hQ s.heap (Heap.SameBut.refl a s.heap) ⟨o, es, ep, t, by unfold insL; rw [if_pos hk]; exact T⟩
    rw [decide_eq_true hk] at q
    exact wpAny_pure (wpAny_pure q)
  | none =>
    have hk : k ∉ L := fun z => by
      obtain ⟨e, he, q⟩ := mm.1 z
      have c := List.findIdx?_eq_none_iff.mp fi e he
      rw [q] at c
      cases c
    have fin : ∀ h', Heap.SameBut a s.heap h' → TxtS P w h' a (L ++ [k]) → Q true { s with heap := h' } := fun h' sb r => by
      have q := hQ h' sb (by unfold insL; rw [if_neg hk]; exact r)
      rwa [decide_eq_false hk] at q
    have gw : ∀ (b : Bool) {s₁ : Shared} {Q' : Unit → Shared → Prop}, Q' () s₁ → wpAny (model P w) A (match b with | true => rule "set.scan.the-table-gave-way" | false => pure ()) Q' E s₁ := fun b s₁ Q' q => by
      cases b
      · exact wpAny_pure q
      · exact wpAny_rule q
    have q1 := layNew_perm t es ((strKind P w).hash k) (.str k tk)
    have q2 := layNew_fits t es ((strKind P w).hash k) (.str k tk)
    have q3 := layNew_ris t es ((strKind P w).hash k) (.str k tk) T.ris
    have q4 := layNew_led t es ((strKind P w).hash k) (.str k tk)
    dsimp only
    generalize layNew t es ((strKind P w).hash k) (.str k tk) = W at q1 q2 q3 q4 ⊢
    obtain ⟨fs, t1, wd, gave⟩ := W
    dsimp only at q1 q2 q3 q4 ⊢
    rw [Array.toList_push] at q1
    have gd : ∀ e ∈ fs.toList, TxE P w e := fun e he => by
      rcases List.mem_append.mp (q1.mem_iff.mp he) with z | z
      · exact T.good e z
      · rw [List.mem_singleton.mp z]
        exact ⟨k, tk, rfl, rfl⟩
    have pm : (fs.toList.map txtOf).Perm (L ++ [k]) := by
      have := q1.map txtOf
      rw [List.map_append] at this
      exact this.trans (T.perm.append_right _)
    have nd : (L ++ [k]).Nodup := by
      rw [List.nodup_append]
      exact ⟨T.nodup, by simp, fun x hx y hy e => hk (by rw [List.mem_singleton.mp hy] at e; rw [← e]; exact hx)⟩
    have hz : fs.size = L.length + 1 := by
      have := pm.length_eq
      rw [List.length_map, Array.length_toList, List.length_append] at this
      exact this
    have hb : fs.size < scanBound := by rw [hz]; exact room
    have ld : w.params.followText "set-order" = true ∨ t1.led = true := T.led.imp id fun z => Eq.trans q4 z
    refine wpAny_bind (gw _ ?_)
    split
    · refine wpAny_bind ?_
      rw [hashByValue_scannable 8 sc]
      refine wpAny_pure (tx_tail (fun b s₁ Q' q => gw b q) T.get T.ex T.data gd pm nd hb ?_ ?_ ?_ fun h' sb r => wpAny_pure (fin h' sb r))
      · first | (split <;> first | exact q2 | exact SetTable.fits_plain_off q2) | exact q2
      · first | (split <;> exact q3) | exact q3
      · first | (split <;> exact ld) | exact ld
    · refine wpAny_bind (wpAny_pure ?_)
      simp only [↓reduceIte]
      exact tx_tail (fun b s₁ Q' q => gw b q) T.get T.ex T.data gd pm nd hb q2 q3 ld fun h' sb r => wpAny_pure (fin h' sb r)
theorem TxtS.setOf (R : TxtS P w s.heap a L) : s.heap.SetOf (strKind P w) a (fun k => decide (k ∈ L)) L.length := by
  obtain ⟨o, es, ep, t, T⟩ := R
  exact ⟨o, es, ep, t, T.get, T.ex, T.data, tx_elems T.good, fun k => by rw [decide_eq_true_eq]; exact tx_mem T.good T.perm k, T.few, T.fit, T.size⟩
/-- found.add(text) -/
theorem tx_add {k : Str} {tk : Tok} {Q : Value → Shared → Prop} (R : TxtS P w s.heap a L) (room : L.length + 1 < scanBound)
    (hQ : ∀ h' tk', Heap.SameBut a s.heap h' → TxtS P w h' a (insL L k) → Q .none { s with heap := h', toks := tk' }) :
    wpAny (model P w) A (call (.builtin "set.add") [.ref a, .str k tk]) Q E s := by
  refine wpAny_call_entry F.slot_set_add R.setOf.typeIs F.entry_set_add ?_ (F.args_set_add_2 _ _)
  unfold Builtin.«set.add» Builtin.Frozenset.oneOther
  simp only [List.isEmpty_nil, bind_assoc]
  unfold Builtin.Frozenset.addrOf setAdd
  refine wpAny_bind (wpAny_pure ?_)
  try dsimp only
  refine wpAny_bind (wpAny_pure ?_)
  try dsimp only
  refine wpAny_bind (wpAny_holding (wpAny_bind ((strKind P w).pyHash (strKind_is _ _ k tk) (tx_hashed (s := { s with toks := s.toks + 1 }) R room fun h' sb r => ?_))))
  show wpAny _ _ (ret Value.none) _ _ _
  exact wpAny_pure ⟨_, rfl, hQ h' _ sb r⟩
theorem tx_fresh {h : Heap} : TxtS P w (h.push { cls := .type "set", dict := none, data := .set #[] 0 (.fresh 0 0 (!w.params.followText "set-order")) }) h.objs.size [] := by
  refine ⟨_, #[], 0, _, Heap.get?_push_size _ rfl, ⟨rfl, rfl, rfl⟩, rfl, fun e he => by simp at he, by simp, List.nodup_nil, by decide, rfl, List.Pairwise.nil, ?_⟩
  show _ ∨ (!w.params.followText "set-order") = true
  cases w.params.followText "set-order"
  · exact .inr rfl
  · exact .inl rfl
end
end Fv


set_option Elab.async false
set_option linter.all false
set_option maxRecDepth 100000
set_option maxHeartbeats 2000000
/-! sets of texts as tracked things; the comprehension; len and sorted of one; & of two empty ones -/
namespace Fv
open PySem PySem.Spec PyProof.Rows L2
def TxtO (P : Program) (w : World) (a : Addr) (L : List Str) : HO := .ext fun h => TxtS P w h a L
theorem txtO_new {P : Program} {w : World} {H : Hp} {h : Heap} {a : Addr} {L : List Str} (R : TxtS P w h a L) : ObjOk P w H h a (TxtO P w a L) :=
  ⟨R, let ⟨o, _, _, _, T⟩ := R; ⟨o, T.get⟩, fun _ _ p k => TxtS.at p k⟩
section
variable {X : Cx}
theorem txtO_get {pins : List (Addr × Obj)} {σ : L2.St} {H : Hp} {s : Shared} {a : Addr} {L : List Str} (I : Inv X pins σ H s) (ha : H a = some (TxtO X.prog X.w a L)) : TxtS X.prog X.w s.heap a L := (I.hok a _ ha).1
theorem tx_addI {pins : List (Addr × Obj)} {σ : L2.St} {H : Hp} {s : Shared} {E : Value → Shared → Prop} {D : Addr} {L : List Str} {k : Str} {tk : Tok} {Q : Value → Shared → Prop} (I : Inv X pins σ H s) (hD : H D = some (TxtO X.prog X.w D L)) (room : L.length + 1 < scanBound)
    (h : ∀ s', Inv X pins σ (upd H D (TxtO X.prog X.w D (insL L k))) s' → Q .none s') : wpAny (model X.prog X.w) X.A (call (.builtin "set.add") [.ref D, .str k tk]) Q E s := by
  refine tx_add (txtO_get I hD) room fun h' tk' sb new => ?_
  exact h _ (I.write (e := D) (t' := tk') (by rw [hD]; trivial) (.inl rfl) (fun b u hb hu => (sb.2 b hb).trans hu) (let ⟨o, _, _, _, T⟩ := new; ⟨o, T.get⟩) (txtO_new new))
/-- {elt for target in iter if ..}, elt a text: D the new set -/
def tScX (P : Program) (w : World) (wi : TI) (g : TG) (tt : TT) (te : TE) (vs : List Nat) : TE := fun σ H Q => wi σ H fun J H1 => ∀ D, H1 D = none → ∃ W : Nat → Nat → Hp → Prop, (∃ m, W 0 m (upd H1 D (TxtO P w D []))) ∧ ∀ i m H, W i m H →
  (J.stop i H ∧ Q (.ref D) H) ∨ (J.go i H ∧ ∃ Nx : Hp → Prop, (∀ H', Nx H' → ∃ m', m' < m ∧ W (i + 1) m' H') ∧ ∀ x H', J.yld i H x H' → g x (wipe σ vs) H' fun σ2 H2 => wipe σ2 vs = wipe σ vs ∧ tt σ2 H2 fun b H3 =>
    if b = true then te σ2 H3 fun y H4 => ∃ (z : Str) (L : List Str), y = .str z ∧ H4 D = some (TxtO P w D L) ∧ L.length + 1 < scanBound ∧ Nx (upd H4 D (TxtO P w D (insL L z))) else Nx H3)
theorem pe_scX {elt tg iter : Expr} {ifs : List Expr} {scope : Scope} {own : List (PySem.Str × Nat)} {pos : Pos} {wi : TI} {g : TG} {tt : TT} {te : TE} (hc : X.calm = true) (hN : X.N.Nodup) (hi : PI X tg iter wi) (ok : BlkOk X.N X.env.scope scope own)
    (hg : ∀ (s : Shared) (H : Hp) (C : Addr) (cl : List (PySem.Str × Addr)) (fp : List Addr), PG (X.blk s H scope (compEnvC scope cl C X.env) fp) tg g) (ht : ∀ (s : Shared) (H : Hp) (C : Addr) (cl : List (PySem.Str × Addr)) (fp : List Addr), PTs (X.blk s H scope (compEnvC scope cl C X.env) fp) ifs tt)
    (he : ∀ (s : Shared) (H : Hp) (C : Addr) (cl : List (PySem.Str × Addr)) (fp : List Addr), PE (X.blk s H scope (compEnvC scope cl C X.env) fp) elt te) (hs : ∀ x, foldedSetIterable iter X.env x = pure x := by intro _; rfl) :
    PE X (.SetComp elt [⟨tg, iter, ifs, 0⟩] scope pos) (tScX X.prog X.w wi g tt te (own.map (·.2))) := by
  refine ⟨fun pins s σ H Q I h => ?_⟩
  rw [PpSet.eval_SetComp]
  have free : ∀ y ∈ scope.names, y.2 = .free → ∃ c, X.env.cells.lookup y.1 = some c := fun y hy e => (ok.free y hy e).elim (fun k => I.ok.has _ (.inl k)) fun k => I.ok.has _ (.inr k)
  refine wpAny_comprehension_free rfl hs (closure_ok free) ok.kind (fun y hy e => by rw [ok.uniq y hy, e]) (thn (hi.run pins s σ H _ I h) fun xv s1 hx => thn hx fun itv s2 ⟨it, fp, tn, J, H2, e2, I2, T, st2, f2, q⟩ => ?_)
  subst e2
  refine PpSet.newSet_ok (newEnv_comp ?_)
  have nD : H2 s2.heap.objs.size = none := I2.hok.fresh (Nat.le_refl _)
  obtain ⟨W, ⟨m0, w0⟩, turn⟩ := q _ nD
  have I3 : Inv X pins σ (upd H2 s2.heap.objs.size (TxtO X.prog X.w s2.heap.objs.size [])) { s2 with heap := s2.heap.push { cls := .type "set", dict := none, data := .set #[] 0 (.fresh 0 0 (!X.w.params.followText "set-order")) } } :=
    I2.laid (t' := s2.toks) (fun b o e => Heap.get?_push_of_some _ e) (Nat.le_refl _) (txtO_new tx_fresh)
  have szf : ∀ b ∈ fp, b < s2.heap.objs.size := fun b hb => let ⟨_, e, _⟩ := T.obj _ _ st2 b hb; Heap.lt_size e
  obtain ⟨D, eD⟩ : ∃ D, D = s2.heap.objs.size := ⟨_, rfl⟩
  rw [← eD] at nD w0 turn I3 szf ⊢
  have k3 : ∀ b o, s2.heap.get? b = some o → (s2.heap.push { cls := .type "set", dict := none, data := .set #[] 0 (.fresh 0 0 (!X.w.params.followText "set-order")) }).get? b = some o := fun b o e => Heap.get?_push_of_some _ e
  have z3 : (s2.heap.push { cls := .type "set", dict := none, data := .set #[] 0 (.fresh 0 0 (!X.w.params.followText "set-order")) }).objs.size = D + 1 := by rw [Heap.size_push, eD]
  generalize e3 : ({ s2 with heap := s2.heap.push { cls := .type "set", dict := none, data := .set #[] 0 (.fresh 0 0 (!X.w.params.followText "set-order")) } } : Shared) = s3 at I3 ⊢
  have h3 : s3.heap = s2.heap.push { cls := .type "set", dict := none, data := .set #[] 0 (.fresh 0 0 (!X.w.params.followText "set-order")) } := by rw [← e3]
  rw [← h3] at k3 z3
  obtain ⟨H3, eH⟩ : ∃ H3, H3 = upd H2 D (TxtO X.prog X.w D []) := ⟨_, rfl⟩
  have fps : ∀ b ∈ fp, FpOk X pins H3 b ∧ b < s3.heap.objs.size := fun b hb => by
    refine ⟨⟨?_, (f2 b hb).2⟩, by rw [z3]; exact Nat.lt_succ_of_lt (szf b hb)⟩
    rw [eH, upd_ne (Nat.ne_of_lt (szf b hb))]
    exact (f2 b hb).1
  rw [← eH] at w0 I3
  have b4 := block_start I3 ok hN fps
  have st3 : tn 0 s3.heap := T.keep _ _ _ st2 fun b _ o e => k3 b o e
  show codeAny _ _ (.compStart (.SetComp elt [⟨tg, iter, ifs, 0⟩] scope pos) 0 (.ref it) (.ref D) (compEnvC scope (cellsFrom (s3.heap.objs.size + 1) scope.names (cloFrom X.env.cells scope.names [])) s3.heap.objs.size X.env)) (compPost (model X.prog X.w) X.A X.xe none _ (.ref D) s3.heap.objs.size) { s3 with heap := pushCells (s3.heap.push { cls := .type "dict", data := .dict #[] }) scope.names }
  have G1 := hg s3 H3 s3.heap.objs.size (cellsFrom (s3.heap.objs.size + 1) scope.names (cloFrom X.env.cells scope.names [])) fp
  have G2 := ht s3 H3 s3.heap.objs.size (cellsFrom (s3.heap.objs.size + 1) scope.names (cloFrom X.env.cells scope.names [])) fp
  have G3 := he s3 H3 s3.heap.objs.size (cellsFrom (s3.heap.objs.size + 1) scope.names (cloFrom X.env.cells scope.names [])) fp
  generalize ece : compEnvC scope (cellsFrom (s3.heap.objs.size + 1) scope.names (cloFrom X.env.cells scope.names [])) s3.heap.objs.size X.env = ce at b4 G1 G2 G3 ⊢
  have lc : ce.locals = s3.heap.objs.size := by rw [← ece]; rfl
  generalize e4 : ({ s3 with heap := pushCells (s3.heap.push { cls := .type "dict", data := .dict #[] }) scope.names } : Shared) = s4 at b4 ⊢
  have st4 : tn 0 s4.heap := T.keep _ _ _ st3 fun b _ o e => by rw [← e4]; exact pushCells_keeps _ _ _ _ (Heap.get?_push_of_some _ e)
  have still : ∀ {σ' : L2.St} {H' : Hp} {s' : Shared}, Inv (X.blk s3 H3 scope ce fp) [] σ' H' s' → (∀ b ∈ fp, H' b = none) → ∀ b ∈ fp, FpOk (X.blk s3 H3 scope ce fp) [] H' b := fun {σ' H' s'} J hn b hb =>
    ⟨hn b hb, (J.ok.exf b hb).1, J.ok.exfs b hb, Or.inl hb, fun x c e => (J.ok.exf b hb).2 x c e, fun p hp => by simp at hp⟩
  have walk : codeAny (model X.prog X.w) X.A (.compLoop (.SetComp elt [⟨tg, iter, ifs, 0⟩] scope pos) 0 (.ref it) (.ref D) ce) (compPost (model X.prog X.w) X.A X.xe none (EP X pins σ Q) (.ref D) s3.heap.objs.size) s4 := by
    refine PpSet.compLoopS_any (fun n s' => ∃ (i : Nat) (H' : Hp), Inv (X.blk s3 H3 scope ce fp) [] (wipe σ (own.map (·.2))) H' s' ∧ tn i s'.heap ∧ (∀ b ∈ fp, H' b = none) ∧ W i n H') (fun n s5 ⟨i, H5, I5, st5, n5, w5⟩ => ?_) m0 ⟨0, H3, b4, st4, fun b hb => (fps b hb).1.1, w0⟩
    rcases turn i n H5 w5 with ⟨stop, qq⟩ | ⟨go, Nx, hNx, step⟩
    · refine thnF (T.done (X.blk s3 H3 scope ce fp) rfl rfl rfl hc i [] s5 _ H5 (fun _ _ => False) I5 (still I5 n5) st5 stop) fun r s6 ⟨hr, I6⟩ => ?_
      subst hr
      have J := I3.call' (ch := fp) I6.os I6.base I6.hok I6.bare fun b hb => let f := (fps b hb).1.2; ⟨f.2.2.1, f.1, f.2.2.2.1, f.2.2.2.2⟩
      have nC : H5 s3.heap.objs.size = none := lc ▸ I6.free
      obtain ⟨m, hn, _⟩ := I6.loc
      have hn' : s6.heap.Ns s3.heap.objs.size m := lc ▸ (show s6.heap.Ns ce.locals m from hn)
      obtain ⟨f0, f1, f2, f3, f4, f5⟩ := I3.fpOk (Nat.le_refl _) nC
      exact ⟨m, hn', fun h'' sb => ⟨.ref D, H5, J.turned (t' := s6.toks) (fun b o hb e => (sb.2 b hb).trans e) f0 f1 f3 f4 f5, rfl, qq⟩⟩
    · refine thnF (T.item (X.blk s3 H3 scope ce fp) rfl rfl rfl hc i [] s5 _ H5 (fun _ _ => False) I5 (still I5 n5) st5 go) fun r s6 ⟨u, hr, h6⟩ => ?_
      subst hr
      refine thnF h6 fun _ s7 ⟨x, H7, I7, r7, y7, st7, n7⟩ => ?_
      have P7 := I7.pinned (still I7 n7) (T.obj _ _ st7)
      refine thnF (G1.run _ s7 _ H7 x u _ P7 r7 (step x H7 y7)) fun _ s8 ⟨σ8, H8, I8, hw8, q8⟩ => thnF (G2.run _ s8 σ8 H8 _ I8 q8) fun b s9 ⟨H9, I9, q9⟩ => ?_
      have fin : ∀ {s' : Shared} {H' : Hp}, Inv (X.blk s3 H3 scope ce fp) ([] ++ pinsAt fp s7.heap) σ8 H' s' → Nx H' → ∃ m, m < n ∧ ∃ (i : Nat) (H' : Hp), Inv (X.blk s3 H3 scope ce fp) [] (wipe σ (own.map (·.2))) H' s' ∧ tn i s'.heap ∧ (∀ b ∈ fp, H' b = none) ∧ W i m H' := fun {s' H'} J nx => by
        obtain ⟨m', hm, w'⟩ := hNx H' nx
        have kept : ∀ b ∈ fp, ∀ o, s7.heap.get? b = some o → s'.heap.get? b = some o ∧ H' b = none := fun b hb o e => by
          have z := J.pin (b, o) (List.mem_append_right _ (List.mem_append_right _ (mem_pinsAt hb e)))
          exact ⟨z.1, z.2.1⟩
        refine ⟨m', hm, i + 1, H', (J.unpinned (pins := [])).weak (by rw [← hw8, wipe_length]) (fun j v e => (wipe_some (hw8 ▸ e)).1), T.keep _ _ _ st7 fun b hb o e => (kept b hb o e).1, fun b hb => ?_, w'⟩
        obtain ⟨o, e, _⟩ := T.obj _ _ st7 b hb
        exact (kept b hb o e).2
      cases b with
      | false =>
        rw [if_neg Bool.false_ne_true] at q9 ⊢
        exact fin I9 q9
      | true =>
        rw [if_pos rfl] at q9 ⊢
        refine thnF (G3.run _ s9 σ8 H9 _ I9 q9) fun z s10 ⟨yv, H10, I10, r10, zt, L, ey, hD10, room, nx⟩ => ?_
        subst ey
        obtain ⟨tk, rfl⟩ := r10
        exact tx_addI (X := X.blk s3 H3 scope ce fp) I10 hD10 room fun s11 I11 => fin I11 nx
  exact PpSet.codeAny_compStart_set walk (T.self X.A 0 _ _ _ st4 walk)
/-- over anything that is walked -/
theorem sc_it {P : Program} {w : World} {J : It} {n : Nat} {G : Hp → Prop} {Y : Nat → Hp → V → Hp → Prop} (wk : Walk J n G Y) {g : TG} {tt : TT} {te : TE} {vs : List Nat} {σ : L2.St} {H1 : Hp} {D : Addr} {Qd : Hp → Prop} (Pv : Nat → Hp → Prop) (h0 : Pv 0 (upd H1 D (TxtO P w D []))) (hG : ∀ i H, i ≤ n → Pv i H → G H)
    (hs : ∀ i x H H', i < n → Pv i H → Y i H x H' → g x (wipe σ vs) H' fun σ2 H2 => wipe σ2 vs = wipe σ vs ∧ tt σ2 H2 fun b H3 =>
      if b = true then te σ2 H3 fun y H4 => ∃ (z : Str) (L : List Str), y = .str z ∧ H4 D = some (TxtO P w D L) ∧ L.length + 1 < scanBound ∧ Pv (i + 1) (upd H4 D (TxtO P w D (insL L z))) else Pv (i + 1) H3) (hd : ∀ H, Pv n H → Qd H) :
    ∃ W : Nat → Nat → Hp → Prop, (∃ m, W 0 m (upd H1 D (TxtO P w D []))) ∧ ∀ i m H, W i m H →
      (J.stop i H ∧ Qd H) ∨ (J.go i H ∧ ∃ Nx : Hp → Prop, (∀ H', Nx H' → ∃ m', m' < m ∧ W (i + 1) m' H') ∧ ∀ x H', J.yld i H x H' → g x (wipe σ vs) H' fun σ2 H2 => wipe σ2 vs = wipe σ vs ∧ tt σ2 H2 fun b H3 =>
        if b = true then te σ2 H3 fun y H4 => ∃ (z : Str) (L : List Str), y = .str z ∧ H4 D = some (TxtO P w D L) ∧ L.length + 1 < scanBound ∧ Nx (upd H4 D (TxtO P w D (insL L z))) else Nx H3) := by
  refine ⟨fun i m H => m + i = n ∧ Pv i H, ⟨n, rfl, h0⟩, fun i m H ⟨hm, p⟩ => ?_⟩
  rcases Nat.lt_or_ge i n with hlt | hge
  · exact .inr ⟨wk.goes i H hlt (hG i H (Nat.le_of_lt hlt) p), Pv (i + 1), fun H' p' => ⟨n - (i + 1), by omega, by omega, p'⟩, fun x H' y => hs i x H H' hlt p (wk.yields i H x H' hlt (hG i H (Nat.le_of_lt hlt) p) y)⟩
  · obtain rfl : i = n := by omega
    exact .inl ⟨wk.stops H (hG i H hge p), hd H p⟩
/-- len of such a set -/
def rLenX (P : Program) (w : World) : List V → Hp → VK → Prop := fun xs H Q => ∃ (a : Addr) (L : List Str), xs = [.ref a] ∧ H a = some (TxtO P w a L) ∧ Q (.int L.length) H
theorem call_lenX : CallR X (.builtin "len") (rLenX X.prog X.w) := by
  intro pins s σ H xs us Q I r h
  obtain ⟨a, L, rfl, ha, q⟩ := h
  rw [Vals.ref1 r]
  obtain ⟨o, es, ep, t, T⟩ := txtO_get I ha
  exact call_len_set T.get T.ex T.data T.fit (by
    have z1 := T.few
    have z2 : scanBound = 4096 := rfl
    omega) ⟨.int L.length, H, I.tok _, ⟨_, by rw [T.size]⟩, q⟩
theorem txt_strs : ∀ {vs : List Value}, (∀ v ∈ vs, ∃ k tk, v = Value.str k tk) → StrsAre vs (vs.map fun v => txtOf (0, v))
  | [], _ => .nil
  | v :: vs, h => by
    obtain ⟨k, tk, rfl⟩ := h v List.mem_cons_self
    exact .cons k tk (txt_strs fun u hu => h u (List.mem_cons_of_mem _ hu))
/-- sorted of one with fewer than 64 members -/
def rSortX (P : Program) (w : World) : List V → Hp → VK → Prop := fun xs H Q => ∃ (a : Addr) (L : List Str), xs = [.ref a] ∧ H a = some (TxtO P w a L) ∧ L.length < 64 ∧ ∀ ys p, ys.Perm L → sortedS ys = true → H p = none → p ≠ sysModules → Q (.ref p) (upd H p (.lst (ys.map V.str)))
theorem call_sortX (hc : X.calm = true) : CallR X (.builtin "sorted") (rSortX X.prog X.w) := by
  intro pins s σ H xs us Q I r h
  obtain ⟨a, L, rfl, ha, h64, q⟩ := h
  rw [Vals.ref1 r]
  obtain ⟨o, es, ep, t, T⟩ := txtO_get I ha
  refine Calls.call_function_entry PyProof.Rows.kind_sorted PyProof.Rows.plain_sorted PyProof.Rows.entry_sorted (PyProof.Rows.args_sorted1 _) ?_
  unfold Builtin.«sorted»
  refine wpAny_bind (m := checkCount "sorted" 1 1 _) (wpAny_pure (wpAny_bind (collect_set (A := X.A.in1) (I.ok.hd hc) ⟨o, T.get, T.ex.1, T.data⟩ T.fit T.few T.ris T.led fun s1 vs k1 z1 g1 o1 pm => ?_)))
  have vl : vs.length = L.length := by rw [pm.length_eq, List.length_map, Array.length_toList, T.size]
  have hS : StrsAre vs (vs.map fun v => txtOf (0, v)) := txt_strs fun v hv => by
    obtain ⟨e, he, q⟩ := List.mem_map.mp (pm.mem_iff.mp hv)
    obtain ⟨k, tk, h1, _⟩ := T.good e he
    exact ⟨k, tk, by rw [← q]; exact h1⟩
  have pL : (vs.map fun v => txtOf (0, v)).Perm L := by
    have := pm.map fun v => txtOf (0, v)
    rw [List.map_map] at this
    exact this.trans T.perm
  have I1 : Inv X pins σ H s1 := I.call' (ch := []) o1 (Un.kept k1) (I.hok.kept k1) (by rw [g1]; exact I.bare) (fun _ z => nomatch z)
  refine wpAny_bind (wpAny_newList ?_ (by rw [vl, sizeLine_eq]; omega))
  have oL : (s1.heap.push (seqObj "list" vs.toArray 0)).get? s1.heap.objs.size = some (seqObj "list" vs.toArray 0) := Heap.get?_push_size _ rfl
  refine wpAny_bind (wpAny_holding (wpAny_call_entry PyProof.Rows.slot_list_sort ⟨_, oL, rfl⟩ PyProof.Rows.entry_list_sort
    (list_sort_treeK strKind_oneLt (s := { s1 with heap := s1.heap.push (seqObj "list" vs.toArray 0) }) oL hS.keysOf (fun v₁ v₂ rest e => keyKind_strs (by rw [← e]; exact hS)) (by rw [vl]; exact h64) fun st' hp hs => ⟨_, rfl, ?_⟩)
    (PyProof.Rows.args_list_sort _)))
  obtain ⟨ys, a1, a2, a3⟩ := sorted_out_str hS hp hs
  obtain ⟨e', he'⟩ := PyProof.Rows.sortedHeap_at (vs := vs) (out := (arrOf st').map (·.2)) oL
  have yl : (ys.map V.str).length ≤ sizeLine := by
    rw [List.length_map, (a2.trans pL).length_eq, sizeLine_eq]
    omega
  refine wpAny_pure ⟨_, rfl, .ref s1.heap.objs.size, upd H s1.heap.objs.size (.lst (ys.map V.str)), I1.laid (t' := s1.toks) (fun b u e => ?_) (Nat.le_refl _)
    (show ObjOk X.prog X.w _ _ _ (.lst (ys.map V.str)) from ⟨yl, ((arrOf st').map (·.2)).toList, e', vals_of_strs a1, by rw [Array.toArray_toList]; exact he'⟩), rfl, q ys _ (a2.trans pL) a3 (I1.hok.fresh (Nat.le_refl _)) (Nat.ne_of_gt I1.big)⟩
  have hb : b < s1.heap.objs.size := Heap.lt_size e
  rw [PyProof.Rows.sortedHeap_old (Nat.ne_of_lt hb) (by rw [size_push']; exact Nat.lt_succ_of_lt hb)]
  exact Heap.get?_push_of_some _ e
end
end Fv


set_option Elab.async false
set_option linter.all false
set_option maxRecDepth 100000
set_option maxHeartbeats 2000000
namespace Fv
open PySem PySem.Spec PyProof.Rows L2
/-! ### & of two empty ones -/
theorem entry_set_meet : entryFor table "set.__and__" = some Builtin.«frozenset.__and__» := entryFor_alias (id' := "frozenset.__and__") (by kernel_rfl) rfl (by decide +kernel) (by kernel_rfl)
section
variable {P : Program} {w : World} {A : Around} {E : Value → Shared → Prop} {s : Shared} {a : Addr}
theorem TxS.none {h : Heap} {o : Obj} {es : Array (Int × Value)} {ep : Nat} {t : SetTable} (T : TxS P w h a [] o es ep t) : es = #[] := Array.eq_empty_of_size_eq_zero T.size
theorem walk_none {o : Obj} {es : Array (Int × Value)} {ep : Nat} {t : SetTable} {Q : Array (Int × Value) → Shared → Prop} (T : TxS P w s.heap a [] o es ep t) (q : Q #[] s) : wpAny (model P w) A (setWalk a) Q E s := by
  obtain rfl := T.none
  unfold setWalk
  refine wpAny_bind (wpAny_setState_of T.get T.data T.fit ?_)
  dsimp only
  refine wpAny_bind (wpAny_byText ?_)
  cases w.params.followText "set-order" with
  | true =>
    refine wp_if_pos rfl (wpAny_bind (wpAny_askSetting (wpAny_pure ?_)))
    have e : pickOrder (w.params.setOrder a ep) (#[] : Array (Int × Value)) = #[] := by
      have := (pick_perm (w.params.setOrder a ep) (#[] : Array (Int × Value))).length_eq
      exact Array.eq_empty_of_size_eq_zero (by simpa using this)
    show Q (pickOrder (w.params.setOrder a ep) (#[] : Array (Int × Value))) s
    rw [e]
    exact q
  | false =>
    refine wp_if_neg Bool.false_ne_true ?_
    try refine wpAny_bind (wpAny_pure ?_)
    refine wp_if_neg (by show ¬ ((!t.plain && decide ((#[] : Array (Int × Value)).size > 1)) = true); simp) ?_
    try refine wpAny_bind (wpAny_pure ?_)
    refine wpAny_bind (wpAny_of_eq (a := ()) (by show (if (!t.led && !(#[] : Array (Int × Value)).isEmpty) = true then unsupported _ else pure ()) = pure (); simp) ?_)
    exact wpAny_pure q
theorem unseen_none {o : Obj} {es : Array (Int × Value)} {ep : Nat} {t : SetTable} {others : List Addr} {fl : Option Addr} {Q : Array (Int × Value) → Shared → Prop} (T : TxS P w s.heap a [] o es ep t) (q : Q #[] s) : wpAny (model P w) A (setWalkUnseen a others fl) Q E s := by
  obtain rfl := T.none
  unfold setWalkUnseen
  refine wpAny_bind (wpAny_setState_of T.get T.data T.fit ?_)
  dsimp only
  refine wpAny_bind (wpAny_byText ?_)
  exact wp_if_pos (by simp) (walk_none T q)
theorem any_set {a : Addr} {Q : Bool → Shared → Prop} (hT : s.TypeIs (.ref a) "set") (q : Q true s) : wpAny (model P w) A (Builtin.Frozenset.isAnySet (.ref a)) Q E s := by
  unfold Builtin.Frozenset.isAnySet orM
  refine wpAny_bind (wpAny_isInstance (b := true) hT sub_set_self ?_)
  exact wpAny_pure q
theorem tx_meet {a b : Addr} {Q : Value → Shared → Prop} (hne : a ≠ b) (Ra : TxtS P w s.heap a []) (Rb : TxtS P w s.heap b [])
    (hQ : ∀ h', TxtS P w h' s.heap.objs.size [] → (∀ c u, s.heap.get? c = some u → h'.get? c = some u) → Q (.ref s.heap.objs.size) { s with heap := h' }) :
    wpAny (model P w) A (binaryOp .BitAnd (.ref a) (.ref b)) Q E s := by
  obtain ⟨oa, ea, pa, ta, Ta⟩ := Ra
  obtain ⟨ob, eb, pb, tb, Tb⟩ := Rb
  have ya : s.TypeIs (.ref a) "set" := ⟨oa, Ta.get, Ta.ex.1⟩
  have yb : s.TypeIs (.ref b) "set" := ⟨ob, Tb.get, Tb.ex.1⟩
  refine wpAny_binaryOp_same ya yb F.fills_set_and F.slot_set_and (wpAny_call_entry F.slot_set_and ya entry_set_meet ?_ (F.args_set_and_2 _ _))
  show wpAny (model P w) A.in1 (do
    let (self, other) ← Builtin.Frozenset.slot1 "__and__" _
    let (l, r) := if false then (other, self) else (self, other)
    if !(← (Builtin.Frozenset.isAnySet l <&&> Builtin.Frozenset.isAnySet r)) then rule _; return ← ret .notImplemented
    ret (← Builtin.Frozenset.intersection _ (← Builtin.Frozenset.addrOf l) r)) _ _ s
  refine wpAny_bind (m := Builtin.Frozenset.slot1 _ _) (wpAny_of_eq (a := (Value.ref a, Value.ref b)) (by rfl) ?_)
  dsimp only
  refine wpAny_bind (wpAny_bind (any_set ya (any_set yb ?_)))
  refine wp_if_neg (by simp) ?_
  try refine wpAny_bind (wpAny_pure ?_)
  show wpAny (model P w) A.in1 (Builtin.Frozenset.intersection _ a (.ref b) >>= fun v => ret v) _ _ s
  refine wpAny_bind ?_
  unfold Builtin.Frozenset.intersection
  refine wp_if_neg (by simp [Ne.symm hne]) ?_
  try refine wpAny_bind (wpAny_pure ?_)
  unfold Builtin.Frozenset.baseOf
  refine wpAny_bind (wpAny_bind (wpAny_isInstance (b := true) ya sub_set_self (wpAny_pure ?_)))
  refine wpAny_bind (PpSet.newSet_ok ?_)
  have nw := tx_fresh (P := P) (w := w) (h := s.heap)
  have kp : ∀ c u, s.heap.get? c = some u → (s.heap.push { cls := .type "set", dict := none, data := .set #[] 0 (.fresh 0 0 (!w.params.followText "set-order")) }).get? c = some u := fun c u e => Heap.get?_push_of_some _ e
  have Ta' := { Ta with get := kp _ _ Ta.get }
  have Tb' := { Tb with get := kp _ _ Tb.get }
  have fin := hQ _ nw kp
  unfold Builtin.Frozenset.addrOf
  refine wpAny_bind (wpAny_pure (wpAny_bind (wpAny_holding (wpAny_bind (any_set (a := b) ⟨ob, Tb'.get, Tb.ex.1⟩ (wp_if_pos rfl (wpAny_bind (wpAny_pure ?_))))))))
  unfold Builtin.Frozenset.sizeOf
  refine wpAny_bind (wpAny_bind (wpAny_setEntries_of Tb'.get Tb.data Tb.fit (wpAny_pure ?_)))
  refine wpAny_bind (wpAny_bind (wpAny_setEntries_of Ta'.get Ta.data Ta.fit (wpAny_pure ?_)))
  have e1 : ea = #[] := Ta.none
  have e2 : eb = #[] := Tb.none
  rw [if_neg (by rw [e1, e2]; decide)]
  dsimp only
  refine wpAny_bind (wpAny_setEpoch_of Tb'.get Tb.data Tb.fit ?_)
  refine wpAny_bind (unseen_none Tb' ?_)
  refine wpAny_bind (wpAny_of_eq (a := PUnit.unit) (by simp) ?_)
  exact wpAny_pure (wpAny_pure (wpAny_pure ⟨_, rfl, by simp, fin⟩))
end
def rMeet0 (P : Program) (w : World) : R2 := fun x y H Q => ∃ a b, x = .ref a ∧ y = .ref b ∧ a ≠ b ∧ H a = some (TxtO P w a []) ∧ H b = some (TxtO P w b []) ∧ ∀ p, H p = none → Q (.ref p) (upd H p (TxtO P w p []))
theorem op_meet0 {X : Cx} : OpR X (binaryOp .BitAnd) (rMeet0 X.prog X.w) := by
  intro pins s σ H x y v u Q I rx ry h
  obtain ⟨a, b, rfl, rfl, ne, ha, hb, q⟩ := h
  cases rx
  cases ry
  refine tx_meet ne (txtO_get I ha) (txtO_get I hb) fun h' R k => ?_
  exact ⟨.ref _, _, I.laid (t' := s.toks) k (Nat.le_refl _) (txtO_new R), rfl, q _ (I.hok.fresh (Nat.le_refl _))⟩
end Fv


set_option Elab.async false
set_option linter.all false
set_option maxRecDepth 100000
set_option maxHeartbeats 2000000
/-! list comprehensions and sorted lists at none of the first places -/
namespace Fv
open PySem PySem.Spec PyProof.Rows L2
section
variable {X : Cx}
/-- [elt for target in iter if ..], its place none of the first ones -/
def tLcB (wi : TI) (g : TG) (tt : TT) (te : TE) (vs : List Nat) : TE := fun σ H Q => wi σ H fun J H1 => ∀ D, H1 D = none → D ≠ sysModules → ∃ W : Nat → Nat → Hp → Prop, (∃ m, W 0 m (upd H1 D (.lst []))) ∧ ∀ i m H, W i m H →
  (J.stop i H ∧ Q (.ref D) H) ∨ (J.go i H ∧ ∃ Nx : Hp → Prop, (∀ H', Nx H' → ∃ m', m' < m ∧ W (i + 1) m' H') ∧ ∀ x H', J.yld i H x H' → g x (wipe σ vs) H' fun σ2 H2 => wipe σ2 vs = wipe σ vs ∧ tt σ2 H2 fun b H3 =>
    if b = true then te σ2 H3 fun y H4 => ∃ acc, H4 D = some (.lst acc) ∧ acc.length < sizeLine ∧ Nx (upd H4 D (.lst (acc ++ [y]))) else Nx H3)
theorem pe_lcB {elt tg iter : Expr} {ifs : List Expr} {scope : Scope} {own : List (PySem.Str × Nat)} {pos : Pos} {wi : TI} {g : TG} {tt : TT} {te : TE} (hc : X.calm = true) (hN : X.N.Nodup) (hi : PI X tg iter wi) (ok : BlkOk X.N X.env.scope scope own)
    (hg : ∀ (s : Shared) (H : Hp) (C : Addr) (cl : List (PySem.Str × Addr)) (fp : List Addr), PG (X.blk s H scope (compEnvC scope cl C X.env) fp) tg g) (ht : ∀ (s : Shared) (H : Hp) (C : Addr) (cl : List (PySem.Str × Addr)) (fp : List Addr), PTs (X.blk s H scope (compEnvC scope cl C X.env) fp) ifs tt)
    (he : ∀ (s : Shared) (H : Hp) (C : Addr) (cl : List (PySem.Str × Addr)) (fp : List Addr), PE (X.blk s H scope (compEnvC scope cl C X.env) fp) elt te) (hs : ∀ x, foldedSetIterable iter X.env x = pure x := by intro _; rfl) :
    PE X (.ListComp elt [⟨tg, iter, ifs, 0⟩] scope pos) (tLcB wi g tt te (own.map (·.2))) := by
  refine ⟨fun pins s σ H Q I h => ?_⟩
  rw [eval_ListComp]
  have free : ∀ y ∈ scope.names, y.2 = .free → ∃ c, X.env.cells.lookup y.1 = some c := fun y hy e => (ok.free y hy e).elim (fun k => I.ok.has _ (.inl k)) fun k => I.ok.has _ (.inr k)
  refine wpAny_comprehension_free rfl hs (closure_ok free) ok.kind (fun y hy e => by rw [ok.uniq y hy, e]) (thn (hi.run pins s σ H _ I h) fun xv s1 hx => thn hx fun itv s2 ⟨it, fp, tn, J, H2, e2, I2, T, st2, f2, q⟩ => ?_)
  subst e2
  refine wpAny_newObj_type (newEnv_comp ?_) (by show 0 ≤ sizeLine; decide)
  have nD : H2 s2.heap.objs.size = none := I2.hok.fresh (Nat.le_refl _)
  have big := Nat.ne_of_gt I2.big
  obtain ⟨W, ⟨m0, w0⟩, turn⟩ := q _ nD big
  have I3 : Inv X pins σ (upd H2 s2.heap.objs.size (.lst [])) { s2 with heap := s2.heap.push { cls := .type "list", data := .seq ([] : List Value).toArray } } :=
    I2.laid (t' := s2.toks) (fun b o e => Heap.get?_push_of_some _ e) (Nat.le_refl _) ⟨Nat.zero_le _, [], 0, .nil, Heap.get?_push_size _ rfl⟩
  have szf : ∀ b ∈ fp, b < s2.heap.objs.size := fun b hb => let ⟨_, e, _⟩ := T.obj _ _ st2 b hb; Heap.lt_size e
  obtain ⟨D, eD⟩ : ∃ D, D = s2.heap.objs.size := ⟨_, rfl⟩
  rw [← eD] at nD w0 turn I3 szf ⊢
  have k3 : ∀ b o, s2.heap.get? b = some o → (s2.heap.push { cls := .type "list", data := .seq ([] : List Value).toArray }).get? b = some o := fun b o e => Heap.get?_push_of_some _ e
  have z3 : (s2.heap.push { cls := .type "list", data := .seq ([] : List Value).toArray }).objs.size = D + 1 := by rw [Heap.size_push, eD]
  generalize e3 : ({ s2 with heap := s2.heap.push { cls := .type "list", data := .seq ([] : List Value).toArray } } : Shared) = s3 at I3 ⊢
  have h3 : s3.heap = s2.heap.push { cls := .type "list", data := .seq ([] : List Value).toArray } := by rw [← e3]
  rw [← h3] at k3 z3
  obtain ⟨H3, eH⟩ : ∃ H3, H3 = upd H2 D (.lst []) := ⟨_, rfl⟩
  have fps : ∀ b ∈ fp, FpOk X pins H3 b ∧ b < s3.heap.objs.size := fun b hb => by
    refine ⟨⟨?_, (f2 b hb).2⟩, by rw [z3]; exact Nat.lt_succ_of_lt (szf b hb)⟩
    rw [eH, upd_ne (Nat.ne_of_lt (szf b hb))]
    exact (f2 b hb).1
  rw [← eH] at w0 I3
  have b4 := block_start I3 ok hN fps
  have st3 : tn 0 s3.heap := T.keep _ _ _ st2 fun b _ o e => k3 b o e
  show codeAny _ _ (.compStart (.ListComp elt [⟨tg, iter, ifs, 0⟩] scope pos) 0 (.ref it) (.ref D) (compEnvC scope (cellsFrom (s3.heap.objs.size + 1) scope.names (cloFrom X.env.cells scope.names [])) s3.heap.objs.size X.env)) (compPost (model X.prog X.w) X.A X.xe none _ (.ref D) s3.heap.objs.size) { s3 with heap := pushCells (s3.heap.push { cls := .type "dict", data := .dict #[] }) scope.names }
  have G1 := hg s3 H3 s3.heap.objs.size (cellsFrom (s3.heap.objs.size + 1) scope.names (cloFrom X.env.cells scope.names [])) fp
  have G2 := ht s3 H3 s3.heap.objs.size (cellsFrom (s3.heap.objs.size + 1) scope.names (cloFrom X.env.cells scope.names [])) fp
  have G3 := he s3 H3 s3.heap.objs.size (cellsFrom (s3.heap.objs.size + 1) scope.names (cloFrom X.env.cells scope.names [])) fp
  generalize ece : compEnvC scope (cellsFrom (s3.heap.objs.size + 1) scope.names (cloFrom X.env.cells scope.names [])) s3.heap.objs.size X.env = ce at b4 G1 G2 G3 ⊢
  have lc : ce.locals = s3.heap.objs.size := by rw [← ece]; rfl
  generalize e4 : ({ s3 with heap := pushCells (s3.heap.push { cls := .type "dict", data := .dict #[] }) scope.names } : Shared) = s4 at b4 ⊢
  have st4 : tn 0 s4.heap := T.keep _ _ _ st3 fun b _ o e => by rw [← e4]; exact pushCells_keeps _ _ _ _ (Heap.get?_push_of_some _ e)
  have still : ∀ {σ' : L2.St} {H' : Hp} {s' : Shared}, Inv (X.blk s3 H3 scope ce fp) [] σ' H' s' → (∀ b ∈ fp, H' b = none) → ∀ b ∈ fp, FpOk (X.blk s3 H3 scope ce fp) [] H' b := fun {σ' H' s'} J hn b hb =>
    ⟨hn b hb, (J.ok.exf b hb).1, J.ok.exfs b hb, Or.inl hb, fun x c e => (J.ok.exf b hb).2 x c e, fun p hp => by simp at hp⟩
  have walk : codeAny (model X.prog X.w) X.A (.compLoop (.ListComp elt [⟨tg, iter, ifs, 0⟩] scope pos) 0 (.ref it) (.ref D) ce) (compPost (model X.prog X.w) X.A X.xe none (EP X pins σ Q) (.ref D) s3.heap.objs.size) s4 := by
    refine compLoop_any (fun n s' => ∃ (i : Nat) (H' : Hp), Inv (X.blk s3 H3 scope ce fp) [] (wipe σ (own.map (·.2))) H' s' ∧ tn i s'.heap ∧ (∀ b ∈ fp, H' b = none) ∧ W i n H') (fun n s5 ⟨i, H5, I5, st5, n5, w5⟩ => ?_) m0 ⟨0, H3, b4, st4, fun b hb => (fps b hb).1.1, w0⟩
    rcases turn i n H5 w5 with ⟨stop, qq⟩ | ⟨go, Nx, hNx, step⟩
    · refine thnF (T.done (X.blk s3 H3 scope ce fp) rfl rfl rfl hc i [] s5 _ H5 (fun _ _ => False) I5 (still I5 n5) st5 stop) fun r s6 ⟨hr, I6⟩ => ?_
      subst hr
      have J := I3.call' (ch := fp) I6.os I6.base I6.hok I6.bare fun b hb => let f := (fps b hb).1.2; ⟨f.2.2.1, f.1, f.2.2.2.1, f.2.2.2.2⟩
      have nC : H5 s3.heap.objs.size = none := lc ▸ I6.free
      obtain ⟨m, hn, _⟩ := I6.loc
      have hn' : s6.heap.Ns s3.heap.objs.size m := lc ▸ (show s6.heap.Ns ce.locals m from hn)
      obtain ⟨f0, f1, f2, f3, f4, f5⟩ := I3.fpOk (Nat.le_refl _) nC
      exact ⟨m, hn', fun h'' sb => ⟨.ref D, H5, J.turned (t' := s6.toks) (fun b o hb e => (sb.2 b hb).trans e) f0 f1 f3 f4 f5, rfl, qq⟩⟩
    · refine thnF (T.item (X.blk s3 H3 scope ce fp) rfl rfl rfl hc i [] s5 _ H5 (fun _ _ => False) I5 (still I5 n5) st5 go) fun r s6 ⟨u, hr, h6⟩ => ?_
      subst hr
      refine thnF h6 fun _ s7 ⟨x, H7, I7, r7, y7, st7, n7⟩ => ?_
      have P7 := I7.pinned (still I7 n7) (T.obj _ _ st7)
      refine thnF (G1.run _ s7 _ H7 x u _ P7 r7 (step x H7 y7)) fun _ s8 ⟨σ8, H8, I8, hw8, q8⟩ => thnF (G2.run _ s8 σ8 H8 _ I8 q8) fun b s9 ⟨H9, I9, q9⟩ => ?_
      have fin : ∀ {s' : Shared} {H' : Hp}, Inv (X.blk s3 H3 scope ce fp) ([] ++ pinsAt fp s7.heap) σ8 H' s' → Nx H' → ∃ m, m < n ∧ ∃ (i : Nat) (H' : Hp), Inv (X.blk s3 H3 scope ce fp) [] (wipe σ (own.map (·.2))) H' s' ∧ tn i s'.heap ∧ (∀ b ∈ fp, H' b = none) ∧ W i m H' := fun {s' H'} J nx => by
        obtain ⟨m', hm, w'⟩ := hNx H' nx
        have kept : ∀ b ∈ fp, ∀ o, s7.heap.get? b = some o → s'.heap.get? b = some o ∧ H' b = none := fun b hb o e => by
          have z := J.pin (b, o) (List.mem_append_right _ (List.mem_append_right _ (mem_pinsAt hb e)))
          exact ⟨z.1, z.2.1⟩
        refine ⟨m', hm, i + 1, H', (J.unpinned (pins := [])).weak (by rw [← hw8, wipe_length]) (fun j v e => (wipe_some (hw8 ▸ e)).1), T.keep _ _ _ st7 fun b hb o e => (kept b hb o e).1, fun b hb => ?_, w'⟩
        obtain ⟨o, e, _⟩ := T.obj _ _ st7 b hb
        exact (kept b hb o e).2
      cases b with
      | false =>
        rw [if_neg Bool.false_ne_true] at q9 ⊢
        exact fin I9 q9
      | true =>
        rw [if_pos rfl] at q9 ⊢
        exact thnF (G3.run _ s9 σ8 H9 _ I9 q9) fun z s10 ⟨yv, H10, I10, r10, acc, hD10, room, nx⟩ => app_ok (X := X.blk s3 H3 scope ce fp) I10 hD10 room r10 fun s11 I11 => fin I11 nx
  exact codeAny_compStart_list walk (T.self X.A 0 _ _ _ st4 walk)
/-- sorted of a list or a tuple of fewer than 64 texts -/
def rSortB (K : PySem.W.Frag) : List V → Hp → VK → Prop := fun xs H Q => ∃ (a : Addr) (zs : List Str), xs = [.ref a] ∧ (SqL K H a (zs.map V.str) ∨ SqT K H a (zs.map V.str)) ∧ zs.length < 64 ∧ ∀ ys p, ys.Perm zs → sortedS ys = true → H p = none → p ≠ sysModules → Q (.ref p) (upd H p (.lst (ys.map V.str)))
theorem call_sortB : CallR X (.builtin "sorted") (rSortB X.K) := by
  intro pins s σ H xs us Q I r h
  obtain ⟨a, zs, rfl, ha, h64, q⟩ := h
  rw [Vals.ref1 r]
  obtain ⟨T, o, its, n, hT, rv, ho, hc, hd⟩ : ∃ (T : String) (o : Obj) (its : List Value) (n : Nat), (T = "list" ∨ T = "tuple") ∧ Vals (zs.map V.str) its ∧ s.heap.get? a = some o ∧ o.cls = .type T ∧ o.data = .seq its.toArray n := by
    rcases ha with ha | ha
    · obtain ⟨its, rv, pl, _⟩ := I.list ha
      obtain ⟨o, ho, hc, n, hd⟩ := pl.isList
      exact ⟨_, o, its, n, .inl rfl, rv, ho, hc, hd⟩
    · obtain ⟨its, rv, ⟨o, ho, hc, n, hd⟩, _⟩ := I.tuple ha
      exact ⟨_, o, its, n, .inr rfl, rv, ho, hc, hd⟩
  have vl : its.length = zs.length := by rw [← rv.length, List.length_map]
  refine Calls.call_function_entry PyProof.Rows.kind_sorted PyProof.Rows.plain_sorted PyProof.Rows.entry_sorted (PyProof.Rows.args_sorted1 _) ?_
  unfold Builtin.«sorted»
  refine wpAny_bind (m := checkCount "sorted" 1 1 _) (wpAny_pure (wpAny_bind (wpAny_collect_seq a hT ho hc hd (fun h1 k1 => ?_) (by rw [List.size_toArray, vl, sizeLine_eq]; omega))))
  have hS : StrsAre its zs := rv.strs
  have I1 : Inv X pins σ H { s with heap := h1 } := I.kept (t' := s.toks) k1
  refine wpAny_bind (wpAny_newList ?_ (by rw [show its.toArray.toList = its by simp, vl, sizeLine_eq]; omega))
  have oL : (h1.push (seqObj "list" its.toArray.toList.toArray 0)).get? h1.objs.size = some (seqObj "list" its.toArray.toList.toArray 0) := Heap.get?_push_size _ rfl
  rw [show its.toArray.toList = its by simp] at oL ⊢
  show wpAny _ _ _ _ _ { s with heap := h1.push (seqObj "list" its.toArray 0) }
  refine wpAny_bind (wpAny_holding (wpAny_call_entry PyProof.Rows.slot_list_sort ⟨_, oL, rfl⟩ PyProof.Rows.entry_list_sort
    (list_sort_treeK strKind_oneLt (s := { s with heap := h1.push (seqObj "list" its.toArray 0) }) oL hS.keysOf (fun v₁ v₂ rest e => keyKind_strs (by rw [← e]; exact hS)) (by rw [vl]; exact h64) fun st' hp hs => ⟨_, rfl, ?_⟩)
    (PyProof.Rows.args_list_sort _)))
  obtain ⟨ys, a1, a2, a3⟩ := sorted_out_str hS hp hs
  obtain ⟨e', he'⟩ := PyProof.Rows.sortedHeap_at (vs := its) (out := (arrOf st').map (·.2)) oL
  have yl : (ys.map V.str).length ≤ sizeLine := by
    rw [List.length_map, a2.length_eq, sizeLine_eq]
    omega
  refine wpAny_pure ⟨_, rfl, .ref h1.objs.size, upd H h1.objs.size (.lst (ys.map V.str)), I1.laid (t' := s.toks) (fun b u e => ?_) (Nat.le_refl _)
    (show ObjOk X.prog X.w _ _ _ (.lst (ys.map V.str)) from ⟨yl, ((arrOf st').map (·.2)).toList, e', vals_of_strs a1, by rw [Array.toArray_toList]; exact he'⟩), rfl, q ys _ a2 a3 (I1.hok.fresh (Nat.le_refl _)) (Nat.ne_of_gt I1.big)⟩
  have hb : b < h1.objs.size := Heap.lt_size e
  rw [PyProof.Rows.sortedHeap_old (Nat.ne_of_lt hb) (by rw [size_push']; exact Nat.lt_succ_of_lt hb)]
  exact Heap.get?_push_of_some _ e
end
end Fv


set_option Elab.async false
set_option linter.all false
set_option maxRecDepth 100000
set_option maxHeartbeats 4000000
namespace Fv
open PySem PySem.Spec PyProof.Rows L2
abbrev sAreNames : Stmt := top 20
abbrev sAreSettings : Stmt := top 28
def dedup (l : List Str) : List Str := l.foldl insL []
theorem dedup_snoc (l : List Str) (x : Str) : dedup (l ++ [x]) = insL (dedup l) x := by
  unfold dedup
  rw [List.foldl_append]
  rfl
theorem insL_len (L : List Str) (k : Str) : (insL L k).length ≤ L.length + 1 := by
  unfold insL
  split
  · omega
  · rw [List.length_append]
    exact Nat.le_refl _
theorem fold_le : ∀ (l acc : List Str), (l.foldl insL acc).length ≤ acc.length + l.length
  | [], acc => by simp
  | x :: l, acc => by
    have h1 := fold_le l (insL acc x)
    have h2 := insL_len acc x
    rw [List.foldl_cons, List.length_cons]
    omega
theorem dedup_le (l : List Str) : (dedup l).length ≤ l.length := by
  have := fold_le l []
  rwa [List.length_nil, Nat.zero_add] at this
theorem fold_len : ∀ (l acc : List Str), acc.Nodup → ((l.foldl insL acc).length = acc.length + l.length ↔ (acc ++ l).Nodup)
  | [], acc, h => by simpa using h
  | x :: l, acc, h => by
    rw [List.foldl_cons]
    by_cases hx : x ∈ acc
    · have e : insL acc x = acc := by unfold insL; rw [if_pos hx]
      rw [e]
      have h1 := fold_le l acc
      constructor
      · intro z
        rw [z, List.length_cons] at h1
        omega
      · intro z
        rw [List.nodup_append] at z
        exact absurd rfl (z.2.2 x hx x List.mem_cons_self)
    · have e : insL acc x = acc ++ [x] := by unfold insL; rw [if_neg hx]
      have nd : (acc ++ [x]).Nodup := by
        rw [List.nodup_append]
        refine ⟨h, by simp, fun y hy z hz e => hx ?_⟩
        rw [List.mem_singleton.mp hz] at e
        exact e ▸ hy
      rw [e]
      have ih := fold_len l (acc ++ [x]) nd
      rw [List.length_append, List.append_assoc] at ih
      rw [List.length_cons]
      refine Iff.trans ?_ ih
      rw [show ([x] : List Str).length = 1 from rfl]
      constructor <;> intro z <;> omega
theorem dedup_len (l : List Str) : (dedup l).length = l.length ↔ l.Nodup := by
  have := fold_len l [] List.nodup_nil
  rwa [List.length_nil, Nat.zero_add, List.nil_append] at this
theorem dedup_dec {l : List Str} {n : Nat} (h : n = l.length) : decide (V.int ((dedup l).length : Int) = V.int (n : Int)) = decide l.Nodup := by
  rw [int_len, Bool.eq_iff_iff, decide_eq_true_eq, decide_eq_true_eq, h]
  exact dedup_len l
theorem scan4096 {n : Nat} (h : n ≤ 60) : n + 1 < scanBound := by
  have : scanBound = 4096 := rfl
  omega
section
variable {P : Program} {w : World} {K : PySem.W.Frag} {mg : Str → Option Value} {base : Heap} {C : Addr}
theorem scAn : FnScope ["thing", "item"] ["thing"] (defScope sAreNames) := ⟨rfl, rfl, rfl, by decide +kernel, rfl, by decide +kernel, by decide +kernel⟩
theorem ok_arenames {f fR fN : Addr} {fd fdR fdN : FuncData} (F : Fun K "are_names" "are_names" sAreNames f fd)
    (GR : FnOk P w K mg base CX0 1 fR fdR ["thing"] (spX C rowD)) (bR : Binds K fdR ["thing"] []) (mR : mg "is_row" = some (.ref fR)) (kR : PySem.W.keepIn K (.ref fR) = true)
    (GN : FnOk P w K mg base CX0 1 fN fdN ["thing"] (spX C nameD)) (bN : Binds K fdN ["thing"] []) (mN : mg "is_name" = some (.ref fN)) (kN : PySem.W.keepIn K (.ref fN) = true)
    (ma : mg "all" = none) (ml : mg "len" = none) : FnOk P w K mg base CX0 2 f fd ["thing"] (spX C namesD) := by
  refine F.ok scAn (fun vs H Q E h => ?_) (fun cdv A outer s H vs Q E hr h => ?_)
  · obtain ⟨b, v, d, rfl, _⟩ := h
    rfl
  · obtain ⟨b, v, d, rfl, hd, hs, hb, q⟩ := h
    refine ⟨_, pss_cons (ps_if (PW.pt (pw_or (pt_not (pt_val (pe_call GR hr (by rfl) mR kR bR .nil pass0 (pa_cons (pv 0) pa_nil)))) (pw_or1 (pt_not (pt_val (pe_callB (cr_all rfl) (by rfl) ma (by decide +kernel) (pa_cons
        (pe_lc (own := [("item", 1)]) (g := gName 1) (tt := tYes) rfl scAn.nd (pi_row (pv 0)) (blkOk_by (N := ["thing", "item"]) (sc := defScope sAreNames) (by decide +kernel))
        (fun _ _ _ _ _ => pg_name (i := 1) scAn.nd rfl (Or.inl rfl)) (fun _ _ _ _ _ => pts_nil) (fun _ _ _ _ _ => pe_call GN hr (by rfl) mN kN bN .nil pass0 (pa_cons (pv 1) pa_nil))) pa_nil)))))))
        (pss_one (ps_ret pe_bl)) pss_nil)
      (pss_one (ps_ret (pe_cmpR op_eq (pe_callB (r := rLenX P w) call_lenX (by rfl) ml PySem.boot_len (pa_cons
        (pe_scX (own := [("item", 1)]) (g := gName 1) (tt := tYes) rfl scAn.nd (pi_row (pv 0)) (blkOk_by (N := ["thing", "item"]) (sc := defScope sAreNames) (by decide +kernel))
        (fun _ _ _ _ _ => pg_name (i := 1) scAn.nd rfl (Or.inl rfl)) (fun _ _ _ _ _ => pts_nil) (fun _ _ _ _ _ => pv 1)) pa_nil)) (pe_callB call_len_seq (by rfl) ml PySem.boot_len (pa_cons (pv 0) pa_nil)) (nomark _)))), ?_⟩
    have e : namesD d = (rowD d && (itemsD d).all nameD && decide ((itemsD d).map strS).Nodup) := rfl
    rw [e] at q
    refine ⟨_, rfl, b, v, d, rfl, hd, hs, hb, fun H1 s1 => ⟨_, rfl, ?_⟩⟩
    cases h0 : rowD d with
    | false =>
      rw [h0] at q
      exact q H1 s1
    | true =>
      rw [h0, Bool.true_and] at q
      have hd1 : Dx C H1 b v d := hd.mono fun a o _ e => s1 a o e
      obtain ⟨a, xs, ds, rfl, hdd, hrow, hx⟩ := hd1.row_of (K := K) h0
      rw [rows_items hdd] at q
      obtain ⟨hl, hok⟩ := rows_ok hdd hs
      have hlen := hx.len
      refine iteF ⟨_, rfl, a, xs, rfl, hrow, fun J G wk hG D hD => ?_⟩
      refine lc_it wk (fun i H' => Same H1 H' ∧ H' D = some (.lst ((ds.take i).map fun d => V.bl (nameD d)))) ⟨same_upd hD, upd_same⟩ (fun i H' _ h => hG H' h.1) ?_ ?_
      · rintro i x H' H2 hi ⟨s', e'⟩ ⟨rfl, hxi⟩
        obtain ⟨dx, hdi, hdx⟩ := hx.get hxi
        refine ⟨rfl, _, rfl, b, x, dx, rfl, hdx.mono fun c o _ e => s' c o e, hok.mem dx (List.mem_of_getElem? hdi), there (s1.trans s') hb, fun H3 s3 => ⟨_, s3 _ _ e', ?_, fun c o e => ?_, ?_⟩⟩
        · rw [List.length_map, List.length_take]
          exact small60 (by omega)
        · rw [upd_ne (ne_of_none e hD)]
          exact s3 _ _ (s' c o e)
        · rw [upd_same, take_map_snoc hdi]
      · rintro H2 ⟨s2, e2⟩
        rw [hlen, List.take_length] at e2
        refine ⟨D, ds.map nameD, rfl, SqL.of (by rw [List.map_map]; exact e2), ?_⟩
        rw [List.all_map]
        refine ⟨ds.all nameD, rfl, ?_⟩
        cases h2 : ds.all nameD with
        | false =>
          rw [h2] at q
          exact iteT (q H2 (s1.trans s2))
        | true =>
          rw [h2, Bool.true_and] at q
          refine iteF ⟨_, rfl, a, xs, rfl, hrow.imp (fun h => h.same s2) (fun h => h.same s2), fun J2 G2 wk2 hG2 D2 hD2 => ?_⟩
          refine sc_it wk2 (fun i H' => Same H2 H' ∧ H' D2 = some (TxtO P w D2 (dedup ((ds.take i).map strS)))) ⟨same_upd hD2, upd_same⟩ (fun i H' _ h => hG2 H' h.1) ?_ ?_
          · rintro i x H' H3 hi ⟨s', e'⟩ ⟨rfl, hxi⟩
            obtain ⟨dx, hdi, hdx⟩ := hx.get hxi
            obtain ⟨z, rfl⟩ := name_str (List.all_eq_true.mp h2 dx (List.mem_of_getElem? hdi))
            cases hdx
            refine ⟨rfl, _, rfl, z, _, rfl, e', ?_, fun c o e => ?_, ?_⟩
            · refine scan4096 (Nat.le_trans (dedup_le _) ?_)
              rw [List.length_map, List.length_take]
              omega
            · rw [upd_ne (ne_of_none e hD2)]
              exact s' c o e
            · rw [upd_same, take_map_snoc hdi, dedup_snoc]
              rfl
          · rintro H3 ⟨s3, e3⟩
            rw [hlen, List.take_length] at e3
            refine ⟨D2, _, rfl, e3, _, rfl, a, xs, rfl, ?_, rfl, ?_⟩
            · exact hrow.imp (fun h => (h.same s2).same s3) (fun h => (h.same s2).same s3)
            · rw [dedup_dec (by rw [hlen, List.length_map])]
              exact q H3 ((s1.trans s2).trans s3)
theorem scAs : FnScope ["thing", "part"] ["thing"] (defScope sAreSettings) := ⟨rfl, rfl, rfl, by decide +kernel, rfl, by decide +kernel, by decide +kernel⟩
theorem ok_aresettings {f fR fN : Addr} {fd fdR fdN : FuncData} (F : Fun K "_are_settings" "_are_settings" sAreSettings f fd)
    (GR : FnOk P w K mg base CX0 1 fR fdR ["thing"] (spX C rowD)) (bR : Binds K fdR ["thing"] []) (mR : mg "is_row" = some (.ref fR)) (kR : PySem.W.keepIn K (.ref fR) = true)
    (GN : FnOk P w K mg base CX0 3 fN fdN ["thing"] (spX C tripD)) (bN : Binds K fdN ["thing"] []) (mN : mg "_is_setting" = some (.ref fN)) (kN : PySem.W.keepIn K (.ref fN) = true)
    (ma : mg "all" = none) (ml : mg "len" = none) : FnOk P w K mg base CX0 4 f fd ["thing"] (spX C setsD) := by
  refine F.ok scAs (fun vs H Q E h => ?_) (fun cdv A outer s H vs Q E hr h => ?_)
  · obtain ⟨b, v, d, rfl, _⟩ := h
    rfl
  · obtain ⟨b, v, d, rfl, hd, hs, hb, q⟩ := h
    have hr1 : Room 1 _ := hr.mono (by decide)
    refine ⟨_, pss_cons (ps_if (PW.pt (pw_or (pt_not (pt_val (pe_call GR hr1 (by rfl) mR kR bR .nil pass0 (pa_cons (pv 0) pa_nil)))) (pw_or1 (pt_not (pt_val (pe_callB (cr_all rfl) (by rfl) ma (by decide +kernel) (pa_cons
        (pe_lc (own := [("part", 1)]) (g := gName 1) (tt := tYes) rfl scAs.nd (pi_row (pv 0)) (blkOk_by (N := ["thing", "part"]) (sc := defScope sAreSettings) (by decide +kernel))
        (fun _ _ _ _ _ => pg_name (i := 1) scAs.nd rfl (Or.inl rfl)) (fun _ _ _ _ _ => pts_nil) (fun _ _ _ _ _ => pe_call GN hr (by rfl) mN kN bN .nil pass0 (pa_cons (pv 1) pa_nil))) pa_nil)))))))
        (pss_one (ps_ret pe_bl)) pss_nil)
      (pss_one (ps_ret (pe_cmpR op_eq (pe_callB (r := rLenX P w) call_lenX (by rfl) ml PySem.boot_len (pa_cons
        (pe_scX (own := [("part", 1)]) (g := gName 1) (tt := tYes) rfl scAs.nd (pi_row (pv 0)) (blkOk_by (N := ["thing", "part"]) (sc := defScope sAreSettings) (by decide +kernel))
        (fun _ _ _ _ _ => pg_name (i := 1) scAs.nd rfl (Or.inl rfl)) (fun _ _ _ _ _ => pts_nil) (fun _ _ _ _ _ => pe_ix (r := rIxT K) ix_tup (pv 1) pe_int (fun _ _ => rfl))) pa_nil)) (pe_callB call_len_seq (by rfl) ml PySem.boot_len (pa_cons (pv 0) pa_nil)) (nomark _)))), ?_⟩
    have e : setsD d = (rowD d && (itemsD d).all tripD && decide ((itemsD d).map headS).Nodup) := rfl
    rw [e] at q
    refine ⟨_, rfl, b, v, d, rfl, hd, hs, hb, fun H1 s1 => ⟨_, rfl, ?_⟩⟩
    cases h0 : rowD d with
    | false =>
      rw [h0] at q
      exact q H1 s1
    | true =>
      rw [h0, Bool.true_and] at q
      have hd1 : Dx C H1 b v d := hd.mono fun a o _ e => s1 a o e
      obtain ⟨a, xs, ds, rfl, hdd, hrow, hx⟩ := hd1.row_of (K := K) h0
      rw [rows_items hdd] at q
      obtain ⟨hl, hok⟩ := rows_ok hdd hs
      have hlen := hx.len
      refine iteF ⟨_, rfl, a, xs, rfl, hrow, fun J G wk hG D hD => ?_⟩
      refine lc_it wk (fun i H' => Same H1 H' ∧ H' D = some (.lst ((ds.take i).map fun d => V.bl (tripD d)))) ⟨same_upd hD, upd_same⟩ (fun i H' _ h => hG H' h.1) ?_ ?_
      · rintro i x H' H2 hi ⟨s', e'⟩ ⟨rfl, hxi⟩
        obtain ⟨dx, hdi, hdx⟩ := hx.get hxi
        refine ⟨rfl, _, rfl, b, x, dx, rfl, hdx.mono fun c o _ e => s' c o e, hok.mem dx (List.mem_of_getElem? hdi), there (s1.trans s') hb, fun H3 s3 => ⟨_, s3 _ _ e', ?_, fun c o e => ?_, ?_⟩⟩
        · rw [List.length_map, List.length_take]
          exact small60 (by omega)
        · rw [upd_ne (ne_of_none e hD)]
          exact s3 _ _ (s' c o e)
        · rw [upd_same, take_map_snoc hdi]
      · rintro H2 ⟨s2, e2⟩
        rw [hlen, List.take_length] at e2
        refine ⟨D, ds.map tripD, rfl, SqL.of (by rw [List.map_map]; exact e2), ?_⟩
        rw [List.all_map]
        refine ⟨ds.all tripD, rfl, ?_⟩
        cases h2 : ds.all tripD with
        | false =>
          rw [h2] at q
          exact iteT (q H2 (s1.trans s2))
        | true =>
          rw [h2, Bool.true_and] at q
          refine iteF ⟨_, rfl, a, xs, rfl, hrow.imp (fun h => h.same s2) (fun h => h.same s2), fun J2 G2 wk2 hG2 D2 hD2 => ?_⟩
          refine sc_it wk2 (fun i H' => Same H2 H' ∧ H' D2 = some (TxtO P w D2 (dedup ((ds.take i).map headS)))) ⟨same_upd hD2, upd_same⟩ (fun i H' _ h => hG2 H' h.1) ?_ ?_
          · rintro i x H' H3 hi ⟨s', e'⟩ ⟨rfl, hxi⟩
            obtain ⟨dx, hdi, hdx⟩ := hx.get hxi
            obtain ⟨zx, zy, zc, rfl⟩ := trip_shape (List.all_eq_true.mp h2 dx (List.mem_of_getElem? hdi))
            obtain ⟨at_, ws, es, rfl, ee, e4, hw⟩ := hdx.tup_of rfl
            cases ee
            obtain ⟨v1, v2, v3, rfl⟩ := three_of hw.len
            obtain ⟨_, _, _, ee, g4, g5, g6⟩ := hw.three
            cases ee
            cases g4
            refine ⟨rfl, _, rfl, at_, _, _, _, rfl, rfl, SqT.of (s' _ _ (s2 _ _ e4)), atI_nat (j := 0) rfl, zx, _, rfl, e', ?_, fun c o e => ?_, ?_⟩
            · refine scan4096 (Nat.le_trans (dedup_le _) ?_)
              rw [List.length_map, List.length_take]
              omega
            · rw [upd_ne (ne_of_none e hD2)]
              exact s' c o e
            · rw [upd_same, take_map_snoc hdi, dedup_snoc]
              rfl
          · rintro H3 ⟨s3, e3⟩
            rw [hlen, List.take_length] at e3
            refine ⟨D2, _, rfl, e3, _, rfl, a, xs, rfl, ?_, rfl, ?_⟩
            · exact hrow.imp (fun h => (h.same s2).same s3) (fun h => (h.same s2).same s3)
            · rw [dedup_dec (by rw [hlen, List.length_map])]
              exact q H3 ((s1.trans s2).trans s3)
end
end Fv


set_option Elab.async false
set_option linter.all false
set_option maxRecDepth 100000
set_option maxHeartbeats 1000000
namespace Fv
open PySem PySem.Spec PyProof.Rows L2
/-! a sorted list of texts is told by what is in it -/
def leS (a b : Str) : Prop := ¬ (b.cps.toList < a.cps.toList)
theorem leS_trans {a b c : Str} (h : leS a b) (k : leS b c) : leS a c := by
  unfold leS at *
  rw [List.not_lt] at *
  exact List.le_trans h k
theorem leS_anti {a b : Str} (h : leS a b) (k : leS b a) : a = b := by
  unfold leS at *
  rw [List.not_lt] at *
  have := List.le_antisymm h k
  obtain ⟨⟨a⟩⟩ := a
  obtain ⟨⟨b⟩⟩ := b
  simp at this
  rw [this]
theorem rising_pw : ∀ (l : List Str) (p : Str), risingS p l = true → (∀ x ∈ l, leS p x) ∧ l.Pairwise leS
  | [], p, _ => ⟨fun x hx => (List.not_mem_nil hx).elim, List.Pairwise.nil⟩
  | y :: l, p, h => by
    unfold risingS at h
    rw [Bool.and_eq_true] at h
    have h1 : leS p y := by
      have h1 := h.1
      rw [ltCps_eq] at h1
      unfold leS
      simpa using h1
    obtain ⟨h2, h3⟩ := rising_pw l y h.2
    refine ⟨fun x hx => ?_, List.pairwise_cons.mpr ⟨h2, h3⟩⟩
    rcases List.mem_cons.mp hx with rfl | hx
    · exact h1
    · exact leS_trans h1 (h2 x hx)
theorem sorted_pw : ∀ {l : List Str}, sortedS l = true → l.Pairwise leS
  | [], _ => List.Pairwise.nil
  | x :: l, h => by
    obtain ⟨h1, h2⟩ := rising_pw l x h
    exact List.pairwise_cons.mpr ⟨h1, h2⟩
theorem sorted_one : ∀ {l m : List Str}, l.Pairwise leS → m.Pairwise leS → l.Perm m → l = m
  | [], m, _, _, p => (List.nil_perm.mp p).symm
  | x :: l, [], _, _, p => by
    have := p.length_eq
    simp at this
  | x :: l, y :: m, hl, hm, p => by
    obtain ⟨a1, a2⟩ := List.pairwise_cons.mp hl
    obtain ⟨b1, b2⟩ := List.pairwise_cons.mp hm
    have exy : x = y := by
      have i1 := p.mem_iff.mp (List.mem_cons_self (a := x))
      have i2 := p.mem_iff.mpr (List.mem_cons_self (a := y))
      rcases List.mem_cons.mp i1 with h | h
      · exact h
      · rcases List.mem_cons.mp i2 with k | k
        · exact k.symm
        · exact leS_anti (a1 y k) (b1 x h)
    subst exy
    rw [sorted_one a2 b2 (List.Perm.cons_inv p)]
theorem sorted_same {l m a b : List Str} (hl : sortedS l = true) (hm : sortedS m = true) (pl : l.Perm a) (pm : m.Perm b) (h : a.Perm b) : l = m := sorted_one (sorted_pw hl) (sorted_pw hm) ((pl.trans h).trans pm.symm)
end Fv


set_option Elab.async false
set_option linter.all false
set_option maxRecDepth 100000
set_option maxHeartbeats 2000000
/-! enumerate over a tuple -/
namespace Fv
open PySem PySem.Spec PyProof.Rows L2
open AutoSeq1 (wpAny_loadPart')
theorem draws_tup {prog : Program} {w : World} {A : Around} (hh : A.handled = none) (it t : Addr) (hne : t ≠ it) (items : Array Value) :
    Draws prog w A it [it, t] items.size (fun i v => items[i]? = some v) (fun i h => h.IsTupleIter it t i ∧ h.IsTuple t items) where
  live := fun _ _ st => let ⟨o, ho, _⟩ := st.1; ⟨o, ho⟩
  frame := fun _ _ _ st hk => ⟨st.1.at fun o e => hk it (by simp) o e, let ⟨o, ho, r⟩ := st.2; ⟨o, hk t (by simp) o ho, r⟩⟩
  item := fun i s Q E hi st hQ => by
    refine RZ.nextOf_tuple_item st.1 st.2 (x := items[i]) (by simp [hi]) fun h' hit' hs' => ?_
    obtain ⟨o, ho, r⟩ := st.2
    exact hQ _ h' s.toks (by simp [hi]) ⟨hit', o, hs'.extBut t o hne ho, r⟩ hs'
  done := fun s Q E st hE => RZ.nextOf_tuple_end hh st.1 st.2 (by simp) hE
theorem enum_new (l : Addr) (items : Array Value) (n : Nat) (dct : Option Addr) (sl : Array (Option Value)) :
    Meets (Builtin.«enumerate.__new__» ⟨[.type "enumerate", .ref l], []⟩) (fun _ R s => s.heap.get? l = some { cls := .type "tuple", dict := dct, data := .seq items n, slots := sl } ∧
      R (.ok (.ret (.ref (s.heap.push { cls := .type "tuple_iterator", data := .fields #[.ref l, .int 0 0] }).objs.size)))
        { s with heap := (s.heap.push { cls := .type "tuple_iterator", data := .fields #[.ref l, .int 0 0] }).push { cls := .type "enumerate", data := .fields #[.none, .bool false, .ref s.heap.objs.size, rawInt 0, .none, .none] } }) :=
  .of_wp fun prog w A R s h => by
    obtain ⟨hp, g, d, tk, os⟩ := s
    obtain ⟨hl, h⟩ := h
    have hsub := sub_enumerate
    have hL : Heap.IsTuple (Shared.heap ⟨hp, g, d, tk, os⟩) l items := ⟨_, hl, rfl, n, rfl⟩
    wp_walk using wpAny_loadPart' hl
    refine wpAny_stack_any fun st => wpAny_pure ?_
    split
    · rename_i c _ _ _ _ _
      cases (c == Value.type "enumerate") <;> (wp_walk using wpAny_loadPart' hl, wpAny_pyIter_tuple hL; exact ⟨_, rfl, h⟩)
    · wp_walk using wpAny_loadPart' hl, wpAny_pyIter_tuple hL
      exact ⟨_, rfl, h⟩
section
variable {prog : Program} {w : World} {A : Around} {E : Value → Shared → Prop} {s : Shared}
theorem call_enumT {l : Addr} {items : Array Value} {Q : Value → Shared → Prop} (hL : s.heap.IsTuple l items)
    (h : ∀ h', IsEnum h' (s.heap.objs.size + 1) s.heap.objs.size 0 .none → h'.IsTupleIter s.heap.objs.size l 0 → h'.objs.size = s.heap.objs.size + 2 → (∀ b o, s.heap.get? b = some o → h'.get? b = some o) → Q (.ref (s.heap.objs.size + 1)) { s with heap := h' }) :
    wpAny (model prog w) A (call (.type "enumerate") [.ref l]) Q E s := by
  obtain ⟨⟨c, dct, dt, sl⟩, hl, hc, n, hd⟩ := hL
  simp only at hc hd
  subst hc hd
  have z1 : (s.heap.push { cls := .type "tuple_iterator", data := .fields #[.ref l, .int 0 0] }).objs.size = s.heap.objs.size + 1 := Heap.size_push ..
  have he : IsEnum ((s.heap.push { cls := .type "tuple_iterator", data := .fields #[.ref l, .int 0 0] }).push { cls := .type "enumerate", data := .fields #[.none, .bool false, .ref s.heap.objs.size, rawInt 0, .none, .none] }) (s.heap.objs.size + 1) s.heap.objs.size 0 .none := by
    have := Heap.get?_push_size (s.heap.push { cls := .type "tuple_iterator", data := .fields #[.ref l, .int 0 0] }) (o := { cls := .type "enumerate", data := .fields #[.none, .bool false, .ref s.heap.objs.size, rawInt 0, .none, .none] }) rfl
    rw [z1] at this
    exact this
  refine callType_new F.called_enumerate (by decide) (F.typeCall_enumerate_1 _) (F.newCall_enumerate_1 _) (fun obj => F.args_object_init_2 obj _) F.entry_enumerate_new (enum_new l items n dct sl) ⟨hl, ?_⟩
  show _ ∧ _
  rw [z1]
  exact ⟨⟨_, he, rfl⟩, h _ he ⟨_, Heap.get?_push_of_some _ (Heap.get?_push_size _ rfl), rfl, rfl⟩ (by rw [Heap.size_push, z1]) fun b o x => Heap.get?_push_of_some _ (Heap.get?_push_of_some _ x)⟩
theorem enum_endT {e it l : Addr} {i : Nat} {j : Int} {items : Array Value} {old : Value} {Q : Option Value → Shared → Prop} (hh : A.handled = none) (he : IsEnum s.heap e it j old) (hit : s.heap.IsTupleIter it l i) (hl : s.heap.IsTuple l items) (hx : items[i]? = none)
    (hQ : ∀ h', Heap.ExtBut it s.heap h' → Q none { s with heap := h' }) : wpAny (model prog w) A (pyNext (.ref e)) Q E s := by
  have hT : s.TypeIs (.ref e) "enumerate" := ⟨_, he, rfl⟩
  unfold pyNext
  refine wpAny_bind (wpAny_attempt (wpAny_callSpecial?_slot (name := Str.ofString "__next__") hT F.slot_enumerate_next (wpAny_call_entry F.slot_enumerate_next hT F.entry_enumerate_next ?_ (F.args_enumerate_next_1 _))))
  show wpAny _ _ (field (.ref e) 2 >>= _) _ _ _
  refine wpAny_bind (wpAny_field he rfl (x := .ref it) rfl (wpAny_bind (RZ.nextOf_tuple_end hh hit hl hx fun h' x k ⟨o, ho, hc⟩ => ?_)))
  exact wpAny_bind (wpAny_isInstance (T := "StopIteration") (b := true) ⟨o, ho, hc⟩ isSubtype_stop (wpAny_pure (hQ _ k)))
end
/-- the tuple at a as it stands at each turn, its items in new pairs with their numbers -/
def Iet (K : PySem.W.Frag) (a : Addr) : It :=
  ⟨fun i H => ∃ (xs : List V) (x : V), SqT K H a xs ∧ xs[i]? = some x, fun i H v H' => ∃ T x, v = .ref T ∧ H T = none ∧ H' = upd H T (.tup [.int (i : Nat), x]) ∧ ∀ xs, SqT K H a xs → xs[i]? = some x, fun i H => ∃ xs : List V, SqT K H a xs ∧ xs.length ≤ i⟩
theorem turn_enumT {P : Program} {w : World} {K : PySem.W.Frag} {elts : List Expr} {kk : Nat} {tpos : Pos} (a e it : Addr) (ha1 : a ≠ it) (ha2 : a ≠ e) :
    Turn P w K (.Tuple elts kk tpos) (Iet K a) [e, it] e (fun i h => (∃ old, IsEnum h e it ((i : Nat) : Int) old) ∧ h.IsTupleIter it a i ∧ e ≠ it) where
  mem := by simp
  obj := fun i h st b hb => by
    obtain ⟨⟨old, he⟩, ⟨o, ho, hc, hd⟩, _⟩ := st
    rcases (show b = e ∨ b = it by simpa using hb) with rfl | rfl
    · exact ⟨_, he, fun v q => nomatch q⟩
    · exact ⟨o, ho, fun v q => by rw [hd] at q; cases q⟩
  keep := fun i h h' st k => ⟨let ⟨old, he⟩ := st.1; ⟨old, k e (by simp) _ he⟩, st.2.1.at fun o q => k it (by simp) o q, st.2.2⟩
  item := by
    intro X hP hw hK hc i pins s σ H E I hf st hg
    subst hP hw hK
    obtain ⟨⟨old, he⟩, hit, hne⟩ := st
    obtain ⟨xs, x, hq, hx⟩ := hg
    obtain ⟨its, rv, p, hz⟩ := I.tuple hq
    have p' : s.heap.IsTuple a its.toArray := p
    obtain ⟨u, hu, ru⟩ := rv.get hx
    have hlt : i < its.toArray.size := by
      have := (List.getElem?_eq_some_iff.mp hu).1
      simpa using this
    have hel : e < s.heap.objs.size := Heap.lt_size he
    have hil : it < s.heap.objs.size := by obtain ⟨_, q, _⟩ := hit; exact Heap.lt_size q
    refine wpAny_pyNext_enum_itemD (draws_tup (A := X.A.in1) (I.ok.hd hc) it a ha1 its.toArray) he ⟨hit, p'⟩ hlt hne (by simp [hne, Ne.symm ha2]) fun y h' tk py ho st' hT hsz hk => ?_
    have ey : y = u := by
      have : some u = some y := hu.symm.trans (by simpa using py)
      exact (Option.some.inj this).symm
    subst ey
    refine ⟨_, rfl, wpAny_letOwnedTupleGo_enum (s := { s with heap := h', toks := tk + 1 }) ho fun h'' he' sb => ?_⟩
    have hT2 : h''.get? s.heap.objs.size = some { cls := .type "tuple", data := .seq #[.int i tk, y] } := (sb.2 _ (Nat.ne_of_gt hel)).trans hT
    have new : ObjOk X.prog X.w (upd H s.heap.objs.size (.tup [.int (i : Nat), x])) h'' s.heap.objs.size (.tup [.int (i : Nat), x]) :=
      ⟨by show 2 ≤ sizeLine; decide, [.int i tk, y], .cons ⟨_, rfl⟩ (.cons ru .nil), ⟨_, hT2, rfl, _, rfl⟩⟩
    have I1 : Inv X pins σ (upd H s.heap.objs.size (.tup [.int (i : Nat), x])) { s with heap := h'', toks := tk + 1 } :=
      I.turnedNew (ch := [e, it]) (fun b ob hb q => (sb.2 b (fun z => hb (by simp [z]))).trans (hk b ob (fun z => hb (by simp [z])) (fun z => hb (by simp [z])) q)) hf (Nat.le_refl _) new
    refine ⟨.ref s.heap.objs.size, _, I1, rfl, ⟨_, x, rfl, I.hok.fresh (Nat.le_refl _), rfl, fun ys hy => by rw [I.tuple_inj hy hq]; exact hx⟩, ⟨⟨y, ?_⟩, st'.1.at fun o q => (sb.2 it (Ne.symm hne)).trans q, hne⟩, fun b hb => ?_⟩
    · rw [show ((i + 1 : Nat) : Int) = (i : Int) + 1 by omega]
      exact he'
    · have hb' : b < s.heap.objs.size := by
        rcases (show b = e ∨ b = it by simpa using hb) with rfl | rfl
        · exact hel
        · exact hil
      rw [upd_ne (Nat.ne_of_lt hb')]
      exact (hf b hb).1
  done := by
    intro X hP hw hK hc i pins s σ H E I hf st hg
    subst hP hw hK
    obtain ⟨⟨old, he⟩, hit, hne⟩ := st
    obtain ⟨xs, hq, hx⟩ := hg
    obtain ⟨its, rv, p, hz⟩ := I.tuple hq
    obtain ⟨f0, f1, f2, f3, f4, f5⟩ := hf it (by simp)
    have hl := rv.length
    exact enum_endT (I.ok.hd hc) he hit (show s.heap.IsTuple a its.toArray from p) (by simp; omega) fun h' eb => ⟨rfl, I.turned (t' := s.toks) (fun b o hb q => eb b o hb q) f0 f1 f3 f4 f5⟩
  self := fun A i s Q E st h => let ⟨⟨_, he⟩, _⟩ := st; wpAny_pyIter_enum he h
def iEnumT (K : PySem.W.Frag) (ta : TA) : TI := fun σ H R => ta σ H fun vs H1 => ∃ a xs, vs = [.ref a] ∧ SqT K H1 a xs ∧ R (Iet K a) H1
theorem pi_enumT {X : Cx} {e : Expr} {ta : TA} {p pos tpos : Pos} {elts : List Expr} {kk : Nat} (hg : Gl X "enumerate") (hm : X.mg "enumerate" = none) (ha : PA X [e] ta) (hs : starEach [e] X.env = [(false, eval e X.env)] := by rfl) :
    PI X (.Tuple elts kk tpos) (.Call (.Name "enumerate" p) [e] [] pos) (iEnumT X.K ta) := by
  refine ⟨fun pins s σ H R I h => ?_⟩
  refine Call_ (ld_blt I hg hm boot_enumerate (PyProof.Rows.callWith_type1 (thn (ha.run pos pins s σ H _ I h) fun us s1 ⟨vs, H1, I1, r1, a, xs, ex, hq, q⟩ => ?_) hs rfl))
  subst ex
  rw [Vals.ref1 r1]
  obtain ⟨its, rv, p', hz⟩ := I1.tuple hq
  have hal : a < s1.heap.objs.size := by obtain ⟨o, ho, _⟩ := p'; exact Heap.lt_size ho
  refine call_enumT (show s1.heap.IsTuple a its.toArray from p') fun h' he hit hsz hk => wpAny_pyIter_enum he ?_
  have I2 : Inv X pins σ H1 { s1 with heap := h' } := I1.kept (t' := s1.toks) hk
  refine ⟨s1.heap.objs.size + 1, [s1.heap.objs.size + 1, s1.heap.objs.size], _, _, H1, rfl, I2, turn_enumT a (s1.heap.objs.size + 1) s1.heap.objs.size (Nat.ne_of_lt hal) (Nat.ne_of_lt (Nat.lt_succ_of_lt hal)), ⟨⟨.none, he⟩, hit, Nat.succ_ne_self _⟩, fun b hb => ?_, q⟩
  have hle : s1.heap.objs.size ≤ b := by
    rcases (show b = s1.heap.objs.size + 1 ∨ b = s1.heap.objs.size by simpa using hb) with z | z
    · rw [z]
      exact Nat.le_succ _
    · exact Nat.le_of_eq z.symm
  exact I1.fpOk hle (I1.hok.fresh hle)
theorem walk_enumT {K : PySem.W.Frag} {a : Addr} {xs : List V} : Walk (Iet K a) xs.length (fun H => SqT K H a xs) (YPair (fun i => some (.int (i : Nat))) (fun i => xs[i]?)) := by
  refine ⟨fun i _ hi q => ⟨xs, xs[i], q, by simp [hi]⟩, fun _ q => ⟨xs, q, Nat.le_refl _⟩, fun i H v H' _ q y => ?_⟩
  obtain ⟨T, x, h1, h2, h3, h4⟩ := y
  exact ⟨T, .int (i : Nat), x, h1, h2, h3, rfl, h4 xs q⟩
end Fv


set_option Elab.async false
set_option linter.all false
set_option maxRecDepth 100000
set_option maxHeartbeats 1000000
namespace Fv
open PySem PySem.Spec PyProof.Rows L2
/-! ### what an own error's __init__ leaves -/
def spI1 (C : Addr) (f : Str) : Sp := fun vs H Q _ => ∃ (a : Addr) (y : V), vs = [.ref a, y] ∧ H a = some (exo a C none) ∧ ∀ dx, H dx = none → dx ≠ a → Q .non (upd (upd H dx (exd dx [(f, y)])) a (exo a C (some dx)))
def spI2 (C : Addr) (f g : Str) : Sp := fun vs H Q _ => ∃ (a : Addr) (y z : V), vs = [.ref a, y, z] ∧ H a = some (exo a C none) ∧ ∀ dx, H dx = none → dx ≠ a → Q .non (upd (upd (upd H dx (exd dx [(f, y)])) a (exo a C (some dx))) dx (exd dx [(g, z), (f, y)]))
theorem let_go {H : Hp} {a dx C : Addr} {fs : List (Str × V)} {o o1 o2 : HO} (na : H a = none) (ne : dx ≠ a) : upd (del (upd (upd (upd H a o) dx o1) a o2) a) dx (.xd fs) = upd H dx (.xd fs) := by
  funext b
  by_cases hb : b = dx
  · rw [hb, upd_same, upd_same]
  · rw [upd_ne hb, upd_ne hb]
    by_cases h2 : b = a
    · rw [h2, del_same, na]
    · rw [del_ne h2, upd_ne h2, upd_ne hb, upd_ne h2]
theorem let_go2 {H : Hp} {a dx C : Addr} {fs : List (Str × V)} {o o1 o2 o3 : HO} (na : H a = none) (ne : dx ≠ a) : upd (del (upd (upd (upd (upd H a o) dx o1) a o2) dx o3) a) dx (.xd fs) = upd H dx (.xd fs) := by
  funext b
  by_cases hb : b = dx
  · rw [hb, upd_same, upd_same]
  · rw [upd_ne hb, upd_ne hb]
    by_cases h2 : b = a
    · rw [h2, del_same, na]
    · rw [del_ne h2, upd_ne hb, upd_ne h2, upd_ne hb, upd_ne h2]
structure Own1 (P : Program) (w : World) (K : PySem.W.Frag) (mg : Str → Option Value) (base : Heap) (x f : Str) (C : Addr) : Prop where
  ox : OexC K C
  gC : mg x = some (.ref C)
  made : ∃ (fI : Addr) (fd : FuncData) (ps : List Str), PySem.W.findIn K (.ref C) "__init__" = some (some (.ref fI)) ∧ PySem.W.typeIn K (.ref fI) = some (.type "function") ∧ FnOk P w K mg base CX0 1 fI fd ps (spI1 C f) ∧ Binds K fd ps []
structure Own2 (P : Program) (w : World) (K : PySem.W.Frag) (mg : Str → Option Value) (base : Heap) (x f g : Str) (C : Addr) : Prop where
  ox : OexC K C
  gC : mg x = some (.ref C)
  made : ∃ (fI : Addr) (fd : FuncData) (ps : List Str), PySem.W.findIn K (.ref C) "__init__" = some (some (.ref fI)) ∧ PySem.W.typeIn K (.ref fI) = some (.type "function") ∧ FnOk P w K mg base CX0 1 fI fd ps (spI2 C f g) ∧ Binds K fd ps []
structure Own0 (K : PySem.W.Frag) (mg : Str → Option Value) (x : Str) (C : Addr) : Prop where
  ex : PySem.W.excIn K C [.type "ValueError", .type "Exception", .type "BaseException", .type "object"] "ValueError.__new__" = true
  gC : mg x = some (.ref C)
  kC : PySem.W.keepIn K (.ref C) = true
  bC : PySem.W.subIn K (.ref C) (.type "BaseException") = some true
  tC : PySem.W.typeIn K (.ref C) = some (.type "type")
def tR1 (C : Addr) (f : Str) (te : TE) : L2.St → Hp → XK → Prop := fun σ H Q => te σ H fun y H1 => ∀ d, H1 d = none → Q (.ref C) (some d) (upd H1 d (.xd [(f, y)]))
def tR2 (C : Addr) (f g : Str) (te tu : TE) : L2.St → Hp → XK → Prop := fun σ H Q => te σ H fun y H1 => tu σ H1 fun z H2 => ∀ d, H2 d = none → Q (.ref C) (some d) (upd H2 d (.xd [(g, z), (f, y)]))
section
variable {X : Cx} {x f g : Str} {C : Addr} {e e2 : Expr} {i j : Nat} {q0 pos : Pos}
theorem PMk.imp {e : Expr} {t t' : L2.St → Hp → XK → Prop} (h : PMk X e t) (k : ∀ σ H Q, t' σ H Q → t σ H Q) : PMk X e t' := fun pins s σ H Q I q => h pins s σ H Q I (k σ H Q q)
theorem pmk1 (O : Own1 X.prog X.w X.K X.mg X.base x f C) (hr : Room 2 X.A) (hg : Gl X x) (ha : PA X [e] (tCons (tVar i) tNil)) (hdb : (x == ("__debug__" : Str)) = false := by decide) (he : starEach [e] X.env = (false, eval e X.env) :: starEach [] X.env := by rfl) (hpl : (backTo pos (starEach [] X.env)).any (·.1) = false := by rfl) :
    PMk X (.Call (.Name x q0) [e] [] pos) (tR1 C f (tVar i)) := by
  obtain ⟨fI, fd, ps, iC, tI, F, b⟩ := O.made
  refine PMk.imp (pmk_oex O.ox iC tI F hr b .nil pass0 hg O.gC ha hdb he hpl) fun σ H Q h => ?_
  obtain ⟨y, ey, h⟩ := h
  refine ⟨y, ey, by show 1 ≤ 1000; decide, fun a na => ⟨a, y, rfl, upd_same, fun dx nd ne => ⟨rfl, dx, [(f, y)], upd_same, ?_, ?_, ?_⟩⟩⟩
  · rw [upd_ne ne, upd_same]
  · rw [upd_ne ne] at nd
    exact nd
  · rw [let_go (C := C) na ne]
    rw [upd_ne ne] at nd
    exact h dx nd
theorem pmk2 (O : Own2 X.prog X.w X.K X.mg X.base x f g C) (hr : Room 2 X.A) (hg : Gl X x) (ha : PA X [e, e2] (tCons (tVar i) (tCons (tVar j) tNil))) (hdb : (x == ("__debug__" : Str)) = false := by decide) (he : starEach [e, e2] X.env = (false, eval e X.env) :: starEach [e2] X.env := by rfl) (hpl : (backTo pos (starEach [e2] X.env)).any (·.1) = false := by rfl) :
    PMk X (.Call (.Name x q0) [e, e2] [] pos) (tR2 C f g (tVar i) (tVar j)) := by
  obtain ⟨fI, fd, ps, iC, tI, F, b⟩ := O.made
  refine PMk.imp (pmk_oex O.ox iC tI F hr b .nil pass0 hg O.gC ha hdb he hpl) fun σ H Q h => ?_
  obtain ⟨y, ey, z, ez, h⟩ := h
  refine ⟨y, ey, z, ez, by show 2 ≤ 1000; decide, fun a na => ⟨a, y, z, rfl, upd_same, fun dx nd ne => ⟨rfl, dx, [(g, z), (f, y)], ?_, upd_same, ?_, ?_⟩⟩⟩
  · rw [upd_ne ne.symm, upd_same]
  · rw [upd_ne ne] at nd
    exact nd
  · rw [let_go2 (C := C) na ne]
    rw [upd_ne ne] at nd
    exact h dx nd
theorem pmk0 (O : Own0 X.K X.mg x C) (hg : Gl X x) (hdb : (x == ("__debug__" : Str)) = false := by decide) : PMk X (.Call (.Name x q0) [] [] pos) (fun _ H Q => Q (.ref C) none H) :=
  pmk_bare PySem.F.excBase_ValueError O.ex O.gC O.kC (raises_own O.bC O.tC) hg hdb
end
section
variable {P : Program} {w : World} {K : PySem.W.Frag} {mg : Str → Option Value} {base : Heap}
end
end Fv


set_option Elab.async false
set_option linter.all false
set_option maxRecDepth 100000
set_option maxHeartbeats 4000000
namespace Fv
open PySem PySem.Spec PyProof.Rows L2
abbrev sSets : Stmt := top 25
abbrev sReads : Stmt := top 26
def neE (y : Str) : Bool := decide (y ≠ "")
def readsOf (d : PyData) : List Str := dedup (((partsOf d).map srcS).filter neE)
theorem Dq.row_of {K : PySem.W.Frag} {H : Hp} {b : Addr} {v : V} {d : PyData} (h : Dq H b v d) (e : rowD d = true) : ∃ a xs ds, v = .ref a ∧ (d = .tuple ds ∨ d = .list ds) ∧ (SqL K H a xs ∨ SqT K H a xs) ∧ DqAll H b xs ds := by
  cases h with
  | tup e1 n h => exact ⟨_, _, _, rfl, .inl rfl, .inr (SqT.of e1), h⟩
  | lst e1 n m h => exact ⟨_, _, _, rfl, .inr rfl, .inl (SqL.of e1), h⟩
  | _ => cases e
theorem DqAll.names {H : Hp} {b : Addr} : ∀ {xs : List V} {ds : List PyData}, DqAll H b xs ds → ds.all nameD = true → xs = (ds.map strS).map V.str
  | _, _, .nil, _ => rfl
  | _, _, .cons h t, e => by
    rw [List.all_cons, Bool.and_eq_true] at e
    obtain ⟨z, rfl⟩ := name_str e.1
    cases h
    rw [t.names e.2]
    rfl
theorem Dq.pair {H : Hp} {b : Addr} {x : V} {y : Str} {c : Int} (g : Dq H b x (.tuple [.str y, .int c])) : ∃ a, x = .ref a ∧ a ≠ b ∧ H a = some (.tup [.str y, .int c]) := by
  obtain ⟨a, xs, ds, rfl, n, ee, e1, hx⟩ := g.tup_of rfl
  cases ee
  obtain ⟨v1, v2, rfl⟩ := two_of hx.len
  obtain ⟨_, _, ee, g1, g2⟩ := hx.two
  cases ee
  cases g1
  cases g2
  exact ⟨a, rfl, n, e1⟩
theorem Dq.trip {H : Hp} {b : Addr} {x : V} {z y : Str} {c : Int} (g : Dq H b x (.tuple [.str z, .str y, .int c])) : ∃ a, x = .ref a ∧ a ≠ b ∧ H a = some (.tup [.str z, .str y, .int c]) := by
  obtain ⟨a, xs, ds, rfl, n, ee, e1, hx⟩ := g.tup_of rfl
  cases ee
  obtain ⟨v1, v2, v3, rfl⟩ := three_of hx.len
  obtain ⟨_, _, _, ee, g1, g2, g3⟩ := hx.three
  cases ee
  cases g1
  cases g2
  cases g3
  exact ⟨a, rfl, n, e1⟩
theorem sets_all {d : PyData} (h : setsD d = true) : (itemsD d).all tripD = true := by
  unfold setsD at h
  rw [Bool.and_eq_true, Bool.and_eq_true] at h
  exact h.1.2
theorem row_names {d : PyData} (h : namesD d = true) : rowD d = true ∧ (itemsD d).all nameD = true := by
  unfold namesD at h
  rw [Bool.and_eq_true, Bool.and_eq_true] at h
  exact h.1
theorem items_len {d : PyData} (h : okD d) : (itemsD d).length ≤ 60 := by
  cases d <;> first | exact Nat.zero_le _ | exact h.1
def spSetsOf : Sp := fun vs H Q _ => ∃ (b : Addr) (v : V) (d : PyData), vs = [v] ∧ Dq H b v d ∧ okD d ∧ stD d = true ∧
  ∀ (H' : Hp) (p : Addr) (ys : List Str), Same H H' → H p = none → p ≠ sysModules → ys.Perm (setsOf d) → sortedS ys = true → H' p = some (.lst (ys.map V.str)) → Q (.ref p) H'
section
variable {P : Program} {w : World} {K : PySem.W.Frag} {mg : Str → Option Value} {base : Heap} {C : Addr}
theorem scSe : FnScope ["statement", "word", "part"] ["statement"] (defScope sSets) := ⟨rfl, rfl, rfl, by decide +kernel, rfl, by decide +kernel, by decide +kernel⟩
theorem ok_sets {f : Addr} {fd : FuncData} (F : Fun K "sets" "sets" sSets f fd) (mo : mg "sorted" = none) : FnOk P w K mg base CX0 1 f fd ["statement"] spSetsOf := by
  refine F.ok scSe (fun vs H Q E h => ?_) (fun cdv A outer s H vs Q E hr h => ?_)
  · obtain ⟨b, v, d, rfl, _⟩ := h
    rfl
  · obtain ⟨b, v, d, rfl, hd, hs, hst, q⟩ := h
    refine ⟨_, pss_cons (ps_set (i := 1) scSe.nd rfl (.inl rfl) (pe_ix ix_tup (pv 0) pe_int (fun _ _ => rfl)))
      (pss_cons (ps_if (pt_cmpR op_eq (pv 1) pe_str (nomark _)) (pss_one (ps_ret (pe_lstB pa_nil))) pss_nil)
      (pss_cons (ps_if (pt_cmpR op_eq (pv 1) pe_str (nomark _)) (pss_one (ps_ret (pe_callB (r := rSortB K) call_sortB (by rfl) mo (by decide +kernel) (pa_cons
          (pe_lc (own := [("part", 2)]) (g := gName 2) (tt := tYes) rfl scSe.nd (pi_rowIx (pe_ix ix_tup (pv 0) pe_int (fun _ _ => rfl))) (blkOk_by (N := ["statement", "word", "part"]) (sc := defScope sSets) (by decide +kernel))
            (fun _ _ _ _ _ => pg_name (i := 2) scSe.nd rfl (Or.inl rfl)) (fun _ _ _ _ _ => pts_nil) (fun _ _ _ _ _ => pe_ix (r := rIxT K) ix_tup (pv 2) pe_int (fun _ _ => rfl))) pa_nil)))) pss_nil)
      (pss_cons (ps_if (pt_cmpR op_eq (pv 1) pe_str (nomark _)) (pss_one (ps_ret (pe_callB (r := rSortB K) call_sortB (by rfl) mo (by decide +kernel) (pa_cons (pe_ix ix_tup (pv 0) pe_int (fun _ _ => rfl)) pa_nil)))) pss_nil)
      (pss_one (ps_ret (pe_lstB (pa_cons (pe_ix ix_tup (pv 0) pe_int (fun _ _ => rfl)) pa_nil))))))), ?_⟩
    obtain ⟨a, xs, ds, rfl, ab, ed, e1, hx⟩ := hd.tup_of (st_tup hst)
    have sh := st_shape hst
    cases sh with
    | skip =>
      cases ed
      obtain ⟨x0, rfl⟩ := one_of hx.len
      obtain ⟨_, ee, h0⟩ := hx.one
      cases ee
      cases h0
      refine ⟨_, rfl, a, _, _, _, rfl, rfl, SqT.of e1, atI_nat (j := 0) rfl, ?_⟩
      refine ⟨_, rfl, rfl, _, rfl, ?_⟩
      exact ⟨Nat.zero_le _, fun p np wp => q _ p [] (same_upd np) np wp (List.Perm.refl _) rfl upd_same⟩
    | @set zp hp =>
      cases ed
      obtain ⟨x0, x1, rfl⟩ := two_of hx.len
      obtain ⟨_, _, ee, h0, g1⟩ := hx.two
      cases ee
      cases h0
      have hk : okD zp := hs.2.2.1
      obtain ⟨ap, ys, items, rfl, hdd, hrow, hy⟩ := g1.row_of (K := K) (row_sets hp)
      have ei := rows_items hdd
      have hall := sets_all hp
      rw [ei] at hall
      have hl := (rows_ok hdd hk).1
      have hlen := hy.len
      refine ⟨_, rfl, a, _, _, _, rfl, rfl, SqT.of e1, atI_nat (j := 0) rfl, ?_⟩
      refine ⟨_, rfl, rfl, _, rfl, ?_⟩
      refine ⟨_, rfl, rfl, _, rfl, ?_⟩
      refine ⟨_, rfl, a, _, _, _, rfl, rfl, SqT.of e1, atI_nat (j := 1) rfl, ap, ys, rfl, hrow, fun J G wk hG D hD => ?_⟩
      refine lc_it wk (fun i H' => Same H H' ∧ H' D = some (.lst (((items.take i).map headS).map V.str))) ⟨same_upd hD, upd_same⟩ (fun i H' _ h => hG H' h.1) ?_ ?_
      · rintro i x H' H2 hi ⟨s', e'⟩ ⟨rfl, hxi⟩
        obtain ⟨dx, hdi, hdx⟩ := hy.at_ hxi
        obtain ⟨zx, zy, zc, rfl⟩ := trip_shape (List.all_eq_true.mp hall dx (List.mem_of_getElem? hdi))
        obtain ⟨at_, rfl, _, e4⟩ := hdx.trip
        refine ⟨rfl, _, rfl, at_, _, _, _, rfl, rfl, SqT.of (s' _ _ e4), atI_nat (j := 0) rfl, _, e', ?_, fun c o e => ?_, ?_⟩
        · rw [List.length_map, List.length_map, List.length_take]
          exact small60 (by omega)
        · rw [upd_ne (ne_of_none e hD)]
          exact s' c o e
        · rw [upd_same, take_map_snoc hdi, List.map_append]
          rfl
      · rintro H2 ⟨s2, e2⟩
        rw [hlen, List.take_length] at e2
        refine ⟨D, items.map headS, rfl, .inl (SqL.of e2), by rw [List.length_map]; omega, fun zs p perm srt np wp => ?_⟩
        refine q _ p zs (s2.trans (same_upd np)) (none_back s2 np) wp ?_ srt upd_same
        show zs.Perm ((itemsD zp).map headS)
        rw [ei]
        exact perm
    | @most zw zx zp hw h2 h3 h4 =>
      cases ed
      obtain ⟨x0, x1, x2, rfl⟩ := three_of hx.len
      obtain ⟨_, _, _, ee, h0, g1, g2⟩ := hx.three
      cases ee
      cases h0
      cases g1
      have n1 : decide (V.str zw = V.str "skip") = false := by
        rw [str_dec]
        rcases hw with rfl | rfl <;> decide +kernel
      have n2 : decide (V.str zw = V.str "set") = false := by
        rw [str_dec]
        rcases hw with rfl | rfl <;> decide +kernel
      have n3 : decide (V.str zw = V.str "call") = false := by
        rw [str_dec]
        rcases hw with rfl | rfl <;> decide +kernel
      refine ⟨_, rfl, a, _, _, _, rfl, rfl, SqT.of e1, atI_nat (j := 0) rfl, ?_⟩
      refine ⟨_, rfl, rfl, _, rfl, ?_⟩
      rw [n1]
      refine iteF ⟨_, rfl, rfl, _, rfl, ?_⟩
      rw [n2]
      refine iteF ⟨_, rfl, rfl, _, rfl, ?_⟩
      rw [n3]
      refine iteF ⟨_, rfl, a, _, _, _, rfl, rfl, SqT.of e1, atI_nat (j := 1) rfl, by show 1 ≤ sizeLine; decide, fun p np wp => ?_⟩
      exact q _ p [zx] (same_upd np) np wp (List.Perm.refl _) rfl upd_same
    | @call zx zp zr h2 h3 h4 =>
      cases ed
      obtain ⟨x0, xr, rfl⟩ : ∃ x0 xr, xs = x0 :: xr := by
        cases xs with
        | nil => cases hx
        | cons x xs => exact ⟨_, _, rfl⟩
      cases hx with
      | cons h0 hx =>
        cases h0
        obtain ⟨x1, x2, x3, rfl⟩ := three_of hx.len
        obtain ⟨_, _, _, ee, g1, g2, g3⟩ := hx.three
        cases ee
        have hk : okD zr := hs.2.2.2.2.1
        obtain ⟨hrw, hall⟩ := row_names h4
        obtain ⟨ap, ys, items, rfl, hdd, hrow, hy⟩ := g3.row_of (K := K) hrw
        have ei := rows_items hdd
        rw [ei] at hall
        have hl := (rows_ok hdd hk).1
        obtain rfl := hy.names hall
        refine ⟨_, rfl, a, _, _, _, rfl, rfl, SqT.of e1, atI_nat (j := 0) rfl, ?_⟩
        refine ⟨_, rfl, rfl, _, rfl, ?_⟩
        refine ⟨_, rfl, rfl, _, rfl, ?_⟩
        refine ⟨_, rfl, rfl, _, rfl, ?_⟩
        refine ⟨_, rfl, a, _, _, _, rfl, rfl, SqT.of e1, atI_nat (j := 3) rfl, ap, items.map strS, rfl, hrow, by rw [List.length_map]; omega, fun zs p perm srt np wp => ?_⟩
        refine q _ p zs (same_upd np) np wp ?_ srt upd_same
        show zs.Perm ((itemsD zr).map strS)
        rw [ei]
        exact perm
/-! ### reads, numbers -/
def spReads : Sp := fun vs H Q _ => ∃ (b : Addr) (v : V) (d : PyData), vs = [v] ∧ Dq H b v d ∧ okD d ∧ stD d = true ∧ (∃ o, H b = some o) ∧
  ∀ (H' : Hp) (p : Addr) (ys : List Str), Same H H' → H p = none → p ≠ sysModules → ys.Perm (readsOf d) → sortedS ys = true → H' p = some (.lst (ys.map V.str)) → Q (.ref p) H'
theorem scRe : FnScope ["statement", "part"] ["statement"] (defScope sReads) := ⟨rfl, rfl, rfl, by decide +kernel, rfl, by decide +kernel, by decide +kernel⟩
theorem filter_snoc {α : Type} (p : α → Bool) (l : List α) (x : α) : (l ++ [x]).filter p = l.filter p ++ (if p x = true then [x] else []) := by
  rw [List.filter_append]
  cases e : p x <;> simp [e]
theorem ok_reads {f fP : Addr} {fd fdP : FuncData} (F : Fun K "reads" "reads" sReads f fd) (GP : FnOk P w K mg base CX0 1 fP fdP ["statement"] (spParts K C)) (bP : Binds K fdP ["statement"] []) (mP : mg "_parts" = some (.ref fP)) (kP : PySem.W.keepIn K (.ref fP) = true) (mo : mg "sorted" = none) :
    FnOk P w K mg base CX0 2 f fd ["statement"] spReads := by
  refine F.ok scRe (fun vs H Q E h => ?_) (fun cdv A outer s H vs Q E hr h => ?_)
  · obtain ⟨b, v, d, rfl, _⟩ := h
    rfl
  · obtain ⟨b, v, d, rfl, hd, hs, hst, hb, q⟩ := h
    refine ⟨_, pss_one (ps_ret (pe_callB (r := rSortX P w) (call_sortX rfl) (by rfl) mo (by decide +kernel) (pa_cons
      (pe_scX (own := [("part", 1)]) (g := gName 1) rfl scRe.nd (pi_tup (pe_call GP hr (by rfl) mP kP bP .nil pass0 (pa_cons (pv 0) pa_nil))) (blkOk_by (N := ["statement", "part"]) (sc := defScope sReads) (by decide +kernel))
        (fun _ _ _ _ _ => pg_name (i := 1) scRe.nd rfl (Or.inl rfl)) (fun _ _ _ _ _ => pts_one (pt_cmpR op_ne (pe_ix (r := rIxT K) ix_tup (pv 1) (pe_un un_neg pe_int) (fun _ _ => rfl)) pe_str (nomark _)))
        (fun _ _ _ _ _ => pe_ix (r := rIxT K) ix_tup (pv 1) (pe_un un_neg pe_int) (fun _ _ => rfl))) pa_nil))), ?_⟩
    refine ⟨_, rfl, b, v, d, rfl, hd.x, hs, hst, hb, fun H1 p xs s1 pb hp hx => ⟨p, rfl, ⟨xs, hp⟩, fun D hD => ?_⟩⟩
    have hlen := hx.len
    have hl := parts_len hs hst
    refine sc_it (walk_tup (K := K) (a := p) (xs := xs)) (fun i H' => Same H1 H' ∧ H' D = some (TxtO P w D (dedup ((((partsOf d).take i).map srcS).filter neE)))) ⟨same_upd hD, upd_same⟩ (fun i H' _ h => hp.same h.1) ?_ ?_
    · rintro i x H' H2 hi ⟨s', e'⟩ ⟨rfl, hxi⟩
      obtain ⟨e, hdi, hdx⟩ := hx.get hxi
      obtain ⟨a, ys, rfl, e1, l1, l2⟩ := part_last hst (List.mem_of_getElem? hdi) hdx
      have e1' := s' _ _ e1
      refine ⟨rfl, _, rfl, 2, rfl, a, ys, -2, _, rfl, rfl, SqT.of e1', l2, rfl, _, rfl, ?_⟩
      have tk : (((partsOf d).take (i + 1)).map srcS).filter neE = (((partsOf d).take i).map srcS).filter neE ++ (if neE (srcS e) = true then [srcS e] else []) := by
        rw [take_map_snoc hdi, filter_snoc]
      by_cases hz : srcS e = ""
      · rw [show (!decide (V.str (srcS e) = V.str "")) = false from by rw [str_dec, decide_eq_true hz]; rfl]
        refine iteF ⟨s', ?_⟩
        rw [tk, if_neg (by unfold neE; simpa using hz), List.append_nil]
        exact e'
      · rw [show (!decide (V.str (srcS e) = V.str "")) = true from by rw [str_dec, decide_eq_false hz]; rfl]
        refine iteT ⟨_, rfl, 2, rfl, a, ys, -2, _, rfl, rfl, SqT.of e1', l2, srcS e, _, rfl, e', ?_, fun c o e => ?_, ?_⟩
        · refine scan4096 (Nat.le_trans (dedup_le _) (Nat.le_trans (List.length_filter_le _ _) ?_))
          rw [List.length_map, List.length_take]
          omega
        · rw [upd_ne (ne_of_none e hD)]
          exact s' c o e
        · rw [upd_same, tk, if_pos (by unfold neE; simpa using hz), dedup_snoc]
          rfl
    · rintro H2 ⟨s2, e2⟩
      rw [hlen, List.take_length] at e2
      refine ⟨D, _, rfl, e2, ?_, fun zs r perm srt nr wr => ?_⟩
      · have := Nat.le_trans (dedup_le (((partsOf d).map srcS).filter neE)) (List.length_filter_le _ _)
        rw [List.length_map] at this
        omega
      · exact q _ r zs ((s1.trans s2).trans (same_upd nr)) (none_back (s1.trans s2) nr) wr perm srt upd_same
end
end Fv


set_option Elab.async false
set_option linter.all false
set_option maxRecDepth 100000
set_option maxHeartbeats 2000000
/-! y = {k: v for ..}, y a local -/
namespace Fv
open PySem PySem.Spec PyProof.Rows L2
theorem swD_true {kx vx : Expr} {gs : List Comprehension} {scope : Scope} {pos py : Pos} {y : PySem.Str} {l : Nat} {env : Env}
    (h1 : env.scope.kind = ScopeKind.function) (h2 : env.scope.names.lookup y = some NameKind.local) (h3 : (py.line == pos.line) = true)
    (h4 : (scope.names.any fun x => match x with | (n, k) => n == y && (k == NameKind.local || k == NameKind.cell)) = false) : swapsWith (kx.DictComp vx gs scope pos) (some (.Name y py)) l env = pure true := by
  have := sw_true (elt := kx) (gs := gs) (l := l) h1 h2 h3 h4
  unfold swapsWith at this ⊢
  exact this
section
variable {X : Cx}
theorem ps_setDc {i : Nat} {y : PySem.Str} {py : Pos} {kx vx tg iter : Expr} {ifs : List Expr} {scope : Scope} {own : List (PySem.Str × Nat)} {pos spos : Pos} {wi : TI} {g : TG} {tt : TT} {tk tv : TE} (hc : X.calm = true) (hN : X.N.Nodup)
    (hy : X.N[i]? = some y) (hl : X.env.scope.names.lookup y = some NameKind.local) (hsw : swapsWith (kx.DictComp vx [⟨tg, iter, ifs, 0⟩] scope pos) (some (.Name y py)) spos.line X.env = pure true) (hi : PI X tg iter wi) (ok : BlkOk X.N X.env.scope scope own)
    (hg : ∀ (s : Shared) (H : Hp) (C : Addr) (cl : List (PySem.Str × Addr)) (fp : List Addr), PG (X.blk s H scope (compEnvC scope cl C X.env) fp) tg g) (ht : ∀ (s : Shared) (H : Hp) (C : Addr) (cl : List (PySem.Str × Addr)) (fp : List Addr), PTs (X.blk s H scope (compEnvC scope cl C X.env) fp) ifs tt)
    (hk : ∀ (s : Shared) (H : Hp) (C : Addr) (cl : List (PySem.Str × Addr)) (fp : List Addr), PE (X.blk s H scope (compEnvC scope cl C X.env) fp) kx tk) (hv : ∀ (s : Shared) (H : Hp) (C : Addr) (cl : List (PySem.Str × Addr)) (fp : List Addr), PE (X.blk s H scope (compEnvC scope cl C X.env) fp) vx tv)
    (hs : ∀ x, foldedSetIterable iter X.env x = pure x := by intro _; rfl) :
    PS X (.Assign [.Name y py] (.DictComp kx vx [⟨tg, iter, ifs, 0⟩] scope pos) spos) (tAsg (tDc wi g tt tk tv (own.map (·.2))) (gName i)) := by
  refine ⟨fun pins s σ H D I h => ?_⟩
  rw [exec_Assign_arm]
  refine wpAny_bind (wpAny_standAt (wpAny_bind (wpAny_of_eq (a := true) hsw ?_)))
  rw [if_pos rfl]
  refine wpAny_bind ?_
  rw [evalThenUse]
  refine wpAny_bind (wpAny_mono (dc_core (pos' := firstIterPos [⟨tg, iter, ifs, 0⟩] pos) (Qf := fun _ s' => SP X pins D .next s') hc hN I hi ok hg ht hk hv hs h fun C0 C s' m H' I' q hn fp => ?_) (fun v s' z => wpAny_pure (wpAny_pure z)) fun _ _ z => z)
  obtain ⟨o, es, ep, ho, hd⟩ := id hn
  have P' := I'.pinned (fp := [C]) (fun b hb => by rw [List.mem_singleton.mp hb]; exact fp) (fun b hb => by
    rw [List.mem_singleton.mp hb]
    exact ⟨o, ho, fun v e => by rw [hd.1] at e; cases e⟩)
  have mem : (C, o) ∈ pinsAt [C] s'.heap := mem_pinsAt List.mem_cons_self ho
  refine wpAny_mono ((pg_name (pos := py) hN hy (.inl hl) (.inr hl)).run _ s' σ H' (.ref C0) (.ref C0) (fun σ1 H1 => H1 = H' ∧ D.nx σ1 H1) P' rfl ⟨rfl, q⟩) (fun _ s'' z => ?_) fun _ _ z => z
  obtain ⟨σ1, H1, J, rfl, q1⟩ := z
  have z := J.pin (C, o) (List.mem_append_right _ (List.mem_append_right _ mem))
  obtain ⟨f0, f1, f2, f3, f4, f5⟩ := fp
  refine ⟨m, ⟨o, es, ep, z.1, hd⟩, fun h' sb => ?_⟩
  exact ⟨σ1, H1, J.unpinned.turned (t' := s''.toks) (fun b o hb e => (sb.2 b hb).trans e) f0 f1 f3 f4 f5, q1⟩
end
theorem dc_it {J : It} {n : Nat} {G : Hp → Prop} {Y : Nat → Hp → V → Hp → Prop} (wk : Walk J n G Y) {g : TG} {tt : TT} {tk tv : TE} {vs : List Nat} {σ : L2.St} {H1 : Hp} {D : Addr} {Qd : Hp → Prop} (Pv : Nat → Hp → Prop) (h0 : Pv 0 (upd H1 D (.dK []))) (hG : ∀ i H, i ≤ n → Pv i H → G H)
    (hs : ∀ i x H H', i < n → Pv i H → Y i H x H' → g x (wipe σ vs) H' fun σ2 H2 => wipe σ2 vs = wipe σ vs ∧ tt σ2 H2 fun b H3 =>
      if b = true then tk σ2 H3 fun y H4 => tv σ2 H4 fun z H5 => ∃ (kvs : List (Key × V)) (k : Key), y = kV k ∧ H5 D = some (.dK kvs) ∧ kvs.length < sizeLine ∧ Pv (i + 1) (upd H5 D (.dK (putK kvs k z))) else Pv (i + 1) H3) (hd : ∀ H, Pv n H → Qd H) :
    ∃ W : Nat → Nat → Hp → Prop, (∃ m, W 0 m (upd H1 D (.dK []))) ∧ ∀ i m H, W i m H →
      (J.stop i H ∧ Qd H) ∨ (J.go i H ∧ ∃ Nx : Hp → Prop, (∀ H', Nx H' → ∃ m', m' < m ∧ W (i + 1) m' H') ∧ ∀ x H', J.yld i H x H' → g x (wipe σ vs) H' fun σ2 H2 => wipe σ2 vs = wipe σ vs ∧ tt σ2 H2 fun b H3 =>
        if b = true then tk σ2 H3 fun y H4 => tv σ2 H4 fun z H5 => ∃ (kvs : List (Key × V)) (k : Key), y = kV k ∧ H5 D = some (.dK kvs) ∧ kvs.length < sizeLine ∧ Nx (upd H5 D (.dK (putK kvs k z))) else Nx H3) := by
  refine ⟨fun i m H => m + i = n ∧ Pv i H, ⟨n, rfl, h0⟩, fun i m H ⟨hm, p⟩ => ?_⟩
  rcases Nat.lt_or_ge i n with hlt | hge
  · exact .inr ⟨wk.goes i H hlt (hG i H (Nat.le_of_lt hlt) p), Pv (i + 1), fun H' p' => ⟨n - (i + 1), by omega, by omega, p'⟩, fun x H' y => hs i x H H' hlt p (wk.yields i H x H' hlt (hG i H (Nat.le_of_lt hlt) p) y)⟩
  · obtain rfl : i = n := by omega
    exact .inl ⟨wk.stops H (hG i H hge p), hd H p⟩
end Fv


set_option Elab.async false
set_option linter.all false
set_option maxRecDepth 100000
set_option maxHeartbeats 4000000
/-! zip over a tuple and a list -/
namespace Fv
open PySem PySem.Spec PyProof.Rows L2
abbrev mz1 (h : Heap) (a : Addr) : Heap := h.push { cls := .type "tuple_iterator", data := .fields #[.ref a, .int 0 0] }
abbrev mz2 (h : Heap) (a b : Addr) : Heap := (mz1 h a).push { cls := .type "list_iterator", data := .fields #[.ref b, .int 0 0] }
abbrev mz3 (h : Heap) (a b : Addr) : Heap := (mz2 h a b).push { cls := .type "tuple", data := .seq #[.ref h.objs.size, .ref (mz1 h a).objs.size] }
abbrev mz4 (h : Heap) (a b : Addr) : Heap := (mz3 h a b).push { cls := .type "tuple", data := .seq #[.none, .none] }
abbrev mz5 (h : Heap) (a b : Addr) : Heap := (mz4 h a b).push { cls := .type "zip", data := .fields #[.none, .bool false, .bool false, .ref (mz2 h a b).objs.size, .ref (mz3 h a b).objs.size] }
theorem mz_new (a b : Addr) (us vs : Array Value) : Meets (Builtin.«zip.__new__» ⟨[.type "zip", .ref a, .ref b], []⟩) (fun _ R s => s.heap.IsTuple a us ∧ s.heap.IsList b vs ∧
    R (.ok (.ret (.ref (mz4 s.heap a b).objs.size))) { s with heap := mz5 s.heap a b }) :=
  .of_wp fun prog w A R s hh => by
    obtain ⟨hp, g, d, tk, os⟩ := s
    obtain ⟨ha, hb, h⟩ := hh
    have hsub := sub_zip
    have h1 : Heap.IsTuple (Shared.heap ⟨hp, g, d, tk, os⟩) a us := ha
    have h2 : Heap.IsList (Shared.heap ⟨hp.push { cls := .type "tuple_iterator", data := .fields #[.ref a, .int 0 0] }, g, d, tk, os⟩) b vs := Heap.IsList.push hb _
    wp_walk using wpAny_pyIter_tuple h1, wpAny_pyIter_list h2
    exact ⟨_, rfl, h⟩
theorem call_mz {prog : Program} {w : World} {A : Around} {E : Value → Shared → Prop} {s : Shared} {a b : Addr} {us vs : Array Value} {Q : Value → Shared → Prop} (ha : s.heap.IsTuple a us) (hb : s.heap.IsList b vs)
    (k : ∀ h', IsZip h' (s.heap.objs.size + 4) (s.heap.objs.size + 2) (s.heap.objs.size + 3) .none → IsTupOf2 h' (s.heap.objs.size + 2) (.ref s.heap.objs.size) (.ref (s.heap.objs.size + 1)) → IsTupOf2 h' (s.heap.objs.size + 3) .none .none →
      h'.IsTupleIter s.heap.objs.size a 0 → h'.IsListIter (s.heap.objs.size + 1) b 0 → (∀ c o, s.heap.get? c = some o → h'.get? c = some o) → Q (.ref (s.heap.objs.size + 4)) { s with heap := h' }) :
    wpAny (model prog w) A (call (.type "zip") [.ref a, .ref b]) Q E s := by
  refine callType_new F.called_zip (by decide) (F.typeCall_zip_2 _ _) (F.newCall_zip_2 _ _) (fun obj => F.args_object_init_3 obj _ _) F.entry_zip_new (mz_new a b us vs) ⟨ha, hb, ?_⟩
  have n1 : (mz1 s.heap a).objs.size = s.heap.objs.size + 1 := Heap.size_push ..
  have n2 : (mz2 s.heap a b).objs.size = s.heap.objs.size + 2 := (Heap.size_push ..).trans (by rw [n1])
  have n3 : (mz3 s.heap a b).objs.size = s.heap.objs.size + 3 := (Heap.size_push ..).trans (by rw [n2])
  have n4 : (mz4 s.heap a b).objs.size = s.heap.objs.size + 4 := (Heap.size_push ..).trans (by rw [n3])
  have up : ∀ {h : Heap} {c : Addr} {o u : Obj}, h.get? c = some o → (h.push u).get? c = some o := fun e => Heap.get?_push_of_some _ e
  have g5 : (mz5 s.heap a b).get? (mz4 s.heap a b).objs.size = some _ := Heap.get?_push_size _ rfl
  have g4 : (mz5 s.heap a b).get? (mz3 s.heap a b).objs.size = some _ := up (Heap.get?_push_size _ rfl)
  have g3 : (mz5 s.heap a b).get? (mz2 s.heap a b).objs.size = some _ := up (up (Heap.get?_push_size _ rfl))
  have g2 : (mz5 s.heap a b).get? (mz1 s.heap a).objs.size = some _ := up (up (up (Heap.get?_push_size _ rfl)))
  have g1 : (mz5 s.heap a b).get? s.heap.objs.size = some _ := up (up (up (up (Heap.get?_push_size _ rfl))))
  show _ ∧ _
  rw [n2, n3, n4] at g5
  rw [n1, n2] at g3
  rw [n3] at g4
  rw [n1] at g2
  rw [n4]
  exact ⟨⟨_, g5, rfl⟩, k _ g5 g3 g4 ⟨_, g1, rfl, rfl⟩ ⟨_, g2, rfl, rfl⟩ fun c o x => up (up (up (up (up x))))⟩
theorem apart_tup {h : Heap} {i a : Addr} {k : Nat} {us : Array Value} (hi : h.IsTupleIter i a k) (ha : h.IsTuple a us) : a ≠ i := fun e => by
  obtain ⟨o1, e1, c1, _⟩ := hi
  obtain ⟨o2, e2, c2, _⟩ := ha
  rw [e, e1] at e2
  cases e2
  rw [c1] at c2
  simp at c2
theorem apart_lst {h : Heap} {i a : Addr} {k : Nat} {us : Array Value} (hi : h.IsListIter i a k) (ha : h.IsList a us) : a ≠ i := fun e => by
  obtain ⟨o1, e1, c1, _⟩ := hi
  obtain ⟨o2, e2, c2, _⟩ := ha
  rw [e, e1] at e2
  cases e2
  rw [c1] at c2
  simp at c2
/-- the tuple at a and the list at b as they stand at each turn, their items in new pairs -/
def Izm (K : PySem.W.Frag) (a b : Addr) : It :=
  ⟨fun i H => ∃ (xs ys : List V) (x y : V), SqT K H a xs ∧ SqL K H b ys ∧ xs[i]? = some x ∧ ys[i]? = some y,
    fun i H v H' => ∃ T x y, v = .ref T ∧ H T = none ∧ H' = upd H T (.tup [x, y]) ∧ (∀ xs, SqT K H a xs → xs[i]? = some x) ∧ ∀ ys, SqL K H b ys → ys[i]? = some y,
    fun i H => ∃ xs ys : List V, SqT K H a xs ∧ SqL K H b ys ∧ i ≤ xs.length ∧ i ≤ ys.length ∧ (i = xs.length ∨ i = ys.length)⟩
theorem turn_mz {P : Program} {w : World} {K : PySem.W.Frag} {elts : List Expr} {kk : Nat} {tpos : Pos} {a b z ti to i1 i2 : Addr} (S : ZipSep2 z ti to i1 i2 [i1, a] [i2, b]) :
    Turn P w K (.Tuple elts kk tpos) (Izm K a b) [z, ti, to, i1, i2] z (fun i h => IsZip h z ti to .none ∧ IsTupOf2 h ti (.ref i1) (.ref i2) ∧ (∃ x y, IsTupOf2 h to x y) ∧ h.IsTupleIter i1 a i ∧ h.IsListIter i2 b i) where
  mem := by simp
  obj := fun i h st c hc => by
    obtain ⟨pz, pi, ⟨x, y, po⟩, ⟨o1, e1, _, d1⟩, ⟨o2, e2, _, d2⟩⟩ := st
    rcases (show c = z ∨ c = ti ∨ c = to ∨ c = i1 ∨ c = i2 by simpa using hc) with rfl | rfl | rfl | rfl | rfl
    · exact ⟨_, pz, fun v q => nomatch q⟩
    · exact ⟨_, pi, fun v q => nomatch q⟩
    · exact ⟨_, po, fun v q => nomatch q⟩
    · exact ⟨o1, e1, fun v q => by rw [d1] at q; cases q⟩
    · exact ⟨o2, e2, fun v q => by rw [d2] at q; cases q⟩
  keep := fun i h h' st k => by
    obtain ⟨pz, pi, ⟨x, y, po⟩, h1, h2⟩ := st
    exact ⟨k z (by simp) _ pz, k ti (by simp) _ pi, ⟨x, y, k to (by simp) _ po⟩, h1.at fun o q => k i1 (by simp) o q, h2.at fun o q => k i2 (by simp) o q⟩
  item := by
    intro X hP hw hK hc i pins s σ H E I hf st hg
    subst hP hw hK
    obtain ⟨pz, pi, ⟨x0, y0, po⟩, h1, h2⟩ := st
    obtain ⟨xs, ys, x, y, qx, qy, hx, hy⟩ := hg
    obtain ⟨us, rv, p, _⟩ := I.tuple qx
    obtain ⟨vs, rv2, p2, _⟩ := I.list qy
    have pa : s.heap.IsTuple a us.toArray := p
    obtain ⟨u, hu, ru⟩ := rv.get hx
    obtain ⟨u2, hu2, ru2⟩ := rv2.get hy
    have lt1 : i < us.toArray.size := by
      have := (List.getElem?_eq_some_iff.mp hu).1
      simpa using this
    have lt2 : i < vs.toArray.size := by
      have := (List.getElem?_eq_some_iff.mp hu2).1
      simpa using this
    have lz : z < s.heap.objs.size := Heap.lt_size pz
    have na : a ≠ i1 := apart_tup h1 pa
    have nb : b ≠ i2 := apart_lst h2 p2.isList
    refine wpAny_pyNext_zipD2_item S (draws_tup (A := X.A.in1) (I.ok.hd hc) i1 a na us.toArray) (Draws.list (A := X.A.in1) (I.ok.hd hc) i2 b nb vs.toArray) pz pi po ⟨h1, pa⟩ ⟨h2, p2.isList⟩ lt1 lt2 fun y1 y2 h' tk r1 r2 z' to' s1' s2' hT hsz hk => ?_
    have e1 : y1 = u := by
      have : some u = some y1 := hu.symm.trans (by simpa using r1)
      exact (Option.some.inj this).symm
    have e2 : y2 = u2 := by
      have : some u2 = some y2 := hu2.symm.trans (by simpa using r2)
      exact (Option.some.inj this).symm
    subst e1 e2
    refine ⟨_, rfl, wpAny_letOwnedTupleGo_zip (s := { s with heap := h', toks := tk }) z' fun h'' z'' sb => ?_⟩
    have hT2 : h''.get? s.heap.objs.size = some { cls := .type "tuple", data := .seq #[y1, y2] } := (sb.2 _ (Nat.ne_of_gt lz)).trans hT
    have ok : ObjOk X.prog X.w (upd H s.heap.objs.size (.tup [x, y])) h'' s.heap.objs.size (.tup [x, y]) := ⟨by show 2 ≤ sizeLine; decide, [y1, y2], .cons ru (.cons ru2 .nil), ⟨_, hT2, rfl, _, rfl⟩⟩
    have kk : ∀ c o, c ∉ [z, ti, to, i1, i2] → s.heap.get? c = some o → h''.get? c = some o := fun c o hb q => (sb.2 c (fun q' => hb (by simp [q']))).trans (hk c o (fun q' => hb (by simp [q'])) (fun q' => hb (by simp [q'])) (fun q' => hb (by simp [q'])) (fun q' => hb (by simp [q'])) q)
    have I1 : Inv X pins σ (upd H s.heap.objs.size (.tup [x, y])) { s with heap := h'', toks := tk } := I.turnedNew (ch := [z, ti, to, i1, i2]) kk hf (Nat.le_refl _) ok
    refine ⟨.ref s.heap.objs.size, _, I1, rfl, ⟨_, x, y, rfl, I.hok.fresh (Nat.le_refl _), rfl, fun l hl => by rw [I.tuple_inj hl qx]; exact hx, fun l hl => by rw [I.list_inj hl qy]; exact hy⟩, ⟨z'', ?_, ⟨y1, y2, ?_⟩, ?_, ?_⟩, fun c hcm => ?_⟩
    · exact (sb.2 _ S.TIz).trans (hk _ _ S.TIz S.TITO S.TIi1 S.TIi2 pi)
    · exact (sb.2 _ S.TOz).trans to'
    · exact s1'.1.at fun o q => (sb.2 _ S.zi1.symm).trans q
    · exact s2'.1.at fun o q => (sb.2 _ S.zi2.symm).trans q
    · have lc : c < s.heap.objs.size := by
        rcases (show c = z ∨ c = ti ∨ c = to ∨ c = i1 ∨ c = i2 by simpa using hcm) with rfl | rfl | rfl | rfl | rfl
        · exact lz
        · exact Heap.lt_size pi
        · exact Heap.lt_size po
        · obtain ⟨_, e1, _⟩ := h1; exact Heap.lt_size e1
        · obtain ⟨_, e2, _⟩ := h2; exact Heap.lt_size e2
      rw [upd_ne (Nat.ne_of_lt lc)]
      exact (hf c hcm).1
  done := by
    intro X hP hw hK hc i pins s σ H E I hf st hg
    subst hP hw hK
    obtain ⟨pz, pi, ⟨x0, y0, po⟩, h1, h2⟩ := st
    obtain ⟨xs, ys, qx, qy, l1, l2, hend⟩ := hg
    obtain ⟨us, rv, p, _⟩ := I.tuple qx
    obtain ⟨vs, rv2, p2, _⟩ := I.list qy
    have pa : s.heap.IsTuple a us.toArray := p
    have e1 : us.toArray.size = xs.length := by rw [List.size_toArray, rv.length]
    have e2 : vs.toArray.size = ys.length := by rw [List.size_toArray, rv2.length]
    exact wpAny_pyNext_zipD2_end S (draws_tup (A := X.A.in1) (I.ok.hd hc) i1 a (apart_tup h1 pa) us.toArray) (Draws.list (A := X.A.in1) (I.ok.hd hc) i2 b (apart_lst h2 p2.isList) vs.toArray) pz pi po ⟨h1, pa⟩ ⟨h2, p2.isList⟩ (by rw [e1]; exact l1) (by rw [e2]; exact l2) (by rw [e1, e2]; exact hend) fun h' tk hk => ⟨rfl, I.turnedL (t' := tk) (ch := [z, ti, to, i1, i2]) (fun c o hb q =>
      hk c o (fun q' => hb (by simp [q'])) (fun q' => hb (by simp [q'])) (fun q' => hb (by simp [q'])) (fun q' => hb (by simp [q'])) q) hf⟩
  self := fun A i s Q E st h => wpAny_pyIter_zip st.1 h
theorem not_pair {x p q : Nat} (h1 : x ≠ p) (h2 : x ≠ q) : x ∉ [p, q] := by simp [h1, h2]
theorem sep_new {n a b : Nat} (ha : a < n) (hb : b < n) : ZipSep2 (n + 4) (n + 2) (n + 3) n (n + 1) [n, a] [n + 1, b] where
  TIz := by simp
  TOz := by simp
  TITO := by simp
  TIi1 := by simp
  mem1 := by simp
  zf1 := not_pair (by omega) (by omega)
  Tf1 := not_pair (by omega) (by omega)
  TIi2 := by simp
  mem2 := by simp
  zf2 := not_pair (by omega) (by omega)
  Tf2 := not_pair (by omega) (by omega)
  sep1_2 := not_pair (by omega) (by omega)
  sep2_1 := not_pair (by omega) (by omega)
def iZm (K : PySem.W.Frag) (ta : TA) : TI := fun σ H R => ta σ H fun vs H1 => ∃ a b xs ys, vs = [.ref a, .ref b] ∧ SqT K H1 a xs ∧ SqL K H1 b ys ∧ R (Izm K a b) H1
theorem pi_mz {X : Cx} {e e2 : Expr} {ta : TA} {p pos tpos : Pos} {elts : List Expr} {kk : Nat} (hg : Gl X "zip") (hm : X.mg "zip" = none) (ha : PA X [e, e2] ta)
    (st : starEach [e, e2] X.env = (false, eval e X.env) :: starEach [e2] X.env := by rfl) (pl : (backTo pos (starEach [e2] X.env)).any (·.1) = false := by rfl) :
    PI X (.Tuple elts kk tpos) (.Call (.Name "zip" p) [e, e2] [] pos) (iZm X.K ta) := by
  refine ⟨fun pins s σ H R I h => ?_⟩
  refine Call_ (ld_blt I hg hm PyProof.Rows.boot_zip (PyProof.Rows.callWith_type1 (thn (ha.run pos pins s σ H _ I h) fun us s1 ⟨vs, H1, I1, r1, a, b, xs, ys, ex, qx, qy, q⟩ => ?_) st pl))
  subst ex
  cases r1 with
  | cons r rr =>
    cases rr with
    | cons r' rr =>
      cases rr
      cases r
      cases r'
      obtain ⟨us, rv, p1, _⟩ := I1.tuple qx
      obtain ⟨ws, rv2, p2, _⟩ := I1.list qy
      have pa : s1.heap.IsTuple a us.toArray := p1
      have la : a < s1.heap.objs.size := by obtain ⟨o, ho, _⟩ := pa; exact Heap.lt_size ho
      refine call_mz pa p2.isList fun h' z' ti' to' j1 j2 hk => wpAny_pyIter_zip z' ?_
      have I2 : Inv X pins σ H1 { s1 with heap := h' } := I1.kept (t' := s1.toks) hk
      refine ⟨s1.heap.objs.size + 4, [s1.heap.objs.size + 4, s1.heap.objs.size + 2, s1.heap.objs.size + 3, s1.heap.objs.size, s1.heap.objs.size + 1], _, _, H1, rfl, I2, turn_mz (sep_new la p2.lt), ⟨z', ti', ⟨_, _, to'⟩, j1, j2⟩, fun c hc => ?_, q⟩
      have hle : s1.heap.objs.size ≤ c := by
        rcases (show c = s1.heap.objs.size + 4 ∨ c = s1.heap.objs.size + 2 ∨ c = s1.heap.objs.size + 3 ∨ c = s1.heap.objs.size ∨ c = s1.heap.objs.size + 1 by simpa using hc) with z | z | z | z | z
        all_goals rw [z]
        · exact Nat.le_add_right _ 4
        · exact Nat.le_add_right _ 2
        · exact Nat.le_add_right _ 3
        · exact Nat.le_refl _
        · exact Nat.le_add_right _ 1
      exact I1.fpOk hle (I1.hok.fresh hle)
theorem walk_mz {K : PySem.W.Frag} {a b : Addr} {xs ys : List V} {n : Nat} (hn : n = min xs.length ys.length) : Walk (Izm K a b) n (fun H => SqT K H a xs ∧ SqL K H b ys) (YPair (fun i => xs[i]?) (fun i => ys[i]?)) := by
  subst hn
  refine ⟨fun i _ hi q => ?_, fun _ q => ⟨xs, ys, q.1, q.2, by omega, by omega, by omega⟩, fun i H v H' _ q y => ?_⟩
  · have h1 : i < xs.length := by omega
    have h2 : i < ys.length := by omega
    exact ⟨xs, ys, xs[i], ys[i], q.1, q.2, by simp [h1], by simp [h2]⟩
  · obtain ⟨T, x, z, h1, h2, h3, h4, h5⟩ := y
    exact ⟨T, x, z, h1, h2, h3, h4 xs q.1, h5 ys q.2⟩
end Fv


set_option Elab.async false
set_option linter.all false
set_option maxRecDepth 100000
set_option maxHeartbeats 4000000
namespace Fv
open PySem PySem.Spec PyProof.Rows L2
def lastSet (c : Int) : PyData → PyData
  | .tuple [y, _] => .tuple [y, .int c]
  | .tuple [x, y, _] => .tuple [x, y, .int c]
  | d => d
def chg (k : Nat) (c : Int) (i : Nat) (e : PyData) : PyData := if i = k then lastSet c e else e
/-- a frozen statement with another number -/
def putD (k : Nat) (c : Int) : PyData → PyData
  | .tuple [w, p] => .tuple [w, .tuple ((itemsD p).mapIdx (chg k c))]
  | .tuple (w :: x :: p :: r) => .tuple (w :: x :: .tuple ((itemsD p).mapIdx (chg k c)) :: r)
  | d => d
theorem take_idx {f : Nat → PyData → PyData} {xs : List PyData} {i : Nat} {x : PyData} (h : xs[i]? = some x) : (xs.mapIdx f).take (i + 1) = (xs.mapIdx f).take i ++ [f i x] := by
  rw [List.take_add_one, List.getElem?_mapIdx, h]
  rfl
theorem Dx.pairQ {C : Addr} {H : Hp} {b : Addr} {x : V} {y : Str} {c : Int} (g : Dx C H b x (.tuple [.str y, .int c])) : Dq H b x (.tuple [.str y, .int c]) := by
  cases g with
  | tup e1 n hx =>
    obtain ⟨v1, v2, rfl⟩ := two_of hx.len
    obtain ⟨_, _, ee, g1, g2⟩ := hx.two
    cases ee
    cases g1
    cases g2
    exact .tup e1 n (.cons (.str _) (.cons (.int _) .nil))
theorem Dx.tripQ {C : Addr} {H : Hp} {b : Addr} {x : V} {z y : Str} {c : Int} (g : Dx C H b x (.tuple [.str z, .str y, .int c])) : Dq H b x (.tuple [.str z, .str y, .int c]) := by
  cases g with
  | tup e1 n hx =>
    obtain ⟨v1, v2, v3, rfl⟩ := three_of hx.len
    obtain ⟨_, _, _, ee, g1, g2, g3⟩ := hx.three
    cases ee
    cases g1
    cases g2
    cases g3
    exact .tup e1 n (.cons (.str _) (.cons (.str _) (.cons (.int _) .nil)))
/-- a part: all but its last, its last -/
theorem part_ini {C : Addr} {H : Hp} {b : Addr} {x : V} {d e : PyData} (h : stD d = true) (he : e ∈ partsOf d) (g : Dx C H b x e) : ∃ (a : Addr) (ini : List V) (old : Int), x = .ref a ∧ a ≠ b ∧ H a = some (.tup (ini ++ [.int old])) ∧ ini ≠ [] ∧ ini.length ≤ 2 ∧ Dq H b x e ∧
    cutV (ini ++ [.int old]) none (some (-1)) = ini ∧ ¬ (HT.sIx (ini ++ [V.int old]).length 0 none = 0 ∧ HT.sIx (ini ++ [V.int old]).length (ini ++ [V.int old]).length (some (-1)) = (ini ++ [V.int old]).length) ∧
    ∀ (H' : Hp) (a' : Addr) (c : Int), H' a' = some (.tup (ini ++ [.int c])) → a' ≠ b → Dq H' b (.ref a') (lastSet c e) := by
  rcases part_of h he with ⟨y, c, rfl⟩ | ⟨z, y, c, rfl⟩
  · obtain ⟨a, rfl, n, e1⟩ := g.pairQ.pair
    exact ⟨a, [.str y], c, rfl, n, e1, nofun, by show 1 ≤ 2; decide, g.pairQ, rfl, by show ¬ (0 = 0 ∧ 1 = 2); decide, fun H' a' c' e' n' => .tup e' n' (.cons (.str _) (.cons (.int _) .nil))⟩
  · obtain ⟨a, rfl, n, e1⟩ := g.tripQ.trip
    exact ⟨a, [.str z, .str y], c, rfl, n, e1, nofun, by show 2 ≤ 2; decide, g.tripQ, rfl, by show ¬ (0 = 0 ∧ 2 = 3); decide, fun H' a' c' e' n' => .tup e' n' (.cons (.str _) (.cons (.str _) (.cons (.int _) .nil)))⟩
section
variable {P : Program} {w : World} {K : PySem.W.Frag} {mg : Str → Option Value} {base : Heap} {C : Addr}
theorem DqAll.append {H : Hp} {b : Addr} : ∀ {vs ws : List V} {ds es : List PyData}, DqAll H b vs ds → DqAll H b ws es → DqAll H b (vs ++ ws) (ds ++ es)
  | _, _, _, _, .nil, k => k
  | _, _, _, _, .cons h t, k => .cons h (DqAll.append t k)
theorem sub_upd {D : Addr} {H' H4 : Hp} (s : Same H' H4) : ∀ c o, del H' D c = some o → del H4 D c = some o := fun c o e => by
  have nc : c ≠ D := fun z => by
    rw [z, del_same] at e
    cases e
  rw [del_ne nc]
  exact s c o (del_sub c o e)
/-- a frozen statement with all its numbers put otherwise -/
def setAll (ps : List PyData) (cs : List Int) : List PyData := List.zipWith (fun e c => lastSet c e) ps cs
def putsD (cs : List Int) : PyData → PyData
  | .tuple [w, p] => .tuple [w, .tuple (setAll (itemsD p) cs)]
  | .tuple (w :: x :: p :: r) => .tuple (w :: x :: .tuple (setAll (itemsD p) cs) :: r)
  | d => d
theorem DqAll.cut {H : Hp} {b : Addr} : ∀ {ds es : List PyData} {vs : List V}, DqAll H b vs (ds ++ es) → ∃ v1 v2, vs = v1 ++ v2 ∧ DqAll H b v1 ds ∧ DqAll H b v2 es
  | [], _, vs, h => ⟨[], vs, rfl, .nil, h⟩
  | d :: ds, es, _, h => by
    cases h with
    | cons h0 ht =>
      obtain ⟨v1, v2, rfl, g1, g2⟩ := DqAll.cut (ds := ds) ht
      exact ⟨_ :: v1, v2, rfl, .cons h0 g1, g2⟩
/-- a statement that is no skip: its word, what stands ahead of its parts, they, what stands behind -/
theorem st_cut {d : PyData} (h : stD d = true) (hp : d ≠ .tuple [.str "skip"]) : ∃ (z : Str) (r1 : List PyData) (p : PyData) (ds2 : List PyData), z ≠ "skip" ∧ frozenD d = .tuple (.str z :: r1 ++ .tuple (partsOf d) :: ds2) ∧ r1.length ≤ 1 ∧ ds2.length ≤ 1 ∧
    ((z = "set" ∧ r1.length = 0) ∨ ((z = "most" ∨ z = "least" ∨ z = "call") ∧ r1.length = 1)) ∧ ∀ cs, putsD cs (frozenD d) = .tuple (.str z :: r1 ++ .tuple (setAll (partsOf d) cs) :: ds2) := by
  have tup : ∀ {p : PyData}, rowD p = true → fz p = .tuple (itemsD p) := fun {p} e => by
    cases p <;> first | rfl | cases e
  cases st_shape h with
  | skip => exact absurd rfl hp
  | @set p h1 =>
    refine ⟨"set", [], p, [], by decide, ?_, by decide, by decide, .inl ⟨rfl, rfl⟩, fun cs => ?_⟩
    · show PyData.tuple [.str "set", fz p] = _
      rw [tup (row_sets h1)]
      rfl
    · show PyData.tuple [.str "set", .tuple (setAll (itemsD (fz p)) cs)] = _
      rw [fz_items]
      rfl
  | @most w x p hw h2 h3 h4 =>
    refine ⟨w, [.str x], p, [], by rcases hw with rfl | rfl <;> decide, ?_, by show 1 ≤ 1; decide, by decide, .inr ⟨hw.elim .inl fun e => .inr (.inl e), rfl⟩, fun cs => ?_⟩
    · show PyData.tuple [.str w, .str x, fz p] = _
      rw [tup (row_parts h3)]
      rfl
    · show PyData.tuple [.str w, .str x, .tuple (setAll (itemsD (fz p)) cs)] = _
      rw [fz_items]
      rfl
  | @call x p r h2 h3 h4 =>
    refine ⟨"call", [.str x], p, [fz r], by decide, ?_, by show 1 ≤ 1; decide, by show 1 ≤ 1; decide, .inr ⟨.inr (.inr rfl), rfl⟩, fun cs => ?_⟩
    · show PyData.tuple [.str "call", .str x, fz p, fz r] = _
      rw [tup (row_parts h3)]
      rfl
    · show PyData.tuple [.str "call", .str x, .tuple (setAll (itemsD (fz p)) cs), fz r] = _
      rw [fz_items]
      rfl
theorem setAll_snoc {ps : List PyData} {cs : List Int} {i : Nat} {e : PyData} {c : Int} (h1 : ps[i]? = some e) (h2 : cs[i]? = some c) : (setAll ps cs).take (i + 1) = (setAll ps cs).take i ++ [lastSet c e] := by
  rw [List.take_add_one]
  unfold setAll
  rw [List.getElem?_zipWith, h1, h2]
  rfl
theorem lastSet_id {d e : PyData} (h : stD d = true) (he : e ∈ partsOf d) : lastSet (lastI e) e = e := by
  rcases part_of h he with ⟨y, c, rfl⟩ | ⟨x, y, c, rfl⟩ <;> rfl
theorem setAll_one {d : PyData} (h : stD d = true) {n : Nat} (c : Int) (hn : n < (partsOf d).length) : setAll (partsOf d) ((numsOf d).take n ++ [c] ++ (numsOf d).drop (n + 1)) = (partsOf d).mapIdx (chg n c) := by
  have ll : (numsOf d).length = (partsOf d).length := by unfold numsOf; rw [List.length_map]
  apply List.ext_getElem?
  intro i
  unfold setAll
  rw [List.getElem?_zipWith, List.getElem?_mapIdx]
  cases e : (partsOf d)[i]? with
  | none => rfl
  | some p =>
    have hi : i < (partsOf d).length := (List.getElem?_eq_some_iff.mp e).1
    have ei : (numsOf d)[i]? = some (lastI p) := by unfold numsOf; rw [List.getElem?_map, e]; rfl
    have key : ((numsOf d).take n ++ [c] ++ (numsOf d).drop (n + 1))[i]? = some (if i = n then c else lastI p) := by
      have l1 : ((numsOf d).take n).length = n := by rw [List.length_take]; omega
      by_cases h1 : i < n
      · rw [List.append_assoc, List.getElem?_append_left (by omega), List.getElem?_take_of_lt h1, ei, if_neg (by omega)]
      · by_cases h2 : i = n
        · rw [if_pos h2, List.append_assoc, List.getElem?_append_right (by omega), l1, h2]
          simp
        · rw [if_neg h2, List.getElem?_append_right (by rw [List.length_append, l1]; simp; omega), List.length_append, l1, List.getElem?_drop]
          rw [show n + 1 + (i - (n + [c].length)) = i by simp; omega]
          exact ei
    rw [key]
    show some (lastSet _ p) = some (chg n c i p)
    unfold chg
    by_cases h2 : i = n
    · rw [if_pos h2, if_pos h2]
    · rw [if_neg h2, if_neg h2, lastSet_id h (List.mem_of_getElem? e)]
theorem puts_put {d : PyData} (h : stD d = true) {n : Nat} (c : Int) (hn : n < (partsOf d).length) : putsD ((numsOf d).take n ++ [c] ++ (numsOf d).drop (n + 1)) (frozenD d) = putD n c (frozenD d) := by
  have one := setAll_one h c hn
  cases st_shape h with
  | skip => exact absurd hn (by show ¬ n < 0; omega)
  | @set p h1 =>
    show PyData.tuple [.str "set", .tuple (setAll (itemsD (fz p)) _)] = PyData.tuple [.str "set", .tuple ((itemsD (fz p)).mapIdx (chg n c))]
    rw [fz_items]
    exact congrArg (fun l => PyData.tuple [.str "set", .tuple l]) one
  | @most w x p hw h2 h3 h4 =>
    show PyData.tuple [.str w, .str x, .tuple (setAll (itemsD (fz p)) _)] = PyData.tuple [.str w, .str x, .tuple ((itemsD (fz p)).mapIdx (chg n c))]
    rw [fz_items]
    exact congrArg (fun l => PyData.tuple [.str w, .str x, .tuple l]) one
  | @call x p r h2 h3 h4 =>
    show PyData.tuple [.str "call", .str x, .tuple (setAll (itemsD (fz p)) _), fz r] = PyData.tuple [.str "call", .str x, .tuple ((itemsD (fz p)).mapIdx (chg n c)), fz r]
    rw [fz_items]
    exact congrArg (fun l => PyData.tuple [.str "call", .str x, .tuple l, fz r]) one
end
end Fv


set_option Elab.async false
set_option linter.all false
set_option maxRecDepth 100000
set_option maxHeartbeats 4000000
namespace Fv
open PySem PySem.Spec PyProof.Rows L2
theorem DqAll.set {H : Hp} {b : Addr} {v : V} {d : PyData} (h : Dq H b v d) : ∀ {vs : List V} {ds : List PyData} {n : Nat}, DqAll H b vs ds → DqAll H b (vs.set n v) (ds.set n d)
  | _, _, _, .nil => .nil
  | _, _, 0, .cons _ t => .cons h t
  | _, _, n + 1, .cons g t => .cons g (DqAll.set h (n := n) t)
/-- the n-th source, another integer -/
def newPair (n : Nat) (c : Int) (ps : List PyData) : List PyData := (ps.map twoD).set n (.tuple [.str (srcS (ps.getD n .none)), .int c])
theorem newPair_at {n : Nat} {c : Int} {ps : List PyData} {i : Nat} {e : PyData} (h : ps[i]? = some e) : (newPair n c ps)[i]? = some (.tuple [.str (srcS e), .int (if i = n then c else lastI e)]) := by
  unfold newPair
  have hi := (List.getElem?_eq_some_iff.mp h).1
  rw [List.getElem?_set]
  by_cases z : n = i
  · subst z
    rw [if_pos rfl, if_pos (by rw [List.length_map]; exact hi), if_pos rfl, List.getD_eq_getElem?_getD, h]
    rfl
  · rw [if_neg z, if_neg (fun y => z y.symm), List.getElem?_map, h]
    rfl
theorem newPair_len {n : Nat} {c : Int} {ps : List PyData} : (newPair n c ps).length = ps.length := by
  unfold newPair
  rw [List.length_set, List.length_map]
theorem newPair_pairs {n : Nat} {c : Int} {ps : List PyData} (h : ps.all pairD = true) : newPair n c ps = ps.mapIdx (chg n c) := by
  apply List.ext_getElem?
  intro i
  rw [List.getElem?_mapIdx]
  cases e : ps[i]? with
  | none =>
    rw [List.getElem?_eq_none_iff] at e
    rw [List.getElem?_eq_none_iff.mpr (by rw [newPair_len]; exact e)]
    rfl
  | some p =>
    rw [newPair_at e]
    obtain ⟨y, k, rfl⟩ := pair_shape (List.all_eq_true.mp h p (List.mem_of_getElem? e))
    show _ = some (chg n c i _)
    unfold chg
    by_cases z : i = n
    · rw [if_pos z, if_pos z]
      rfl
    · rw [if_neg z, if_neg z]
      rfl
theorem parts_all {d : PyData} (h : partsD d = true) : (itemsD d).all pairD = true := by
  unfold partsD at h
  rw [Bool.and_eq_true] at h
  exact h.2
theorem DqAll.at_d {H : Hp} {b : Addr} : ∀ {v : List V} {d : List PyData} {i : Nat} {e : PyData}, DqAll H b v d → d[i]? = some e → ∃ x, v[i]? = some x ∧ Dq H b x e
  | _, _, 0, _, .cons h _, e => ⟨_, rfl, by cases e; exact h⟩
  | _, _, i + 1, _, .cons _ t, e => DqAll.at_d (i := i) t e
section
variable {P : Program} {w : World} {K : PySem.W.Frag} {mg : Str → Option Value} {base : Heap} {C : Addr}
end
end Fv


set_option Elab.async false
set_option linter.all false
set_option maxRecDepth 100000
set_option maxHeartbeats 4000000
namespace Fv
open PySem PySem.Spec PyProof.Rows L2
abbrev sCall : Stmt := top 53
/-- the drawn head of what is called -/
def headV (a pp rr : Addr) : List (Key × V) := [(Sum.inr "kinds", .ref a), (Sum.inr "params", .ref pp), (Sum.inr "results", .ref rr)]
def spCallD : Sp := fun vs H Q _ => ∃ (b a o pp rr : Addr) (nm : Str) (ks : List (Str × Str)) (zs rs : List Str), vs = [.ref b, .ref a, .str nm, .ref o] ∧ Bag H b ∧ a ≠ b ∧ o ≠ b ∧ pp ≠ b ∧ rr ≠ b ∧ NmOk nm ∧
  H a = some (.dK (kinV ks)) ∧ KindsOk ks ∧ ks.length ≤ 20 ∧ H o = some (.dK (headV a pp rr)) ∧ H pp = some (.tup (zs.map V.str)) ∧ zs.length ≤ 20 ∧ (∀ z ∈ zs, z ∈ ks.map (·.1)) ∧ H rr = some (.tup (rs.map V.str)) ∧ rs.length ≤ 20 ∧ (∀ z ∈ rs, z ∈ ks.map (·.1)) ∧
  ∀ (p : Addr) (d : PyData) (H' : Hp), Dq H' b (.ref p) d → okD d → stD d = true → frozenD d = d → smallSt d → Bag H' b → Keep b H H' → (∀ c, BagAt H b c → BagAt H' b c) → Q (.ref p) H'
theorem str_ne {x y : Str} (h : x ≠ y) : decide ((Sum.inr x : Key) = Sum.inr y) = false := decide_eq_false fun e => h (Sum.inr.inj e)
theorem str_eq {x : Str} : decide ((Sum.inr x : Key) = Sum.inr x) = true := decide_eq_true rfl
theorem head_k (a pp rr : Addr) : valV (headV a pp rr) (Sum.inr "kinds") = some (.ref a) := by
  unfold valV headV
  rw [List.find?_cons, str_eq]
  rfl
theorem head_p (a pp rr : Addr) : valV (headV a pp rr) (Sum.inr "params") = some (.ref pp) := by
  unfold valV headV
  rw [List.find?_cons, str_ne (by decide +kernel), List.find?_cons, str_eq]
  rfl
theorem head_r (a pp rr : Addr) : valV (headV a pp rr) (Sum.inr "results") = some (.ref rr) := by
  unfold valV headV
  rw [List.find?_cons, str_ne (by decide +kernel), List.find?_cons, str_ne (by decide +kernel), List.find?_cons, str_eq]
  rfl
theorem DqAll.strs (H : Hp) (b : Addr) : ∀ qs : List Str, DqAll H b (qs.map V.str) (qs.map PyData.str)
  | [] => .nil
  | q :: qs => .cons (.str q) (DqAll.strs H b qs)
theorem okAll.strs : ∀ {qs : List Str}, (∀ x ∈ qs, NmOk x) → okAll (qs.map PyData.str)
  | [], _ => True.intro
  | _ :: _, h => ⟨(h _ List.mem_cons_self).ok, okAll.strs fun x hx => h x (List.mem_cons_of_mem _ hx)⟩
theorem names_ok {qs : List Str} (h : ∀ x ∈ qs, NmOk x) (nd : qs.Nodup) : namesD (.tuple (qs.map .str)) = true := by
  have e1 : (qs.map PyData.str).all nameD = true := by
    rw [List.all_eq_true]
    intro d hd
    obtain ⟨z, hz, rfl⟩ := List.mem_map.mp hd
    exact (h z hz).name
  have e2 : (qs.map PyData.str).map strS = qs := by
    rw [List.map_map]
    conv => rhs; rw [← List.map_id qs]
    exact List.map_congr_left fun _ _ => rfl
  show (true && (qs.map PyData.str).all nameD && decide ((qs.map PyData.str).map strS).Nodup) = true
  rw [e1, e2, decide_eq_true nd]
  rfl
section
variable {P : Program} {w : World} {K : PySem.W.Frag} {mg : Str → Option Value} {base : Heap}
abbrev nCl : List Str := ["_law_bag_here", "_law_kinds_here", "_law_name", "_law_other", "_law_arguments", "_law_results", "_law_left", "_law_result", "_law_free", "_law_param", "_law_x"]
theorem scCl : FnScope nCl ["_law_bag_here", "_law_kinds_here", "_law_name", "_law_other"] (defScope sCall) := ⟨rfl, rfl, rfl, by decide +kernel, rfl, by decide +kernel, by decide +kernel⟩
end
end Fv


set_option Elab.async false
set_option linter.all false
set_option maxRecDepth 100000
set_option maxHeartbeats 4000000
namespace Fv
open PySem PySem.Spec PyProof.Rows L2
/-- len of a text or a row -/
def rLenA (K : PySem.W.Frag) : List V → Hp → VK → Prop := fun xs H Q => (∃ p ys, xs = [V.ref p] ∧ (SqL K H p ys ∨ SqT K H p ys) ∧ Q (.int ((ys.length : Nat) : Int)) H) ∨ ∃ z : Str, xs = [.str z] ∧ z.length ≤ sizeLine ∧ Q (.int (z.length : Nat)) H
theorem call_lenA {X : Cx} : CallR X (.builtin "len") (rLenA X.K) := by
  intro pins s σ H xs us Q I r h
  rcases h with ⟨p, ys, rfl, h1, q⟩ | ⟨z, rfl, h1, q⟩
  · exact call_len_seq pins s σ H _ us Q I r ⟨p, ys, rfl, h1, q⟩
  · exact call_len_str pins s σ H _ us Q I r ⟨z, rfl, h1, q⟩
theorem DxAll.set {C : Addr} {H : Hp} {b : Addr} {v : V} {d : PyData} (h : Dx C H b v d) : ∀ {vs : List V} {ds : List PyData} {n : Nat}, DxAll C H b vs ds → DxAll C H b (vs.set n v) (ds.set n d)
  | _, _, _, .nil => .nil
  | _, _, 0, .cons _ t => .cons h t
  | _, _, n + 1, .cons g t => .cons g (DxAll.set h (n := n) t)
theorem DxAll.append {C : Addr} {H : Hp} {b : Addr} : ∀ {vs ws : List V} {ds es : List PyData}, DxAll C H b vs ds → DxAll C H b ws es → DxAll C H b (vs ++ ws) (ds ++ es)
  | _, _, _, _, .nil, k => k
  | _, _, _, _, .cons h t, k => .cons h (DxAll.append t k)
theorem DxAll.take {C : Addr} {H : Hp} {b : Addr} : ∀ {vs : List V} {ds : List PyData} {n : Nat}, DxAll C H b vs ds → DxAll C H b (vs.take n) (ds.take n)
  | _, _, 0, _ => .nil
  | _, _, _ + 1, .nil => .nil
  | _, _, n + 1, .cons h t => .cons h (DxAll.take (n := n) t)
theorem okAll.set {d : PyData} (h : okD d) : ∀ {ds : List PyData} {n : Nat}, okAll ds → okAll (ds.set n d)
  | [], _, _ => True.intro
  | _ :: _, 0, g => ⟨h, g.2⟩
  | _ :: _, n + 1, g => ⟨g.1, okAll.set h (n := n) g.2⟩
theorem okAll.append : ∀ {ds es : List PyData}, okAll ds → okAll es → okAll (ds ++ es)
  | [], _, _, k => k
  | _ :: _, _, g, k => ⟨g.1, okAll.append g.2 k⟩
theorem okAll.take : ∀ {ds : List PyData} {n : Nat}, okAll ds → okAll (ds.take n)
  | _, 0, _ => True.intro
  | [], _ + 1, _ => True.intro
  | _ :: _, n + 1, g => ⟨g.1, okAll.take (n := n) g.2⟩
/-- spoilt at a drawn place: whatever comes -/
theorem cut_last (xs : List V) : cutV xs none (some (-1)) = xs.take (xs.length - 1) := by
  unfold cutV
  rw [HT.sIx_none]
  simp only [List.drop_zero, Nat.sub_zero]
  rw [List.take_eq_take_iff]
  unfold HT.sIx
  simp
  omega
theorem st_len {ds : List PyData} (h : stD (.tuple ds) = true) : 1 ≤ ds.length ∧ ds.length ≤ 4 := by
  have sh := st_shape h
  cases sh <;> exact ⟨by simp, by simp⟩
/-- what stands behind the word: a name, or a row of names or of small tuples -/
def smallT (e : PyData) : Prop := (∃ z, e = .str z) ∨ ∃ es, e = .tuple es ∧ ∀ x ∈ es, (∃ z, x = .str z) ∨ ∃ fs, x = .tuple fs ∧ 1 ≤ fs.length ∧ fs.length ≤ 3
theorem small_sets {e : PyData} (h : setsD e = true) (f : fz e = e) : smallT e := by
  have hr := row_sets h
  have ha := sets_all h
  cases e with
  | tuple es =>
    refine .inr ⟨es, rfl, fun x hx => .inr ?_⟩
    obtain ⟨z, y, c, rfl⟩ := trip_shape (List.all_eq_true.mp ha x hx)
    exact ⟨_, rfl, by simp, by simp⟩
  | list es => cases f
  | _ => cases hr
theorem small_parts {e : PyData} (h : partsD e = true) (f : fz e = e) : smallT e := by
  have hr := row_parts h
  have ha := parts_all h
  cases e with
  | tuple es =>
    refine .inr ⟨es, rfl, fun x hx => .inr ?_⟩
    obtain ⟨y, c, rfl⟩ := pair_shape (List.all_eq_true.mp ha x hx)
    exact ⟨_, rfl, by simp, by simp⟩
  | list es => cases f
  | _ => cases hr
theorem small_names {e : PyData} (h : namesD e = true) (f : fz e = e) : smallT e := by
  obtain ⟨hr, ha⟩ := row_names h
  cases e with
  | tuple es => exact .inr ⟨es, rfl, fun x hx => .inl (name_str (List.all_eq_true.mp ha x hx))⟩
  | list es => cases f
  | _ => cases hr
theorem st_items {ds : List PyData} (h : stD (.tuple ds) = true) (f : frozenD (.tuple ds) = .tuple ds) {i : Nat} {e : PyData} (hi : 0 < i) (he : ds[i]? = some e) : smallT e := by
  have fe : fz e = e := fz_fixed (PyData.tuple.inj f) e (List.mem_of_getElem? he)
  have sh := st_shape h
  cases sh with
  | skip =>
    match i, hi with
    | i + 1, _ => cases he
  | set hp =>
    match i, hi with
    | 1, _ => cases he; exact small_sets hp fe
    | i + 2, _ => cases he
  | most _ _ hp _ =>
    match i, hi with
    | 1, _ => cases he; exact .inl ⟨_, rfl⟩
    | 2, _ => cases he; exact small_parts hp fe
    | i + 3, _ => cases he
  | call _ hp hr =>
    match i, hi with
    | 1, _ => cases he; exact .inl ⟨_, rfl⟩
    | 2, _ => cases he; exact small_parts hp fe
    | 3, _ => cases he; exact small_names hr fe
    | i + 4, _ => cases he
theorem ixN_nat {n i : Nat} (h : i < n) : ixN n (i : Int) = some i := by
  unfold ixN
  rw [if_pos (by omega), if_pos (by omega)]
  simp
section
variable {P : Program} {w : World} {K : PySem.W.Frag} {mg : Str → Option Value} {base : Heap} {C : Addr}
end
end Fv


set_option Elab.async false
set_option linter.all false
set_option maxRecDepth 100000
set_option maxHeartbeats 4000000
namespace Fv
open PySem PySem.Spec PyProof.Rows L2
/-! an item, a cut of a value that is a list or a tuple -/
def rIxA (K : PySem.W.Frag) : R2 := fun x y H Q => rIxL K x y H Q ∨ rIxT K x y H Q
theorem ix_any {X : Cx} : IxR X (rIxA X.K) := fun e1 e2 pins s σ H x y v u Q I rx ry h he =>
  h.elim (fun h => ix_list e1 e2 pins s σ H x y v u Q I rx ry h he) (fun h => ix_tup e1 e2 pins s σ H x y v u Q I rx ry h he)
def rSlA (K : PySem.W.Frag) : V → Option Int → Option Int → Hp → VK → Prop := fun x lo hi H Q => rSlL K x lo hi H Q ∨ rSlT K x lo hi H Q
theorem sl_any {X : Cx} : SlR X (rSlA X.K) := fun pins s σ H x v vl vu lo hi sl Q I rx hs pl pu h =>
  h.elim (fun h => sl_list pins s σ H x v vl vu lo hi sl Q I rx hs pl pu h) (fun h => sl_tup pins s σ H x v vl vu lo hi sl Q I rx hs pl pu h)
def natD : PyData → Bool
  | .int i => decide (0 ≤ i)
  | _ => false
def wayR : List PyData → Bool
  | [x, y, s] => stD s && (natD x && natD y)
  | _ => false
def wayD (d : PyData) : Bool := rowD d && wayR (itemsD d)
section
variable {P : Program} {w : World} {K : PySem.W.Frag} {mg : Str → Option Value} {base : Heap} {C : Addr}
end
end Fv


set_option Elab.async false
set_option linter.all false
set_option maxRecDepth 100000
set_option maxHeartbeats 4000000
namespace Fv
open PySem PySem.Spec PyProof.Rows L2
/-- over the beginning of a list or a tuple that a name holds -/
def iCut (K : PySem.W.Frag) (i : Nat) (k : Int) : TI := fun σ H R => ∃ a xs, σ[i]? = some (some (.ref a)) ∧ (SqL K H a xs ∨ (SqT K H a xs ∧ ¬ (HT.sIx xs.length 0 none = 0 ∧ HT.sIx xs.length xs.length (some k) = xs.length))) ∧
  ∀ J G H1, Same H H1 → Walk J (cutV xs none (some k)).length G (YAt (cutV xs none (some k))) → (∀ H', Same H1 H' → G H') → R J H1
section
variable {X : Cx} {tg : Expr}
theorem pi_cut {l : Expr} {i : Nat} {k : Int} (hl : PE X l (tSl (rSlA X.K) (tVar i) tNoPart (tPart (tC (.int k))))) : PI X tg l (iCut X.K i k) := by
  constructor
  intro pins s σ H R I h
  obtain ⟨a, xs, ev, hq, q⟩ := h
  rcases hq with hq | ⟨hq, nf⟩
  · refine (pi_list hl).run pins s σ H R I ⟨_, ev, _, rfl, .inl ⟨a, xs, rfl, hq, fun p np => ⟨p, rfl, ⟨_, SqL.of upd_same⟩, ?_⟩⟩⟩
    exact q _ _ _ (same_upd np) walk_list fun H' s => SqL.of (s _ _ upd_same)
  · refine (pi_tup hl).run pins s σ H R I ⟨_, ev, _, rfl, .inr ⟨a, xs, rfl, hq, nf, fun p np => ⟨p, rfl, ⟨_, SqT.of upd_same⟩, ?_⟩⟩⟩
    exact q _ _ _ (same_upd np) walk_tup fun H' s => SqT.of (s _ _ upd_same)
end
theorem way_len {ds : List PyData} (h : ds.length ≠ 3) : wayR ds = false := by
  match ds with
  | [] => rfl
  | [_] => rfl
  | [_, _] => rfl
  | [_, _, _] => exact absurd rfl h
  | _ :: _ :: _ :: _ :: _ => rfl
theorem nat_int (d : PyData) : natD d = (intD d && match d with | .int i => decide (0 ≤ i) | _ => false) := by cases d <;> rfl
section
variable {P : Program} {w : World} {K : PySem.W.Frag} {mg : Str → Option Value} {base : Heap} {C : Addr}
end
end Fv


set_option Elab.async false
set_option linter.all false
set_option maxRecDepth 100000
set_option maxHeartbeats 4000000
namespace Fv
open PySem PySem.Spec PyProof.Rows L2
abbrev sIsKind : Stmt := top 15
abbrev sFits : Stmt := top 16
abbrev sAreWays : Stmt := top 36
abbrev sIsWay : Stmt := top 37
abbrev sIsPlace : Stmt := top 38
def kindsV : List V := [.str "plain", .str "high", .str "low"]
def kindD : PyData → Bool
  | .str z => inV (.str z) kindsV
  | _ => false
theorem kind_not {d : PyData} (h : isStrD d = false) : kindD d = false := by cases d <;> first | rfl | cases h
def waysD (d : PyData) : Bool := rowD d && (itemsD d).all wayD
def spFits : Sp := fun vs H Q _ => ∃ x y : Str, vs = [.str x, .str y] ∧ Q (.bl (fitS x y)) H
section
variable {P : Program} {w : World} {K : PySem.W.Frag} {mg : Str → Option Value} {base : Heap} {C : Addr}
theorem scIk : FnScope ["thing"] ["thing"] (defScope sIsKind) := ⟨rfl, rfl, rfl, by decide +kernel, rfl, by decide +kernel, by decide +kernel⟩
theorem ok_iskind {f aK : Addr} {fd : FuncData} (T : KFn K C) (F : Fun K "is_kind" "is_kind" sIsKind f fd) (mK : mg "KINDS" = some (.ref aK)) (hK : ∀ H, SqT K H aK kindsV)
    (mq : mg "isinstance" = none) (ms : mg "str" = none) : FnOk P w K mg base CX0 1 f fd ["thing"] (spX C kindD) := by
  refine F.ok scIk (fun vs H Q E h => ?_) (fun cdv A outer s H vs Q E hr h => ?_)
  · obtain ⟨b, v, d, rfl, _⟩ := h
    rfl
  · obtain ⟨b, v, d, rfl, hd, hs, hb, q⟩ := h
    refine ⟨_, pss_one (ps_ret (pe_and (pe_callB call_isi (by rfl) mq (by decide +kernel) (pa_cons (pv 0) (pa_cons (pe_bltn (v := .ty "str") (by rfl) ms boot_str rfl) pa_nil)))
        (pe_one (pe_cmpR op_in_seq (pv 0) (pe_glob (v := .ref aK) (by rfl) mK rfl) (by rfl))))), ?_⟩
    obtain ⟨t', I⟩ := hd.isa T
    refine ⟨_, rfl, _, _, _, _, _, rfl, .ty "str", I.ty, I.s, _, rfl, ?_⟩
    cases h1 : isStrD d with
    | false =>
      rw [kind_not h1] at q
      exact q H fun _ _ e => e
    | true =>
      obtain ⟨z, rfl, rfl⟩ := hd.str_of h1
      exact iteT ⟨_, rfl, aK, kindsV, rfl, .inr (hK H), rfl, by decide +kernel, q H fun _ _ e => e⟩
theorem scFi : FnScope ["part", "kind"] ["part", "kind"] (defScope sFits) := ⟨rfl, rfl, rfl, by decide +kernel, rfl, by decide +kernel, by decide +kernel⟩
theorem ok_fits {f : Addr} {fd : FuncData} (F : Fun K "fits" "fits" sFits f fd) : FnOk P w K mg base CX0 1 f fd ["part", "kind"] spFits := by
  refine F.ok scFi (fun vs H Q E h => ?_) (fun cdv A outer s H vs Q E hr h => ?_)
  · obtain ⟨x, y, rfl, _⟩ := h
    rfl
  · obtain ⟨x, y, rfl, q⟩ := h
    refine ⟨_, pss_one (ps_ret (pe_or (pe_cmpR op_eq (pv 0) pe_str (nomark _)) (pe_one (pe_cmpR op_eq (pv 0) (pv 1) (nomark _))))), ?_⟩
    refine ⟨_, rfl, rfl, _, rfl, ?_⟩
    unfold fitS at q
    cases h0 : decide (V.str x = V.str "plain") with
    | true =>
      rw [h0] at q
      exact q
    | false =>
      rw [h0, Bool.false_or] at q
      exact iteF ⟨_, rfl, _, rfl, rfl, q⟩
theorem scIp : FnScope ["thing"] ["thing"] (defScope sIsPlace) := ⟨rfl, rfl, rfl, by decide +kernel, rfl, by decide +kernel, by decide +kernel⟩
theorem ok_isplace {f fI : Addr} {fd fdI : FuncData} (F : Fun K "_is_place" "_is_place" sIsPlace f fd)
    (GI : FnOk P w K mg base CX0 1 fI fdI ["thing"] (spX C intD)) (bI : Binds K fdI ["thing"] []) (mI : mg "is_integer" = some (.ref fI)) (kI : PySem.W.keepIn K (.ref fI) = true) : FnOk P w K mg base CX0 2 f fd ["thing"] (spX C natD) := by
  refine F.ok scIp (fun vs H Q E h => ?_) (fun cdv A outer s H vs Q E hr h => ?_)
  · obtain ⟨b, v, d, rfl, _⟩ := h
    rfl
  · obtain ⟨b, v, d, rfl, hd, hs, hb, q⟩ := h
    refine ⟨_, pss_one (ps_ret (pe_and (pe_call GI hr (by rfl) mI kI bI .nil pass0 (pa_cons (pv 0) pa_nil)) (pe_one (pe_cmpR op_ge (pv 0) pe_int (nomark _))))), ?_⟩
    refine ⟨_, rfl, b, v, d, rfl, hd, hs, hb, fun H1 s1 => ⟨_, rfl, ?_⟩⟩
    cases hint : intD d with
    | false =>
      have hn : natD d = false := by rw [nat_int, hint]; rfl
      rw [hn] at q
      exact iteF (q H1 s1)
    | true =>
      obtain ⟨k, rfl⟩ := int_of hint
      cases hd
      refine iteT ⟨_, rfl, k, 0, rfl, rfl, ?_⟩
      exact q H1 s1
theorem scIw : FnScope ["thing"] ["thing"] (defScope sIsWay) := ⟨rfl, rfl, rfl, by decide +kernel, rfl, by decide +kernel, by decide +kernel⟩
theorem ok_isway {f fR fP fS : Addr} {fd fdR fdP fdS : FuncData} (F : Fun K "_is_way" "_is_way" sIsWay f fd)
    (GR : FnOk P w K mg base CX0 1 fR fdR ["thing"] (spX C rowD)) (bR : Binds K fdR ["thing"] []) (mR : mg "is_row" = some (.ref fR)) (kR : PySem.W.keepIn K (.ref fR) = true)
    (GP : FnOk P w K mg base CX0 2 fP fdP ["thing"] (spX C natD)) (bP : Binds K fdP ["thing"] []) (mP : mg "_is_place" = some (.ref fP)) (kP : PySem.W.keepIn K (.ref fP) = true)
    (GS : FnOk P w K mg base CX0 5 fS fdS ["thing"] (spX C stD)) (bS : Binds K fdS ["thing"] []) (mS : mg "is_statement" = some (.ref fS)) (kS : PySem.W.keepIn K (.ref fS) = true)
    (ml : mg "len" = none) : FnOk P w K mg base CX0 6 f fd ["thing"] (spX C wayD) := by
  refine F.ok scIw (fun vs H Q E h => ?_) (fun cdv A outer s H vs Q E hr h => ?_)
  · obtain ⟨b, v, d, rfl, _⟩ := h
    rfl
  · obtain ⟨b, v, d, rfl, hd, hs, hb, q⟩ := h
    have hr1 : Room 1 _ := hr.mono (by decide)
    have hr2 : Room 2 _ := hr.mono (by decide)
    refine ⟨_, pss_cons (ps_if (PW.pt (pw_or (pt_not (pt_val (pe_call GR hr1 (by rfl) mR kR bR .nil pass0 (pa_cons (pv 0) pa_nil))))
        (pw_or1 (pt_cmpR op_ne (pe_callB call_len_seq (by rfl) ml PySem.boot_len (pa_cons (pv 0) pa_nil)) pe_int (nomark _))))) (pss_one (ps_ret pe_bl)) pss_nil)
      (pss_one (ps_ret (pe_and (pe_call GP hr2 (by rfl) mP kP bP .nil pass0 (pa_cons (pe_ix (r := rIxA K) ix_any (pv 0) pe_int (fun _ _ => rfl)) pa_nil))
        (pe_and (pe_call GP hr2 (by rfl) mP kP bP .nil pass0 (pa_cons (pe_ix (r := rIxA K) ix_any (pv 0) pe_int (fun _ _ => rfl)) pa_nil))
        (pe_one (pe_call GS hr (by rfl) mS kS bS .nil pass0 (pa_cons (pe_ix (r := rIxA K) ix_any (pv 0) pe_int (fun _ _ => rfl)) pa_nil))))))), ?_⟩
    refine ⟨_, rfl, b, v, d, rfl, hd, hs, hb, fun H1 s1 => ⟨_, rfl, ?_⟩⟩
    have e : wayD d = (rowD d && wayR (itemsD d)) := rfl
    rw [e] at q
    cases h0 : rowD d with
    | false =>
      rw [h0] at q
      exact iteT (q H1 s1)
    | true =>
      rw [h0, Bool.true_and] at q
      refine iteF ?_
      obtain ⟨a, xs, ds, rfl, hdd, hrow, hx⟩ := (hd.mono fun a o _ e => s1 a o e).row_of (K := K) h0
      rw [rows_items hdd] at q
      obtain ⟨hl, hok⟩ := rows_ok hdd hs
      have hlen := hx.len
      refine ⟨_, rfl, a, xs, rfl, hrow, rfl, _, rfl, ?_⟩
      by_cases h3 : xs.length = 3
      · obtain ⟨x, y, z, rfl⟩ := three_of h3
        obtain ⟨dx, dy, dz, rfl, gx, gy, gz⟩ := hx.three
        obtain ⟨okx, oky, okz, _⟩ := hok
        obtain ⟨ob, hob⟩ := hb
        have ew : wayR [dx, dy, dz] = (stD dz && (natD dx && natD dy)) := rfl
        rw [ew] at q
        refine iteF ?_
        have at_ : ∀ {H' : Hp} {j : Int} {u : V} {Qv : VK}, Same H1 H' → atI [x, y, z] j = some u → Qv u H' → rIxA K (.ref a) (.int j) H' Qv := fun {H' j u Qv} s hj h =>
          hrow.elim (fun h1 => .inl ⟨a, _, j, u, rfl, rfl, h1.same s, hj, h⟩) (fun h1 => .inr ⟨a, _, j, u, rfl, rfl, h1.same s, hj, h⟩)
        refine ⟨_, rfl, at_ (fun _ _ e => e) rfl ⟨b, x, dx, rfl, gx, okx, ⟨_, s1 _ _ hob⟩, fun H2 s2 => ⟨_, rfl, ?_⟩⟩⟩
        cases hdx : natD dx with
        | false =>
          rw [hdx, Bool.false_and, Bool.and_false] at q
          exact iteF (q H2 (s1.trans s2))
        | true =>
          rw [hdx, Bool.true_and] at q
          refine iteT ⟨_, rfl, at_ s2 rfl ⟨b, y, dy, rfl, gy.mono (fun c o _ e => s2 c o e), oky, ⟨_, s2 _ _ (s1 _ _ hob)⟩, fun H3 s3 => ⟨_, rfl, ?_⟩⟩⟩
          have s13 := s2.trans s3
          cases hdy : natD dy with
          | false =>
            rw [hdy, Bool.and_false] at q
            exact iteF (q H3 (s1.trans s13))
          | true =>
            rw [hdy, Bool.and_true] at q
            refine iteT ⟨_, rfl, at_ s13 rfl ⟨b, z, dz, rfl, gz.mono (fun c o _ e => s13 c o e), okz, ⟨_, s13 _ _ (s1 _ _ hob)⟩, fun H4 s4 => ?_⟩⟩
            exact q H4 ((s1.trans s13).trans s4)
      · rw [way_len (by rw [← hlen]; exact h3)] at q
        have e3 : decide (V.int ((xs.length : Nat) : Int) = V.int 3) = false := decide_eq_false fun z => h3 (by
          have := V.int.inj z
          omega)
        rw [show (!decide (V.int ((xs.length : Nat) : Int) = V.int 3)) = true from by rw [e3]; rfl]
        exact iteT (q H1 s1)
theorem scAw : FnScope ["thing", "item"] ["thing"] (defScope sAreWays) := ⟨rfl, rfl, rfl, by decide +kernel, rfl, by decide +kernel, by decide +kernel⟩
theorem ok_areways {f fR fP : Addr} {fd fdR fdP : FuncData} (F : Fun K "_are_ways" "_are_ways" sAreWays f fd)
    (GR : FnOk P w K mg base CX0 1 fR fdR ["thing"] (spX C rowD)) (bR : Binds K fdR ["thing"] []) (mR : mg "is_row" = some (.ref fR)) (kR : PySem.W.keepIn K (.ref fR) = true)
    (GP : FnOk P w K mg base CX0 6 fP fdP ["thing"] (spX C wayD)) (bP : Binds K fdP ["thing"] []) (mP : mg "_is_way" = some (.ref fP)) (kP : PySem.W.keepIn K (.ref fP) = true)
    (ma : mg "all" = none) : FnOk P w K mg base CX0 7 f fd ["thing"] (spX C waysD) := by
  refine F.ok scAw (fun vs H Q E h => ?_) (fun cdv A outer s H vs Q E hr h => ?_)
  · obtain ⟨b, v, d, rfl, _⟩ := h
    rfl
  · obtain ⟨b, v, d, rfl, hd, hs, hb, q⟩ := h
    have hr1 : Room 1 _ := hr.mono (by decide)
    refine ⟨_, pss_one (ps_ret (pe_and (pe_call GR hr1 (by rfl) mR kR bR .nil pass0 (pa_cons (pv 0) pa_nil))
      (pe_one (pe_callB (cr_all rfl) (by rfl) ma (by decide +kernel) (pa_cons
        (pe_lc (own := [("item", 1)]) (g := gName 1) (tt := tYes) rfl scAw.nd (pi_row (pv 0)) (blkOk_by (N := ["thing", "item"]) (sc := defScope sAreWays) (by decide +kernel))
        (fun _ _ _ _ _ => pg_name (i := 1) scAw.nd rfl (Or.inl rfl)) (fun _ _ _ _ _ => pts_nil) (fun _ _ _ _ _ => pe_call GP hr (by rfl) mP kP bP .nil pass0 (pa_cons (pv 1) pa_nil))) pa_nil))))), ?_⟩
    refine ⟨_, rfl, b, v, d, rfl, hd, hs, hb, fun H1 s1 => ⟨_, rfl, ?_⟩⟩
    have e : waysD d = (rowD d && (itemsD d).all wayD) := rfl
    rw [e] at q
    cases h0 : rowD d with
    | false =>
      rw [h0] at q
      exact q H1 s1
    | true =>
      rw [h0, Bool.true_and] at q
      have hd1 : Dx C H1 b v d := hd.mono fun a o _ e => s1 a o e
      obtain ⟨a, xs, ds, rfl, hdd, hrow, hx⟩ := hd1.row_of (K := K) h0
      rw [rows_items hdd] at q
      obtain ⟨hl, hok⟩ := rows_ok hdd hs
      have hlen := hx.len
      refine ⟨_, rfl, a, xs, rfl, hrow, fun J G wk hG D hD => ?_⟩
      refine lc_it wk (fun i H' => Same H1 H' ∧ H' D = some (.lst ((ds.take i).map fun d => V.bl (wayD d)))) ⟨same_upd hD, upd_same⟩ (fun i H' _ h => hG H' h.1) ?_ ?_
      · rintro i x H' H2 hi ⟨s', e'⟩ ⟨rfl, hxi⟩
        obtain ⟨dx, hdi, hdx⟩ := hx.get hxi
        refine ⟨rfl, _, rfl, b, x, dx, rfl, hdx.mono fun c o _ e => s' c o e, hok.mem dx (List.mem_of_getElem? hdi), there (s1.trans s') hb, fun H3 s3 => ⟨_, s3 _ _ e', ?_, fun c o e => ?_, ?_⟩⟩
        · rw [List.length_map, List.length_take]
          exact small60 (by omega)
        · rw [upd_ne (ne_of_none e hD)]
          exact s3 _ _ (s' c o e)
        · rw [upd_same, take_map_snoc hdi]
      · rintro H2 ⟨s2, e2⟩
        rw [hlen, List.take_length] at e2
        refine ⟨D, ds.map wayD, rfl, SqL.of (by rw [List.map_map]; exact e2), ?_⟩
        rw [List.all_map]
        exact q H2 (s1.trans s2)
end
end Fv


set_option Elab.async false
set_option linter.all false
set_option maxRecDepth 100000
set_option maxHeartbeats 4000000
namespace Fv
open PySem PySem.Spec PyProof.Rows L2
abbrev sChk : Stmt := top 18
def FirstNo (bs : List Bool) (n : Nat) : Prop := bs[n]? = some false ∧ ∀ m : Nat, m < n → bs[m]? = some true
def spChkA (CE : Addr) : Sp := fun vs H Q E => ∃ (a : Addr) (bs : List Bool), vs = [.ref a] ∧ H a = some (.lst (bs.map V.bl)) ∧ (bs.all id = true → ∀ H', Same H H' → Q .non H') ∧
  ∀ n : Nat, FirstNo bs n → ∀ (H1 : Hp) (dx : Addr), Same H H1 → H1 dx = none → E (.ref CE) (some dx) (upd H1 dx (.xd [("place", .int n)]))
section
variable {P : Program} {w : World} {K : PySem.W.Frag} {mg : Str → Option Value} {base : Heap}
theorem scWrong : FnScope ["self", "place"] ["self", "place"] (defScope (inClass (top 3) 0)) := ⟨rfl, rfl, rfl, by decide +kernel, rfl, by decide +kernel, by decide +kernel⟩
theorem own_Wrong {f C : Addr} {fd : FuncData} (F : Fun K "__init__" "Wrong.__init__" (inClass (top 3) 0) f fd) (O : OexC K C) (no : PySem.W.findIn K (.ref C) "place" = some none) (gC : mg "Wrong" = some (.ref C)) (iC : PySem.W.findIn K (.ref C) "__init__" = some (some (.ref f))) (tI : PySem.W.typeIn K (.ref f) = some (.type "function")) : Own1 P w K mg base "Wrong" "place" C := by
  refine ⟨O, gC, f, fd, ["self", "place"], iC, tI, F.ok scWrong (fun vs H Q E h => ?_) (fun cdv A outer s H vs Q E hr h => ?_), F.binds fun _ _ _ _ _ _ us hl => match us, hl with | [_, _], _ => rfl⟩
  · obtain ⟨a, y, rfl, _⟩ := h
    rfl
  · obtain ⟨a, y, rfl, ha, q⟩ := h
    exact ⟨_, pss_one (ps_ost (pv 0) (pv 1)), _, rfl, _, rfl, a, C, rfl, O, no, .inl ⟨ha, q⟩⟩
theorem scNoName : FnScope ["self", "name"] ["self", "name"] (defScope (inClass (top 4) 0)) := ⟨rfl, rfl, rfl, by decide +kernel, rfl, by decide +kernel, by decide +kernel⟩
theorem own_NoName {f C : Addr} {fd : FuncData} (F : Fun K "__init__" "NoName.__init__" (inClass (top 4) 0) f fd) (O : OexC K C) (no : PySem.W.findIn K (.ref C) "name" = some none) (gC : mg "NoName" = some (.ref C)) (iC : PySem.W.findIn K (.ref C) "__init__" = some (some (.ref f))) (tI : PySem.W.typeIn K (.ref f) = some (.type "function")) : Own1 P w K mg base "NoName" "name" C := by
  refine ⟨O, gC, f, fd, ["self", "name"], iC, tI, F.ok scNoName (fun vs H Q E h => ?_) (fun cdv A outer s H vs Q E hr h => ?_), F.binds fun _ _ _ _ _ _ us hl => match us, hl with | [_, _], _ => rfl⟩
  · obtain ⟨a, y, rfl, _⟩ := h
    rfl
  · obtain ⟨a, y, rfl, ha, q⟩ := h
    exact ⟨_, pss_one (ps_ost (pv 0) (pv 1)), _, rfl, _, rfl, a, C, rfl, O, no, .inl ⟨ha, q⟩⟩
theorem scBadKind : FnScope ["self", "name"] ["self", "name"] (defScope (inClass (top 5) 0)) := ⟨rfl, rfl, rfl, by decide +kernel, rfl, by decide +kernel, by decide +kernel⟩
theorem own_BadKind {f C : Addr} {fd : FuncData} (F : Fun K "__init__" "BadKind.__init__" (inClass (top 5) 0) f fd) (O : OexC K C) (no : PySem.W.findIn K (.ref C) "name" = some none) (gC : mg "BadKind" = some (.ref C)) (iC : PySem.W.findIn K (.ref C) "__init__" = some (some (.ref f))) (tI : PySem.W.typeIn K (.ref f) = some (.type "function")) : Own1 P w K mg base "BadKind" "name" C := by
  refine ⟨O, gC, f, fd, ["self", "name"], iC, tI, F.ok scBadKind (fun vs H Q E h => ?_) (fun cdv A outer s H vs Q E hr h => ?_), F.binds fun _ _ _ _ _ _ us hl => match us, hl with | [_, _], _ => rfl⟩
  · obtain ⟨a, y, rfl, _⟩ := h
    rfl
  · obtain ⟨a, y, rfl, ha, q⟩ := h
    exact ⟨_, pss_one (ps_ost (pv 0) (pv 1)), _, rfl, _, rfl, a, C, rfl, O, no, .inl ⟨ha, q⟩⟩
theorem scNoPlace : FnScope ["self", "place"] ["self", "place"] (defScope (inClass (top 6) 0)) := ⟨rfl, rfl, rfl, by decide +kernel, rfl, by decide +kernel, by decide +kernel⟩
theorem own_NoPlace {f C : Addr} {fd : FuncData} (F : Fun K "__init__" "NoPlace.__init__" (inClass (top 6) 0) f fd) (O : OexC K C) (no : PySem.W.findIn K (.ref C) "place" = some none) (gC : mg "NoPlace" = some (.ref C)) (iC : PySem.W.findIn K (.ref C) "__init__" = some (some (.ref f))) (tI : PySem.W.typeIn K (.ref f) = some (.type "function")) : Own1 P w K mg base "NoPlace" "place" C := by
  refine ⟨O, gC, f, fd, ["self", "place"], iC, tI, F.ok scNoPlace (fun vs H Q E h => ?_) (fun cdv A outer s H vs Q E hr h => ?_), F.binds fun _ _ _ _ _ _ us hl => match us, hl with | [_, _], _ => rfl⟩
  · obtain ⟨a, y, rfl, _⟩ := h
    rfl
  · obtain ⟨a, y, rfl, ha, q⟩ := h
    exact ⟨_, pss_one (ps_ost (pv 0) (pv 1)), _, rfl, _, rfl, a, C, rfl, O, no, .inl ⟨ha, q⟩⟩
theorem scCk : FnScope ["rights", "place", "right"] ["rights"] (defScope sChk) := ⟨rfl, rfl, rfl, by decide +kernel, rfl, by decide +kernel, by decide +kernel⟩
theorem ok_chkA {f CE : Addr} {fd : FuncData} (F : Fun K "check_arguments" "check_arguments" sChk f fd) (O : Own1 P w K mg base "Wrong" "place" CE) (me : mg "enumerate" = none) : FnOk P w K mg base (L2.CX P w) 3 f fd ["rights"] (spChkA CE) := by
  refine F.okX scCk (fun vs H Q E h => ?_) (fun cdv A outer s H vs Q E hr h => ?_)
  · obtain ⟨a, bs, rfl, _⟩ := h
    rfl
  · obtain ⟨a, bs, rfl, ha, q, qE⟩ := h
    refine ⟨_, pss_one (ps_for (passes_of rfl) rfl (pi_enum (by rfl) me (pa_cons (pv 0) pa_nil)) (pg_tup (by rfl) (pgs_cons (pg_name (i := 1) scCk.nd rfl (.inl rfl)) (pgs_cons (pg_name (i := 2) scCk.nd rfl (.inl rfl)) pgs_nil)))
      (pss_one (ps_if (pt_not (pt_val (pv 2))) (pss_one (ps_raise (W := fun cls d _ H => E cls d H) rfl (takes_of rfl rfl rfl rfl) (pmk1 O hr (by rfl) (pa_cons (pv 1) pa_nil)))) pss_nil))), ?_⟩
    refine ⟨_, rfl, a, _, rfl, SqL.of ha, ?_⟩
    refine for_it (walk_enum (K := K) (a := a) (xs := bs.map V.bl)) (fun i σ H' => ∃ y1 y2 : Option V, σ = [some (.ref a), y1, y2] ∧ Same H H' ∧ ∀ m : Nat, m < i → bs[m]? = some true) ⟨none, none, rfl, fun _ _ e => e, fun m hm => absurd hm (Nat.not_lt_zero m)⟩ (fun i σ H' _ h => ?_) ?_ ?_
    · obtain ⟨_, _, _, s', _⟩ := h
      exact SqL.of (s' _ _ ha)
    · rintro i x σ H' H2 hi ⟨y1, y2, rfl, s', hb⟩ ⟨T, vi, vx, rfl, nT, rfl, ei, ex⟩
      cases ei
      obtain ⟨t, hti, rfl⟩ : ∃ t, bs[i]? = some t ∧ vx = V.bl t := by
        have ex : (bs.map V.bl)[i]? = some vx := ex
        rw [List.getElem?_map] at ex
        cases e : bs[i]? with
        | none => rw [e] at ex; cases ex
        | some t => rw [e] at ex; exact ⟨t, rfl, (Option.some.inj ex).symm⟩
      have sT := same_upd (o := .tup [.int (i : Nat), .bl t]) nT
      refine ⟨T, _, rfl, SqT.of upd_same, rfl, _, _, rfl, _, _, rfl, rfl, ?_⟩
      refine ⟨_, rfl, _, rfl, ?_⟩
      cases t with
      | true =>
        refine iteF ⟨_, _, rfl, s'.trans sT, fun m hm => ?_⟩
        by_cases z : m = i
        · rw [z]; exact hti
        · exact hb m (by omega)
      | false =>
        refine iteT ⟨_, rfl, fun dx nd => ?_⟩
        exact qE i ⟨hti, hb⟩ _ dx (s'.trans sT) nd
    · rintro σ H' ⟨y1, y2, rfl, s', hb⟩
      refine q ?_ H' s'
      rw [List.all_eq_true]
      intro t ht
      obtain ⟨m, hm, e⟩ := List.getElem_of_mem ht
      have := hb m (by rw [List.length_map]; exact hm)
      rw [List.getElem?_eq_getElem hm, e] at this
      exact Option.some.inj this
end
end Fv


set_option Elab.async false
set_option linter.all false
set_option maxRecDepth 100000
set_option maxHeartbeats 4000000
namespace Fv
open PySem PySem.Spec PyProof.Rows L2
def kindW (w : Str) : Str := if w = "most" then "high" else "low"
def tgSet (e : PyData) : PyData := .tuple [.str (headS e), .str (srcS e), .str ""]
def tgMost (w x : Str) (e : PyData) : PyData := .tuple [.str x, .str (srcS e), .str (kindW w)]
/-- what is set by what, and the kind that the word wants -/
def targetsOf : PyData → List PyData
  | .tuple [.str _, p] => (itemsD p).map tgSet
  | .tuple [.str w, .str x, p] => (itemsD p).map (tgMost w x)
  | _ => []
section
variable {P : Program} {w : World} {K : PySem.W.Frag} {mg : Str → Option Value} {base : Heap} {C : Addr}
end
end Fv


set_option Elab.async false
set_option linter.all false
set_option maxRecDepth 100000
set_option maxHeartbeats 4000000
namespace Fv
open PySem PySem.Spec PyProof.Rows L2
abbrev sHead : Stmt := top 54
/-- a drawn head: kinds, params, results, size, ways -/
def head5 (a pp rr : Addr) (n : Int) (wv : Addr) : List (Key × V) := [(Sum.inr "kinds", .ref a), (Sum.inr "params", .ref pp), (Sum.inr "results", .ref rr), (Sum.inr "size", .int n), (Sum.inr "ways", .ref wv)]
theorem k5 : ¬ (("kinds" : Str) = "params") ∧ ¬ (("kinds" : Str) = "results") ∧ ¬ (("kinds" : Str) = "size") ∧ ¬ (("kinds" : Str) = "ways") ∧ ¬ (("params" : Str) = "results") ∧ ¬ (("params" : Str) = "size") ∧ ¬ (("params" : Str) = "ways") ∧ ¬ (("results" : Str) = "size") ∧ ¬ (("results" : Str) = "ways") ∧ ¬ (("size" : Str) = "ways") := by decide +kernel
theorem head5_merge (a pp rr : Addr) (n : Int) (wv : Addr) : mergeK [] (head5 a pp rr n wv) = head5 a pp rr n wv := by
  obtain ⟨h1, h2, h3, h4, h5, h6, h7, h8, h9, h10⟩ := k5
  unfold head5
  simp [mergeK, putK, h1, h2, h3, h4, h5, h6, h7, h8, h9, h10]
structure HeadOk (H : Hp) (b o : Addr) (a pp rr wv : Addr) (n : Int) (ks : List (Str × Str)) (zs rs : List Str) : Prop where
  oo : H o = some (.dK (head5 a pp rr n wv))
  ob : o ≠ b
  aa : H a = some (.dK (kinV ks))
  ab : a ≠ b
  ok : KindsOk ks
  kl : ks.length ≤ 3
  hp : H pp = some (.tup (zs.map V.str))
  pb : pp ≠ b
  zl : zs.length ≤ 2
  zin : ∀ z ∈ zs, z ∈ ks.map (·.1)
  zn : zs.Nodup
  hr : H rr = some (.tup (rs.map V.str))
  rb : rr ≠ b
  rl : rs.length ≤ 2
  rin : ∀ z ∈ rs, z ∈ ks.map (·.1)
  rn : rs.Nodup
  zq : ("zzzzzzzz" : Str) ∈ ks.map (·.1) → ("qqqqqqqq" : Str) ∈ ks.map (·.1) → False
  n1 : 1 ≤ n
  n4 : n ≤ 4
  ww : H wv = some (.lst [])
  wb : wv ≠ b
  wm : wv ≠ sysModules
def spHead : Sp := fun vs H Q _ => ∃ (b : Addr), vs = [.ref b] ∧ Bag H b ∧
  ∀ (o a pp rr wv : Addr) (n : Int) (ks : List (Str × Str)) (zs rs : List Str) (H' : Hp), H o = none → H a = none → HeadOk H' b o a pp rr wv n ks zs rs → Bag H' b → Keep b H H' → Q (.ref o) H'
abbrev nHd : List Str := ["_law_bag_here", "_law_kinds_here", "_law_params", "_law_results", "_law_size"]
section
variable {P : Program} {w : World} {K : PySem.W.Frag} {mg : Str → Option Value} {base : Heap}
theorem scHd : FnScope nHd ["_law_bag_here"] (defScope sHead) := ⟨rfl, rfl, rfl, by decide +kernel, rfl, by decide +kernel, by decide +kernel⟩
theorem cut_strs (zs : List Str) (k : Nat) : cutV (zs.map V.str) none (some (k : Int)) = (zs.take k).map V.str := by
  rw [cut_to, List.map_take]
theorem ok_head {f fT fN fK fM : Addr} {fd fdT fdN fdK fdM : FuncData} (F : Fun K "_law_head" "_law_head" sHead f fd)
    (GT : FnOk P w K mg base CX0 1 fT fdT ["_law_bag_here", "_law_many"] spTake) (bT : Binds K fdT ["_law_bag_here", "_law_many"] []) (mT : mg "_law_take" = some (.ref fT)) (kT : PySem.W.keepIn K (.ref fT) = true)
    (GN : FnOk P w K mg base CX0 3 fN fdN ["_law_bag_here", "_law_many"] spNames) (bN : Binds K fdN ["_law_bag_here", "_law_many"] []) (mN : mg "_law_names" = some (.ref fN)) (kN : PySem.W.keepIn K (.ref fN) = true)
    (GK : FnOk P w K mg base CX0 2 fK fdK ["_law_bag_here", "_law_names_here"] spKinds) (bK : Binds K fdK ["_law_bag_here", "_law_names_here"] []) (mK : mg "_law_kinds" = some (.ref fK)) (kK : PySem.W.keepIn K (.ref fK) = true)
    (GM : FnOk P w K mg base CX0 2 fM fdM ["_law_bag_here", "_law_things"] (spMixed K)) (bM : Binds K fdM ["_law_bag_here", "_law_things"] []) (mM : mg "_law_mixed" = some (.ref fM)) (kM : PySem.W.keepIn K (.ref fM) = true)
    (mo : mg "sorted" = none) (mt : mg "tuple" = none) : FnOk P w K mg base CX0 4 f fd ["_law_bag_here"] spHead := by
  refine F.ok scHd (fun vs H Q E h => ?_) (fun cdv A outer s H vs Q E hr h => ?_)
  · obtain ⟨b, rfl, _⟩ := h
    rfl
  · obtain ⟨b, rfl, B, q⟩ := h
    have hr1 : Room 1 _ := hr.mono (by decide)
    have hr2 : Room 2 _ := hr.mono (by decide)
    refine ⟨_, pss_cons (ps_set (i := 1) scHd.nd rfl (.inl rfl) (pe_call GK hr2 (by rfl) mK kK bK .nil pass0 (pa_cons (pv 0) (pa_cons
          (pe_call GN hr (by rfl) mN kN bN .nil pass0 (pa_cons (pv 0) (pa_cons (pe_ix (r := rIxL K) ix_list (pe_lst (pa_cons pe_int (pa_cons pe_int (pa_cons pe_int (pa_cons pe_int (pa_cons pe_int (pa_cons pe_int (pa_cons pe_int (pa_cons pe_int pa_nil))))))))) (pe_call GT hr1 (by rfl) mT kT bT .nil pass0 (pa_cons (pv 0) (pa_cons pe_int pa_nil))) (fun _ _ => rfl)) pa_nil))) pa_nil))))
      (pss_cons (ps_set (i := 2) scHd.nd rfl (.inl rfl) (pe_slice sl_list (pe_call GM hr2 (by rfl) mM kM bM .nil pass0 (pa_cons (pv 0) (pa_cons (pe_callB (call_sortedD rfl) (by rfl) mo (by decide +kernel) (pa_cons (pv 1) pa_nil)) pa_nil))) po_none (po_some (pe_call GT hr1 (by rfl) mT kT bT .nil pass0 (pa_cons (pv 0) (pa_cons pe_int pa_nil))))))
      (pss_cons (ps_set (i := 3) scHd.nd rfl (.inl rfl) (pe_slice sl_list (pe_call GM hr2 (by rfl) mM kM bM .nil pass0 (pa_cons (pv 0) (pa_cons (pe_callB (call_sortedD rfl) (by rfl) mo (by decide +kernel) (pa_cons (pv 1) pa_nil)) pa_nil))) po_none (po_some (pe_call GT hr1 (by rfl) mT kT bT .nil pass0 (pa_cons (pv 0) (pa_cons pe_int pa_nil))))))
      (pss_cons (ps_set (i := 4) scHd.nd rfl (.inl rfl) (pe_ix (r := rIxL K) ix_list (pe_lst (pa_cons pe_int (pa_cons pe_int (pa_cons pe_int (pa_cons pe_int (pa_cons pe_int (pa_cons pe_int pa_nil))))))) (pe_call GT hr1 (by rfl) mT kT bT .nil pass0 (pa_cons (pv 0) (pa_cons pe_int pa_nil))) (fun _ _ => rfl)))
      (pss_one (ps_ret (pe_disp (pps_cons pe_str (pv 1) (pps_cons pe_str (pe_callTy call_tuple_of (by rfl) mt boot_tuple (pa_cons (pv 2) pa_nil)) (pps_cons pe_str (pe_callTy call_tuple_of (by rfl) mt boot_tuple (pa_cons (pv 3) pa_nil))
          (pps_cons pe_str (pv 4) (pps_cons pe_str (pe_lstB pa_nil) pps_nil))))) (by rfl) (by rfl) (fun z => by cases z) (by decide))))))), ?_⟩
    obtain ⟨c0, B0⟩ := B
    refine ⟨_, rfl, _, rfl, by show 8 ≤ sizeLine; decide, fun l8 nl8 => ?_⟩
    obtain ⟨B0a, l8b, _⟩ := BagAt.new (o := .lst [.int 1, .int 2, .int 3, .int 1, .int 2, .int 3, .int 2, .int 0]) B0 nl8
    have k0a : Keep b H (upd H l8 (.lst [.int 1, .int 2, .int 3, .int 1, .int 2, .int 3, .int 2, .int 0])) := Keep.new nl8
    have el8 : (upd H l8 (.lst [.int 1, .int 2, .int 3, .int 1, .int 2, .int 3, .int 2, .int 0])) l8 = some (.lst [.int 1, .int 2, .int 3, .int 1, .int 2, .int 3, .int 2, .int 0]) := upd_same
    generalize upd H l8 (.lst [.int 1, .int 2, .int 3, .int 1, .int 2, .int 3, .int 2, .int 0]) = G0a at B0a k0a el8 ⊢
    refine ⟨_, rfl, b, 8, rfl, B0a.bag, by decide, by decide, fun tk H1 h1 B1 k1' g1 => ?_⟩
    have k1 := k0a.trans k1'
    obtain ⟨m0, hm0, lm0⟩ : ∃ m0 : Nat, ([.int 1, .int 2, .int 3, .int 1, .int 2, .int 3, .int 2, .int 0] : List V)[tk]? = some (.int (m0 : Int)) ∧ m0 ≤ 3 := by
      match tk, h1 with
      | 0, _ => exact ⟨1, rfl, by decide⟩
      | 1, _ => exact ⟨2, rfl, by decide⟩
      | 2, _ => exact ⟨3, rfl, by decide⟩
      | 3, _ => exact ⟨1, rfl, by decide⟩
      | 4, _ => exact ⟨2, rfl, by decide⟩
      | 5, _ => exact ⟨3, rfl, by decide⟩
      | 6, _ => exact ⟨2, rfl, by decide⟩
      | 7, _ => exact ⟨0, rfl, by decide⟩
      | k + 8, h => omega
    refine ⟨l8, _, _, _, rfl, rfl, SqL.of (k1' _ _ l8b el8), atI_nat hm0, b, m0, rfl, B1, by omega, fun pz zs H2 ez lz pzb zok _ zq B2 k2 _ => ?_⟩
    refine ⟨b, pz, zs, rfl, B2, pzb, ez, by omega, zok, fun a ks H3 na ea ok kin kl kne B3 k3 _ => ?_⟩
    have ab : a ≠ b := fun z => by
      obtain ⟨o, ho⟩ := Bag.at_b B2
      rw [z, ho] at na
      cases na
    have na0 : H a = none := by
      cases e : H a with
      | none => rfl
      | some v =>
        rw [(k1.trans k2) _ _ ab e] at na
        cases na
    have k03 := (k1.trans k2).trans k3
    have ksl : ks.length ≤ 3 := by omega
    obtain ⟨c3, B3c⟩ := B3
    clear k1 k2 k3 B1 B2
    dsimp only [gName]
    refine ⟨_, rfl, _, rfl, a, kinV ks, ks.map (·.1), rfl, .inl ea, kin_keys ks, by rw [List.length_map]; omega, fun ys n hperm _ nn => ?_⟩
    obtain ⟨B4, nb, _⟩ := BagAt.new (o := .lst (ys.map V.str)) B3c nn
    have k4 : Keep b H3 (upd H3 n (.lst (ys.map V.str))) := Keep.new nn
    have en := (upd_same : (upd H3 n (.lst (ys.map V.str))) n = some (.lst (ys.map V.str)))
    generalize upd H3 n (.lst (ys.map V.str)) = H4 at B4 k4 en ⊢
    have yl : ys.length ≤ 3 := by rw [hperm.length_eq, List.length_map]; exact ksl
    refine ⟨b, n, ys.map V.str, rfl, BagAt.bag B4, nb, en, by rw [List.length_map]; omega, fun L ms H5 nL mL eL permL B5 k5 g5 => ?_⟩
    obtain ⟨zs', rfl, pzs⟩ : ∃ zs' : List Str, ms = zs'.map V.str ∧ zs'.Perm ys := strs_perm permL
    have zin : ∀ z ∈ zs', z ∈ ks.map (·.1) := fun z hz => hperm.mem_iff.mp (pzs.mem_iff.mp hz)
    have znd : zs'.Nodup := (pzs.trans hperm).nodup_iff.mpr ok.nd
    have B5c := g5 _ B4
    have Lb : L ≠ b := fun z => by
      obtain ⟨o, ho⟩ := Bag.at_b (BagAt.bag B4)
      rw [z, ho] at nL
      cases nL
    refine ⟨_, rfl, b, 3, rfl, BagAt.bag B5c, by decide, by decide, fun r2 H6 h6 B6 k6 g6 => ?_⟩
    have B6c := g6 _ B5c
    refine ⟨_, rfl, L, zs'.map V.str, rfl, SqL.of (k6 _ _ Lb eL), fun p2 np2 => ?_⟩
    rw [cut_strs]
    obtain ⟨B7, p2b, _⟩ := BagAt.new (o := .lst ((zs'.take r2).map V.str)) B6c np2
    have k7 : Keep b H6 (upd H6 p2 (.lst ((zs'.take r2).map V.str))) := Keep.new np2
    have ep2 := (upd_same : (upd H6 p2 (.lst ((zs'.take r2).map V.str))) p2 = some (.lst ((zs'.take r2).map V.str)))
    generalize upd H6 p2 (.lst ((zs'.take r2).map V.str)) = H7 at B7 k7 ep2 ⊢
    have k37 := (k4.trans k5).trans (k6.trans k7)
    have ea7 := k37 _ _ ab ea
    clear k4 k5 k6 k7 en eL
    dsimp only [gName]
    refine ⟨_, rfl, _, rfl, a, kinV ks, ks.map (·.1), rfl, .inl ea7, kin_keys ks, by rw [List.length_map]; omega, fun ys2 n2 hperm2 _ nn2 => ?_⟩
    obtain ⟨B8, n2b, _⟩ := BagAt.new (o := .lst (ys2.map V.str)) B7 nn2
    have k8 : Keep b H7 (upd H7 n2 (.lst (ys2.map V.str))) := Keep.new nn2
    have en2 := (upd_same : (upd H7 n2 (.lst (ys2.map V.str))) n2 = some (.lst (ys2.map V.str)))
    generalize upd H7 n2 (.lst (ys2.map V.str)) = H8 at B8 k8 en2 ⊢
    have yl2 : ys2.length ≤ 3 := by rw [hperm2.length_eq, List.length_map]; exact ksl
    refine ⟨b, n2, ys2.map V.str, rfl, BagAt.bag B8, n2b, en2, by rw [List.length_map]; omega, fun L2' ms2 H9 nL2 mL2 eL2 permL2 B9 k9 g9 => ?_⟩
    obtain ⟨rs', rfl, prs⟩ : ∃ rs' : List Str, ms2 = rs'.map V.str ∧ rs'.Perm ys2 := strs_perm permL2
    have rin : ∀ z ∈ rs', z ∈ ks.map (·.1) := fun z hz => hperm2.mem_iff.mp (prs.mem_iff.mp hz)
    have rnd : rs'.Nodup := (prs.trans hperm2).nodup_iff.mpr ok.nd
    have B9c := g9 _ B8
    have L2b : L2' ≠ b := fun z => by
      obtain ⟨o, ho⟩ := Bag.at_b (BagAt.bag B8)
      rw [z, ho] at nL2
      cases nL2
    refine ⟨_, rfl, b, 3, rfl, BagAt.bag B9c, by decide, by decide, fun r3 H10 h10 B10 k10 g10 => ?_⟩
    have B10c := g10 _ B9c
    refine ⟨_, rfl, L2', rs'.map V.str, rfl, SqL.of (k10 _ _ L2b eL2), fun p3 np3 => ?_⟩
    rw [cut_strs]
    obtain ⟨B11, p3b, _⟩ := BagAt.new (o := .lst ((rs'.take r3).map V.str)) B10c np3
    have k11 : Keep b H10 (upd H10 p3 (.lst ((rs'.take r3).map V.str))) := Keep.new np3
    have ep3 := (upd_same : (upd H10 p3 (.lst ((rs'.take r3).map V.str))) p3 = some (.lst ((rs'.take r3).map V.str)))
    generalize upd H10 p3 (.lst ((rs'.take r3).map V.str)) = H11 at B11 k11 ep3 ⊢
    have k711 := (k8.trans k9).trans (k10.trans k11)
    clear k8 k9 k10 k11 en2 eL2
    dsimp only [gName]
    refine ⟨by show 6 ≤ sizeLine; decide, fun S nS => ?_⟩
    obtain ⟨B12, Sb, _⟩ := BagAt.new (o := .lst [.int 1, .int 2, .int 2, .int 3, .int 3, .int 4]) B11 nS
    have k12 : Keep b H11 (upd H11 S (.lst [.int 1, .int 2, .int 2, .int 3, .int 3, .int 4])) := Keep.new nS
    have eS := (upd_same : (upd H11 S (.lst [.int 1, .int 2, .int 2, .int 3, .int 3, .int 4])) S = some (.lst [.int 1, .int 2, .int 2, .int 3, .int 3, .int 4]))
    generalize upd H11 S (.lst [.int 1, .int 2, .int 2, .int 3, .int 3, .int 4]) = H12 at B12 k12 eS ⊢
    refine ⟨_, rfl, b, 6, rfl, BagAt.bag B12, by decide, by decide, fun r4 H13 h13 B13 k13 g13 => ?_⟩
    have B13c := g13 _ B12
    obtain ⟨m, em, m1, m4⟩ : ∃ m : Int, ([.int 1, .int 2, .int 2, .int 3, .int 3, .int 4] : List V)[r4]? = some (.int m) ∧ 1 ≤ m ∧ m ≤ 4 := by
      have h6' : r4 < 6 := by omega
      match r4, h6' with
      | 0, _ => exact ⟨1, rfl, by decide, by decide⟩
      | 1, _ => exact ⟨2, rfl, by decide, by decide⟩
      | 2, _ => exact ⟨2, rfl, by decide, by decide⟩
      | 3, _ => exact ⟨3, rfl, by decide, by decide⟩
      | 4, _ => exact ⟨3, rfl, by decide, by decide⟩
      | 5, _ => exact ⟨4, rfl, by decide, by decide⟩
    refine ⟨S, _, r4, _, rfl, rfl, SqL.of (k13 _ _ Sb eS), atI_nat em, ?_⟩
    have k1113 := k12.trans k13
    have ea13 := k1113 _ _ ab (k711 _ _ ab ea7)
    have ep2' := k1113 _ _ p2b (k711 _ _ p2b ep2)
    have ep3' := k1113 _ _ p3b ep3
    have k013 : Keep b H H13 := (k03.trans k37).trans (k711.trans k1113)
    clear k12 k13 k37 k711 k1113 ea7 ep2 ep3
    dsimp only [gName]
    refine fun p np => ?_
    obtain ⟨B14, pb, pc⟩ := BagAt.new (o := .dK []) B13c np
    have k14 : Keep b H13 (upd H13 p (.dK [])) := Keep.new np
    have ep14 := (upd_same : (upd H13 p (.dK [])) p = some (.dK []))
    have pa : a ≠ p := ne_of_none ea13 np
    have oH : ∀ c o, c ≠ b → H c = some o → c ≠ p := fun c o n e => ne_of_none (k013 _ _ n e) np
    generalize upd H13 p (.dK []) = H14 at B14 k14 ep14 ⊢
    have ep2a := k14 _ _ p2b ep2'
    have ep3a := k14 _ _ p3b ep3'
    refine ⟨_, rfl, _, rfl, p2, _, rfl, .inl ⟨SqL.of ep2a, fun pp npp => ?_⟩⟩
    obtain ⟨B15, ppb, _⟩ := BagAt.new (o := .tup ((zs'.take r2).map V.str)) B14 npp
    have k15 : Keep b H14 (upd H14 pp (.tup ((zs'.take r2).map V.str))) := Keep.new npp
    have epp := (upd_same : (upd H14 pp (.tup ((zs'.take r2).map V.str))) pp = some (.tup ((zs'.take r2).map V.str)))
    have pp_p : pp ≠ p := (ne_of_none ep14 npp).symm
    generalize upd H14 pp (.tup ((zs'.take r2).map V.str)) = H15 at B15 k15 epp ⊢
    refine ⟨_, rfl, p3, _, rfl, .inl ⟨SqL.of (k15 _ _ p3b ep3a), fun rr nrr => ?_⟩⟩
    obtain ⟨B16, rrb, _⟩ := BagAt.new (o := .tup ((rs'.take r3).map V.str)) B15 nrr
    have k16 : Keep b H15 (upd H15 rr (.tup ((rs'.take r3).map V.str))) := Keep.new nrr
    have err := (upd_same : (upd H15 rr (.tup ((rs'.take r3).map V.str))) rr = some (.tup ((rs'.take r3).map V.str)))
    have rr_p : rr ≠ p := (ne_of_none (k15 _ _ pb ep14) nrr).symm
    generalize upd H15 rr (.tup ((rs'.take r3).map V.str)) = H16 at B16 k16 err ⊢
    refine ⟨_, rfl, Nat.zero_le _, fun wv nwv mwv => ?_⟩
    obtain ⟨B17, wvb, _⟩ := BagAt.new (o := .lst []) B16 nwv
    have k17 : Keep b H16 (upd H16 wv (.lst [])) := Keep.new nwv
    have ewv := (upd_same : (upd H16 wv (.lst [])) wv = some (.lst []))
    have wv_p : wv ≠ p := (ne_of_none (k16 _ _ pb (k15 _ _ pb ep14)) nwv).symm
    generalize upd H16 wv (.lst []) = H17 at B17 k17 ewv ⊢
    have k1417 := (k15.trans k16).trans k17
    refine ⟨k1417 _ _ pb ep14, head5 a pp rr m wv, rfl, by show 5 ≤ 15; decide, ?_⟩
    rw [head5_merge]
    have np0 : H p = none := by
      cases e : H p with
      | none => rfl
      | some o => exact absurd rfl (oH p o pb e)
    have zqk : ("zzzzzzzz" : Str) ∈ ks.map (·.1) → ("qqqqqqqq" : Str) ∈ ks.map (·.1) → False := fun h1 h2 => by
      obtain ⟨p1, hp1, e1⟩ := List.mem_map.mp h1
      obtain ⟨p2, hp2, e2⟩ := List.mem_map.mp h2
      exact zq.1 (by rw [← e1]; exact kin p1 hp1) (by rw [← e2]; exact kin p2 hp2)
    refine q p a pp rr wv m ks (zs'.take r2) (rs'.take r3) _ np0 na0 ⟨upd_same, pb, ?_, ab, ok, ksl, ?_, ppb, by rw [List.length_take]; omega, fun z hz => zin z (List.mem_of_mem_take hz), List.Nodup.sublist (List.take_sublist _ _) znd, ?_, rrb, by rw [List.length_take]; omega, fun z hz => rin z (List.mem_of_mem_take hz), List.Nodup.sublist (List.take_sublist _ _) rnd, zqk, m1, m4, ?_, wvb, mwv⟩ (BagAt.bag (B17.put pb pc)) fun c o n e => ?_
    · rw [upd_ne pa]
      exact k1417 _ _ ab (k14 _ _ ab ea13)
    · rw [upd_ne pp_p]
      exact (k16.trans k17) _ _ ppb epp
    · rw [upd_ne rr_p]
      exact k17 _ _ rrb err
    · rw [upd_ne wv_p]
      exact ewv
    · rw [upd_ne (oH c o n e)]
      exact k1417 _ _ n (k14 _ _ n (k013 _ _ n e))
end
end Fv


set_option Elab.async false
set_option linter.all false
set_option maxRecDepth 100000
set_option maxHeartbeats 4000000
namespace Fv
open PySem PySem.Spec PyProof.Rows L2
def firstS : PyData → Str
  | .tuple (.str x :: _) => x
  | _ => ""
def secondS : PyData → Str
  | .tuple (_ :: .str x :: _) => x
  | _ => ""
def flat2 (e : PyData) : List Str := [firstS e, secondS e]
/-- the names that a statement speaks of, "" among them -/
def usedOf : PyData → List Str
  | .tuple [.str _, .str _, p, r] => (itemsD p).map srcS ++ (itemsD r).map strS
  | d => (targetsOf d).flatMap flat2
theorem tg_shape {d e : PyData} (h : stD d = true) (he : e ∈ targetsOf d) : ∃ x y k, e = .tuple [.str x, .str y, .str k] := by
  have sh := st_shape h
  cases sh with
  | skip => cases he
  | @set zp hp =>
    obtain ⟨e0, h0, rfl⟩ := List.mem_map.mp (show e ∈ (itemsD zp).map tgSet from he)
    exact ⟨_, _, _, rfl⟩
  | @most zw zx zp hw h2 h3 h4 =>
    obtain ⟨e0, h0, rfl⟩ := List.mem_map.mp (show e ∈ (itemsD zp).map (tgMost zw zx) from he)
    exact ⟨_, _, _, rfl⟩
  | @call zx zp zr h2 h3 h4 => cases he
section
variable {P : Program} {w : World} {K : PySem.W.Frag} {mg : Str → Option Value} {base : Heap} {C : Addr}
end
end Fv


set_option Elab.async false
set_option linter.all false
set_option maxRecDepth 100000
set_option maxHeartbeats 4000000
namespace Fv
open PySem PySem.Spec PyProof.Rows L2
abbrev sChkP : Stmt := top 40
def placesOf : PyData → List Int
  | .tuple [.int i, .int j, _] => [i, j]
  | _ => []
/-- ways as they are kept -/
def WaysF (ds : List PyData) : Prop := ∀ e ∈ ds, ∃ (i j : Int) (s : PyData), e = .tuple [.int i, .int j, s]
def spPlaces (CE : Addr) : Sp := fun vs H Q E => ∃ (b p : Addr) (xs : List V) (ds : List PyData) (sz : Int), vs = [.int sz, .ref p] ∧ H p = some (.lst xs) ∧ DqAll H b xs ds ∧ WaysF ds ∧
  ((ds.flatMap placesOf).find? (fun z => decide (sz ≤ z)) = none → ∀ H', Same H H' → Q .non H') ∧
  ∀ z : Int, (ds.flatMap placesOf).find? (fun z => decide (sz ≤ z)) = some z → ∀ (H1 : Hp) (dx : Addr), Same H H1 → H1 dx = none → E (.ref CE) (some dx) (upd H1 dx (.xd [("place", .int z)]))
abbrev nCp : List Str := ["size", "ways", "begin", "end", "_", "place"]
section
variable {P : Program} {w : World} {K : PySem.W.Frag} {mg : Str → Option Value} {base : Heap}
theorem scCp : FnScope nCp ["size", "ways"] (defScope sChkP) := ⟨rfl, rfl, rfl, by decide +kernel, rfl, by decide +kernel, by decide +kernel⟩
theorem ok_places {f CE : Addr} {fd : FuncData} (F : Fun K "_check_places" "_check_places" sChkP f fd) (O : Own1 P w K mg base "NoPlace" "place" CE) : FnOk P w K mg base (L2.CX P w) 3 f fd ["size", "ways"] (spPlaces CE) := by
  refine F.okX scCp (fun vs H Q E h => ?_) (fun cdv A outer s H vs Q E hr h => ?_)
  · obtain ⟨b, p, xs, ds, sz, rfl, _⟩ := h
    rfl
  · obtain ⟨b, p, xs, ds, sz, rfl, hp, hx, hw, q, qE⟩ := h
    refine ⟨_, pss_one (ps_for (passes_of rfl) rfl (pi_list (pv 1)) (pg_tup (by rfl) (pgs_cons (pg_name (i := 2) scCp.nd rfl (.inl rfl)) (pgs_cons (pg_name (i := 3) scCp.nd rfl (.inl rfl)) (pgs_cons (pg_name (i := 4) scCp.nd rfl (.inl rfl)) pgs_nil))))
      (pss_one (ps_for (passes_of rfl) rfl (pi_tup (pe_tup (pa_cons (pv 2) (pa_cons (pv 3) pa_nil)))) (pg_name (i := 5) scCp.nd rfl (.inl rfl))
        (pss_one (ps_if (pt_cmpR op_ge (pv 5) (pv 0) (nomark _)) (pss_one (ps_raise (W := fun cls d _ H => E cls d H) rfl (takes_of rfl rfl rfl rfl) (pmk1 O hr (by rfl) (pa_cons (pv 5) pa_nil)))) pss_nil))))), ?_⟩
    refine ⟨_, rfl, p, rfl, ⟨_, SqL.of hp⟩, ?_⟩
    refine for_list (K := K) (a := p) (xs := xs) (fun i σ H' => ∃ y2 y3 y4 y5 : Option V, σ = [some (.int sz), some (.ref p), y2, y3, y4, y5] ∧ Same H H' ∧ ((ds.take i).flatMap placesOf).find? (fun z => decide (sz ≤ z)) = none)
      ⟨none, none, none, none, rfl, fun _ _ e => e, rfl⟩ (fun i σ H' _ h => ?_) ?_ ?_
    · obtain ⟨_, _, _, _, _, s', _⟩ := h
      exact SqL.of (s' _ _ hp)
    · rintro i x σ H' hxi ⟨y2, y3, y4, y5, rfl, s', hn⟩
      obtain ⟨e, hdi, hdx⟩ := hx.at_ hxi
      obtain ⟨k, j, st, rfl⟩ := hw e (List.mem_of_getElem? hdi)
      obtain ⟨ae, xs0, ds0, rfl, _, ee, e3, hv⟩ := hdx.tup_of rfl
      cases ee
      obtain ⟨v1, v2, v3, rfl⟩ := three_of hv.len
      obtain ⟨_, _, _, ee, g4, g5, g6⟩ := hv.three
      cases ee
      cases g4
      cases g5
      have pre : ∀ (l : List Int), (∃ r, ds.flatMap placesOf = (ds.take i).flatMap placesOf ++ (l ++ r)) → ∀ z, l.find? (fun z => decide (sz ≤ z)) = some z → (ds.flatMap placesOf).find? (fun z => decide (sz ≤ z)) = some z := fun l ⟨r, e⟩ z hz => by
        rw [e, List.find?_append, hn, Option.none_or, List.find?_append, hz, Option.some_or]
      have split : ∃ r, ds.flatMap placesOf = (ds.take i).flatMap placesOf ++ ([k, j] ++ r) := by
        refine ⟨(ds.drop (i + 1)).flatMap placesOf, ?_⟩
        have : ds = ds.take i ++ (.tuple [.int k, .int j, st] :: ds.drop (i + 1)) := by
          have hlt := (List.getElem?_eq_some_iff.mp hdi).1
          have e2 := (List.getElem?_eq_some_iff.mp hdi).2
          rw [← e2, ← List.drop_eq_getElem_cons hlt, List.take_append_drop]
        conv => lhs; rw [this]
        rw [List.flatMap_append, List.flatMap_cons]
        rfl
      refine ⟨ae, _, rfl, SqT.of (s' _ _ e3), rfl, _, _, rfl, _, _, rfl, _, _, rfl, rfl, ?_⟩
      refine ⟨_, rfl, _, rfl, by show 2 ≤ sizeLine; decide, fun t nt => ⟨t, rfl, ⟨_, SqT.of upd_same⟩, ?_⟩⟩
      have w1 := same_upd (o := .tup [.int k, .int j]) nt
      have et := (upd_same : (upd H' t (.tup [.int k, .int j])) t = some (.tup [.int k, .int j]))
      generalize upd H' t (.tup [.int k, .int j]) = G at w1 et ⊢
      have s1 := s'.trans w1
      refine for_tup (K := K) (a := t) (xs := [.int k, .int j]) (fun m σ H2 => ∃ y5 : Option V, σ = [some (.int sz), some (.ref p), some (.int k), some (.int j), some v3, y5] ∧ Same G H2 ∧ (([k, j] : List Int).take m).find? (fun z => decide (sz ≤ z)) = none)
        ⟨_, rfl, fun _ _ e => e, rfl⟩ (fun m σ H2 _ h => ?_) ?_ ?_
      · obtain ⟨_, _, s2, _⟩ := h
        exact SqT.of (s2 _ _ et)
      · rintro m x σ H2 hm ⟨y5, rfl, s2, hn2⟩
        obtain ⟨z, hz, rfl⟩ : ∃ z : Int, ([k, j] : List Int)[m]? = some z ∧ x = .int z := by
          match m with
          | 0 => cases hm; exact ⟨k, rfl, rfl⟩
          | 1 => cases hm; exact ⟨j, rfl, rfl⟩
          | m + 2 => cases hm
        refine ⟨_, rfl, _, rfl, z, sz, rfl, rfl, _, rfl, ?_⟩
        have tk : ([k, j] : List Int).take (m + 1) = ([k, j] : List Int).take m ++ [z] := by
          rw [List.take_add_one, hz]
          rfl
        by_cases hzs : sz ≤ z
        · rw [decide_eq_true hzs]
          refine iteT ⟨_, rfl, fun dx nd => ?_⟩
          obtain ⟨r, er⟩ := split
          refine qE z (pre (([k, j] : List Int).take (m + 1)) ⟨([k, j] : List Int).drop (m + 1) ++ r, ?_⟩ z ?_) _ dx (s1.trans s2) nd
          · rw [er, ← List.append_assoc (List.take (m + 1) [k, j]), List.take_append_drop]
          · rw [tk, List.find?_append, hn2, Option.none_or]
            simp [hzs]
        · rw [decide_eq_false hzs]
          refine iteF ⟨_, rfl, s2, ?_⟩
          rw [tk, List.find?_append, hn2, Option.none_or]
          simp [hzs]
      · rintro σ H2 ⟨y5, rfl, s2, hn2⟩
        refine ⟨_, _, _, _, rfl, s1.trans s2, ?_⟩
        rw [List.take_add_one, hdi]
        show ((ds.take i ++ [PyData.tuple [.int k, .int j, st]]).flatMap placesOf).find? _ = none
        rw [List.flatMap_append, List.find?_append, hn, Option.none_or]
        exact hn2
    · rintro σ H' ⟨y2, y3, y4, y5, rfl, s', hn⟩
      rw [hx.len, List.take_length] at hn
      exact q hn H' s'
end
end Fv


set_option Elab.async false
set_option linter.all false
set_option maxRecDepth 100000
set_option maxHeartbeats 4000000
namespace Fv
open PySem PySem.Spec PyProof.Rows L2
abbrev sChkN : Stmt := top 39
/-- the sorted names of each way's statement -/
structure WaysS (ds : List PyData) (nss : List (List Str)) : Prop where
  len : nss.length = ds.length
  at_ : ∀ (i : Nat) (e : PyData), ds[i]? = some e → ∃ (k j : Int) (st : PyData) (ns : List Str), e = .tuple [.int k, .int j, st] ∧ okD st ∧ stD st = true ∧ (setsOf st).length + (readsOf st).length < 64 ∧ nss[i]? = some ns ∧ ns.Perm (setsOf st ++ readsOf st) ∧ sortedS ns = true
def missing (kvs : List (Key × V)) (z : Str) : Bool := !(valV kvs (Sum.inr z)).isSome
def spChkN (CE : Addr) : Sp := fun vs H Q E => ∃ (b kd pe p : Addr) (kvs : List (Key × V)) (es : List Str) (xs : List V) (ds : List PyData) (nss : List (List Str)), vs = [.ref kd, .ref pe, .ref p] ∧ (∃ o, H b = some o) ∧ H kd = some (.dK kvs) ∧ H pe = some (.tup (es.map V.str)) ∧ H p = some (.lst xs) ∧ DqAll H b xs ds ∧ WaysS ds nss ∧
  ((es ++ nss.flatten).find? (missing kvs) = none → ∀ H', Same H H' → Q .non H') ∧
  ∀ z : Str, (es ++ nss.flatten).find? (missing kvs) = some z → ∀ (H1 : Hp) (dx : Addr), Same H H1 → H1 dx = none → E (.ref CE) (some dx) (upd H1 dx (.xd [("name", .str z)]))
abbrev nCn : List Str := ["kinds", "ends", "ways", "name", "_", "statement"]
theorem find_take {α : Type} {f : α → Bool} {l : List α} {i : Nat} {x : α} (h : l[i]? = some x) (hn : (l.take i).find? f = none) (hx : f x = true) (r : List α) : (l ++ r).find? f = some x := by
  have hlt := (List.getElem?_eq_some_iff.mp h).1
  have e2 := (List.getElem?_eq_some_iff.mp h).2
  have : l = l.take i ++ (x :: l.drop (i + 1)) := by
    rw [← e2, ← List.drop_eq_getElem_cons hlt, List.take_append_drop]
  rw [this, List.append_assoc, List.find?_append, hn, Option.none_or, List.cons_append, List.find?_cons, hx]
theorem find_snoc {α : Type} {f : α → Bool} {l : List α} {i : Nat} {x : α} (h : l[i]? = some x) (hn : (l.take i).find? f = none) (hx : f x = false) : (l.take (i + 1)).find? f = none := by
  rw [List.take_add_one, h, List.find?_append, hn, Option.none_or]
  simp [hx]
section
variable {P : Program} {w : World} {K : PySem.W.Frag} {mg : Str → Option Value} {base : Heap}
theorem scCn : FnScope nCn ["kinds", "ends", "ways"] (defScope sChkN) := ⟨rfl, rfl, rfl, by decide +kernel, rfl, by decide +kernel, by decide +kernel⟩
theorem ok_chknames {f fS fR CE : Addr} {fd fdS fdR : FuncData} (F : Fun K "_check_names" "_check_names" sChkN f fd) (O : Own1 P w K mg base "NoName" "name" CE)
    (GS : FnOk P w K mg base CX0 1 fS fdS ["statement"] spSetsOf) (bS : Binds K fdS ["statement"] []) (mS : mg "sets" = some (.ref fS)) (kS : PySem.W.keepIn K (.ref fS) = true)
    (GR : FnOk P w K mg base CX0 2 fR fdR ["statement"] spReads) (bR : Binds K fdR ["statement"] []) (mR : mg "reads" = some (.ref fR)) (kR : PySem.W.keepIn K (.ref fR) = true)
    (mo : mg "sorted" = none) : FnOk P w K mg base (L2.CX P w) 3 f fd ["kinds", "ends", "ways"] (spChkN CE) := by
  refine F.okX scCn (fun vs H Q E h => ?_) (fun cdv A outer s H vs Q E hr h => ?_)
  · obtain ⟨b, kd, pe, p, kvs, es, xs, ds, nss, rfl, _⟩ := h
    rfl
  · obtain ⟨b, kd, pe, p, kvs, es, xs, ds, nss, rfl, ⟨ob, hob⟩, hk, he, hp, hx, hw, q, qE⟩ := h
    have hr1 : Room 1 _ := hr.mono (by decide)
    have hu := hu_of hr
    refine ⟨_, pss_cons (ps_for (passes_of rfl) rfl (pi_tup (pv 1)) (pg_name (i := 3) scCn.nd rfl (.inl rfl))
        (pss_one (ps_if (pt_cmp (pc_dnotin hu (pv 3) (pv 0))) (pss_one (ps_raise (W := fun cls d _ H => E cls d H) rfl (takes_of rfl rfl rfl rfl) (pmk1 O hr (by rfl) (pa_cons (pv 3) pa_nil)))) pss_nil)))
      (pss_one (ps_for (passes_of rfl) rfl (pi_list (pv 2)) (pg_tup (by rfl) (pgs_cons (pg_name (i := 4) scCn.nd rfl (.inl rfl)) (pgs_cons (pg_name (i := 4) scCn.nd rfl (.inl rfl)) (pgs_cons (pg_name (i := 5) scCn.nd rfl (.inl rfl)) pgs_nil))))
        (pss_one (ps_for (passes_of rfl) rfl (pi_list (pe_callB (r := rSortB K) call_sortB (by rfl) mo (by decide +kernel) (pa_cons (pe_op op_cat (pe_call GS hr1 (by rfl) mS kS bS .nil pass0 (pa_cons (pv 5) pa_nil)) (pe_call GR hr (by rfl) mR kR bR .nil pass0 (pa_cons (pv 5) pa_nil))) pa_nil))) (pg_name (i := 3) scCn.nd rfl (.inl rfl))
          (pss_one (ps_if (pt_cmp (pc_dnotin hu (pv 3) (pv 0))) (pss_one (ps_raise (W := fun cls d _ H => E cls d H) rfl (takes_of rfl rfl rfl rfl) (pmk1 O hr (by rfl) (pa_cons (pv 3) pa_nil)))) pss_nil)))))), ?_⟩
    refine ⟨_, rfl, pe, rfl, ⟨_, SqT.of he⟩, ?_⟩
    refine for_tup (K := K) (a := pe) (xs := es.map V.str) (fun i σ H' => ∃ y3 : Option V, σ = [some (.ref kd), some (.ref pe), some (.ref p), y3, none, none] ∧ Same H H' ∧ (es.take i).find? (missing kvs) = none)
      ⟨none, rfl, fun _ _ e => e, rfl⟩ (fun i σ H' _ h => ?_) ?_ ?_
    · obtain ⟨_, _, s', _⟩ := h
      exact SqT.of (s' _ _ he)
    · rintro i x σ H' hxi ⟨y3, rfl, s', hn⟩
      obtain ⟨z, hzi, rfl⟩ : ∃ z, es[i]? = some z ∧ x = V.str z := by
        rw [List.getElem?_map] at hxi
        cases e : es[i]? with
        | none => rw [e] at hxi; cases hxi
        | some z => rw [e] at hxi; exact ⟨z, rfl, (Option.some.inj hxi).symm⟩
      refine ⟨_, rfl, _, rfl, kd, _, rfl, DGet.k (k := Sum.inr z) (s' _ _ hk), _, rfl, ?_⟩
      show if missing kvs z = true then _ else _
      cases hm : missing kvs z with
      | true => exact iteT ⟨_, rfl, fun dx nd => qE z (find_take hzi hn hm _) _ dx s' nd⟩
      | false => exact iteF ⟨_, rfl, s', find_snoc hzi hn hm⟩
    · rintro σ H1 ⟨y3, rfl, s1, hn⟩
      rw [List.length_map, List.take_length] at hn
      dsimp only
      have qN : ∀ z, nss.flatten.find? (missing kvs) = some z → (es ++ nss.flatten).find? (missing kvs) = some z := fun z h => by
        rw [List.find?_append, hn, Option.none_or]
        exact h
      refine ⟨_, rfl, p, rfl, ⟨_, SqL.of (s1 _ _ hp)⟩, ?_⟩
      refine for_list (K := K) (a := p) (xs := xs) (fun i σ H' => ∃ y3 y4 y5 : Option V, σ = [some (.ref kd), some (.ref pe), some (.ref p), y3, y4, y5] ∧ Same H H' ∧ ((nss.take i).flatten).find? (missing kvs) = none)
        ⟨_, _, _, rfl, s1, rfl⟩ (fun i σ H' _ h => ?_) ?_ ?_
      · obtain ⟨_, _, _, _, s', _⟩ := h
        exact SqL.of (s' _ _ hp)
      · rintro i x σ H' hxi ⟨y3, y4, y5, rfl, s', hm⟩
        obtain ⟨e, hdi, hdx⟩ := hx.at_ hxi
        obtain ⟨k, j, st, ns, rfl, okst, stst, lst, hns, pns, sns⟩ := hw.at_ i e hdi
        obtain ⟨ae, xs0, ds0, rfl, _, ee, e3, hv⟩ := hdx.tup_of rfl
        cases ee
        obtain ⟨v1, v2, v3, rfl⟩ := three_of hv.len
        obtain ⟨_, _, _, ee, g4, g5, g6⟩ := hv.three
        cases ee
        cases g4
        cases g5
        have g6' := g6.mono (b := b) fun c o _ e => s' c o e
        refine ⟨ae, _, rfl, SqT.of (s' _ _ e3), rfl, _, _, rfl, _, _, rfl, _, _, rfl, rfl, ?_⟩
        refine ⟨_, rfl, b, v3, st, rfl, g6', okst, stst, fun G1 q1 ys1 t1 n1 w1 p1 so1 e1 => ?_⟩
        refine ⟨_, rfl, b, v3, st, rfl, g6'.mono (b := b) (fun c o _ e => t1 c o e), okst, stst, ⟨_, t1 _ _ (s' _ _ hob)⟩, fun G2 q2 ys2 t2 n2 w2 p2 so2 e2 => ?_⟩
        have l1 := p1.length_eq
        have l2 := p2.length_eq
        refine ⟨q1, q2, _, _, rfl, rfl, t2 _ _ e1, e2, ?_, fun l nl => ?_⟩
        · rw [List.length_map, List.length_map]
          exact Nat.le_of_lt (small1000 (by omega))
        have t3 := same_upd (o := .lst (ys1.map V.str ++ ys2.map V.str)) nl
        rw [← List.map_append] at t3 ⊢
        have el := (upd_same : (upd G2 l (.lst ((ys1 ++ ys2).map V.str))) l = some (.lst ((ys1 ++ ys2).map V.str)))
        generalize upd G2 l (.lst ((ys1 ++ ys2).map V.str)) = G3 at t3 el ⊢
        refine ⟨l, ys1 ++ ys2, rfl, .inl (SqL.of el), by rw [List.length_append]; omega, fun zs r perm srt nr wr => ⟨r, rfl, ⟨_, SqL.of upd_same⟩, ?_⟩⟩
        obtain rfl : zs = ns := sorted_same srt sns perm pns (p1.append p2)
        have t4 := same_upd (o := .lst (zs.map V.str)) nr
        have er := (upd_same : (upd G3 r (.lst (zs.map V.str))) r = some (.lst (zs.map V.str)))
        generalize upd G3 r (.lst (zs.map V.str)) = G4 at t4 er ⊢
        have s4 := s'.trans (((t1.trans t2).trans t3).trans t4)
        refine for_list (K := K) (a := r) (xs := zs.map V.str) (fun m σ H2 => ∃ y3 y4 : Option V, σ = [some (.ref kd), some (.ref pe), some (.ref p), y3, y4, some v3] ∧ Same G4 H2 ∧ (zs.take m).find? (missing kvs) = none)
          ⟨_, _, rfl, fun _ _ e => e, rfl⟩ (fun m σ H2 _ h => ?_) ?_ ?_
        · obtain ⟨_, _, _, s2, _⟩ := h
          exact SqL.of (s2 _ _ er)
        · rintro m x σ H2 hxm ⟨y3, y4, rfl, s2, hn2⟩
          obtain ⟨z, hzi, rfl⟩ : ∃ z, zs[m]? = some z ∧ x = V.str z := by
            rw [List.getElem?_map] at hxm
            cases e : zs[m]? with
            | none => rw [e] at hxm; cases hxm
            | some z => rw [e] at hxm; exact ⟨z, rfl, (Option.some.inj hxm).symm⟩
          refine ⟨_, rfl, _, rfl, kd, _, rfl, DGet.k (k := Sum.inr z) (s2 _ _ (s4 _ _ hk)), _, rfl, ?_⟩
          show if missing kvs z = true then _ else _
          cases hmz : missing kvs z with
          | true =>
            refine iteT ⟨_, rfl, fun dx nd => qE z (qN z ?_) _ dx (s4.trans s2) nd⟩
            have hlt := (List.getElem?_eq_some_iff.mp hns).1
            have e2' := (List.getElem?_eq_some_iff.mp hns).2
            have : nss = nss.take i ++ (zs :: nss.drop (i + 1)) := by
              rw [← e2', ← List.drop_eq_getElem_cons hlt, List.take_append_drop]
            rw [this, List.flatten_append, List.find?_append, hm, Option.none_or, List.flatten_cons]
            exact find_take hzi hn2 hmz _
          | false => exact iteF ⟨_, _, rfl, s2, find_snoc hzi hn2 hmz⟩
        · rintro σ H2 ⟨y3, y4, rfl, s2, hn2⟩
          rw [List.length_map, List.take_length] at hn2
          refine ⟨_, _, _, rfl, s4.trans s2, ?_⟩
          rw [List.take_add_one, hns, List.flatten_append, List.find?_append, hm, Option.none_or]
          show ([zs] : List (List Str)).flatten.find? _ = none
          rw [List.flatten_cons, List.flatten_nil, List.append_nil]
          exact hn2
      · rintro σ H' ⟨y3, y4, y5, rfl, s', hm⟩
        rw [hx.len, ← hw.len, List.take_length] at hm
        refine q ?_ H' s'
        rw [List.find?_append, hn, Option.none_or]
        exact hm
end
end Fv


set_option Elab.async false
set_option linter.all false
set_option maxRecDepth 100000
set_option maxHeartbeats 4000000
namespace Fv
open PySem PySem.Spec PyProof.Rows L2
/-- _law_call of any head: a dict that has the three, its kinds of its own -/
def spCall2 : Sp := fun vs H Q _ => ∃ (b a a2 o pp rr : Addr) (nm : Str) (ks ks2 : List (Str × Str)) (kvs : List (Key × V)) (zs rs : List Str), vs = [.ref b, .ref a, .str nm, .ref o] ∧ Bag H b ∧ a ≠ b ∧ a2 ≠ b ∧ o ≠ b ∧ pp ≠ b ∧ rr ≠ b ∧ NmOk nm ∧
  H a = some (.dK (kinV ks)) ∧ KindsOk ks ∧ ks.length ≤ 20 ∧ H a2 = some (.dK (kinV ks2)) ∧ KindsOk ks2 ∧ H o = some (.dK kvs) ∧ valV kvs (Sum.inr "kinds") = some (.ref a2) ∧ valV kvs (Sum.inr "params") = some (.ref pp) ∧ valV kvs (Sum.inr "results") = some (.ref rr) ∧ H pp = some (.tup (zs.map V.str)) ∧ zs.length ≤ 20 ∧ (∀ z ∈ zs, z ∈ ks2.map (·.1)) ∧ H rr = some (.tup (rs.map V.str)) ∧ rs.length ≤ 20 ∧ (∀ z ∈ rs, z ∈ ks2.map (·.1)) ∧
  ∀ (p : Addr) (d : PyData) (H' : Hp), Dq H' b (.ref p) d → okD d → stD d = true → frozenD d = d → smallSt d → StFit ks d → Bag H' b → Keep b H H' → (∀ c, BagAt H b c → BagAt H' b c) → Q (.ref p) H'
theorem head5_k (a pp rr : Addr) (n : Int) (wv : Addr) : valV (head5 a pp rr n wv) (Sum.inr "kinds") = some (.ref a) ∧ valV (head5 a pp rr n wv) (Sum.inr "params") = some (.ref pp) ∧ valV (head5 a pp rr n wv) (Sum.inr "results") = some (.ref rr) ∧ valV (head5 a pp rr n wv) (Sum.inr "size") = some (.int n) ∧ valV (head5 a pp rr n wv) (Sum.inr "ways") = some (.ref wv) := by
  obtain ⟨h1, h2, h3, h4, h5, h6, h7, h8, h9, h10⟩ := k5
  unfold head5 valV
  simp [List.find?_cons, h1, h2, h3, h4, h5, h6, h7, h8, h9, h10]
section
variable {P : Program} {w : World} {K : PySem.W.Frag} {mg : Str → Option Value} {base : Heap} {C : Addr}
theorem ok_call2 {f fT fP fM : Addr} {fd fdT fdP fdM : FuncData} (F : Fun K "_law_call" "_law_call" sCall f fd)
    (GP : FnOk P w K mg base CX0 3 fP fdP ["_law_bag_here", "_law_kinds_here", "_law_kind"] spPart) (bP : Binds K fdP ["_law_bag_here", "_law_kinds_here", "_law_kind"] []) (mP : mg "_law_part" = some (.ref fP)) (kP : PySem.W.keepIn K (.ref fP) = true)
    (GM : FnOk P w K mg base CX0 2 fM fdM ["_law_bag_here", "_law_things"] (spMixed K)) (bM : Binds K fdM ["_law_bag_here", "_law_things"] []) (mM : mg "_law_mixed" = some (.ref fM)) (kM : PySem.W.keepIn K (.ref fM) = true)
    (mo : mg "sorted" = none) (mt : mg "tuple" = none) : FnOk P w K mg base CX0 4 f fd ["_law_bag_here", "_law_kinds_here", "_law_name", "_law_other"] spCall2 := by
  refine F.ok scCl (fun vs H Q E h => ?_) (fun cdv A outer s H vs Q E hr h => ?_)
  · obtain ⟨b, a, a2, o, pp, rr, nm, ks, ks2, kvs, zs, rs, rfl, _⟩ := h
    rfl
  · obtain ⟨b, a, a2, o, pp, rr, nm, ks, ks2, kvs, zs, rs, rfl, B, ab, a2b, ob_, ppb, rrb, hnm, ha, ok, hl, ha2, ok2, ho, vk, vp, vr, hpp, zl, zin, hrr, rl, rin, q⟩ := h
    have hr2 : Room 2 _ := hr.mono (by decide)
    have hu := hu_of hr
    refine ⟨_, pss_cons (ps_set (i := 4) scCl.nd rfl (.inl rfl) (pe_callTy call_tuple_of (by rfl) mt boot_tuple (pa_cons
          (pe_lc (own := [("_law_param", 9)]) (g := gName 9) (tt := tYes) rfl scCl.nd (pi_tup (pe_dget hu (pv 3) pe_str (fun _ _ => rfl))) (blkOk_by (N := nCl) (sc := defScope sCall) (by decide +kernel))
            (fun _ _ _ _ _ => pg_name (i := 9) scCl.nd rfl (Or.inl rfl)) (fun _ _ _ _ _ => pts_nil)
            (fun _ _ _ _ _ => pe_call GP hr (by rfl) mP kP bP .nil pass0 (pa_cons (pv 0) (pa_cons (pv 1) (pa_cons (pe_dget hu (pe_dget hu (pv 3) pe_str (fun _ _ => rfl)) (pv 9) (fun _ _ => rfl)) pa_nil))))) pa_nil)))
      (pss_cons (ps_asg (pe_tup (pa_cons (pe_lst pa_nil) (pa_cons (pe_call GM hr2 (by rfl) mM kM bM .nil pass0 (pa_cons (pv 0) (pa_cons (pe_callB (call_sortedD rfl) (by rfl) mo (by decide +kernel) (pa_cons (pv 1) pa_nil)) pa_nil))) pa_nil)))
          (pg_tup (by rfl) (pgs_cons (pg_name (i := 5) scCl.nd rfl (.inr rfl)) (pgs_cons (pg_name (i := 6) scCl.nd rfl (.inl rfl)) pgs_nil))))
      (pss_cons (ps_for PassesOwn.never rfl (pi_tup (pe_dget hu (pv 3) pe_str (fun _ _ => rfl))) (pg_name (i := 7) scCl.nd rfl (.inr rfl))
        (pss_cons (ps_setLc (i := 8) (own := [("_law_x", 10)]) (g := gName 10) (by rfl) scCl.nd rfl rfl (sw_true rfl rfl rfl (by decide +kernel)) (pi_list (pv 6)) (blkOk_by (N := nCl) (sc := defScope sCall) (by decide +kernel))
            (fun _ _ _ _ _ => pg_name (i := 10) scCl.nd rfl (Or.inl rfl))
            (fun _ _ _ _ _ => pts_one (PW.pt (pw_and (pt_cmpR (r := rIn K true) op_notIn_seq (pv 10) (pv 5) (by rfl)) (pw_and1 (pt_cmpR (r := rIn K false) op_in_seq (pe_dget hu (pe_dget hu (pv 3) pe_str (fun _ _ => rfl)) (pv 7) (fun _ _ => rfl)) (pe_tup (pa_cons pe_str (pa_cons (pe_dget hu (pv 1) (pv 10) (fun _ _ => rfl)) pa_nil))) (by rfl))))))
            (fun _ _ _ _ _ => pv 10))
        (pss_cons (ps_if (pt_cmpR (op_eqNil hr.units) (pv 8) (pe_lst pa_nil) (nomark _)) (pss_one (ps_ret (pe_tup (pa_cons pe_str pa_nil)))) pss_nil)
        (pss_one (ps_expr (pe_bm PySem.F.plainAttrs_list PySem.F.slot_list_append PySem.F.type_list_append mt_append (pv 5) (pa_cons (pe_ix ix_list (pv 8) pe_int (fun _ _ => rfl)) pa_nil)))))))
      (pss_one (ps_ret (pe_tup (pa_cons pe_str (pa_cons (pv 2) (pa_cons (pv 4) (pa_cons (pe_callTy call_tuple_of (by rfl) mt boot_tuple (pa_cons (pv 5) pa_nil)) pa_nil))))))))), ?_⟩
    obtain ⟨c0, B0⟩ := B
    obtain ⟨ob, hob⟩ := Bag.at_b (BagAt.bag B0)
    have knm : ∀ z ∈ ks.map (·.1), NmOk z := fun z hz => by
      obtain ⟨pr, hp, rfl⟩ := List.mem_map.mp hz
      exact ok.nm pr hp
    have dk : ∀ {H' : Hp}, Keep b H H' → DGet H' o (.str "kinds") (some (.ref a2)) := fun {H'} k' => vk ▸ DGet.k (k := Sum.inr "kinds") (k' _ _ ob_ ho)
    have dp : ∀ {H' : Hp}, Keep b H H' → DGet H' o (.str "params") (some (.ref pp)) := fun {H'} k' => vp ▸ DGet.k (k := Sum.inr "params") (k' _ _ ob_ ho)
    have dr : ∀ {H' : Hp}, Keep b H H' → DGet H' o (.str "results") (some (.ref rr)) := fun {H'} k' => vr ▸ DGet.k (k := Sum.inr "results") (k' _ _ ob_ ho)
    have dx : ∀ {H' : Hp} {z : Str}, Keep b H H' → z ∈ ks.map (·.1) → ∃ k, kindS k ∧ DGet H' a (.str z) (some (.str k)) := fun {H' z} k' hz => by
      obtain ⟨k, ek, hk⟩ := kin_get hz ok.kd
      exact ⟨k, hk, ek ▸ DGet.k (k := Sum.inr z) (k' _ _ ab ha)⟩
    have dx2 : ∀ {H' : Hp} {z : Str}, Keep b H H' → z ∈ ks2.map (·.1) → ∃ k, kindS k ∧ DGet H' a2 (.str z) (some (.str k)) := fun {H' z} k' hz => by
      obtain ⟨k, ek, hk⟩ := kin_get hz ok2.kd
      exact ⟨k, hk, ek ▸ DGet.k (k := Sum.inr z) (k' _ _ a2b ha2)⟩
    refine ⟨_, rfl, o, _, rfl, dp Keep.refl, pp, rfl, ⟨_, SqT.of hpp⟩, fun D hD => ?_⟩
    obtain ⟨B1, Db, Dc⟩ := BagAt.new (o := .lst []) B0 hD
    have putp : ∀ {H' H9 : Hp} {p : Addr} {y : Str} {c : Int}, H' D = some (.lst []) → True := fun _ => True.intro
    refine lc_tup (K := K) (a := pp) (xs := zs.map V.str) (fun i H' => BagAt H' b c0 ∧ Keep b H H' ∧ ∃ (ts : List V) (es : List PyData), H' D = some (.lst ts) ∧ DqAll (del H' D) b ts es ∧ es.length = i ∧ es.all pairD = true ∧ okAll es ∧ ∀ e ∈ es, (-(10 ^ 39) ≤ lastI e ∧ lastI e ≤ 10 ^ 39) ∧ (srcS e = "" ∨ kinOf ks (srcS e) = true)) ⟨B1, Keep.new hD, [], [], upd_same, .nil, rfl, rfl, True.intro, fun e he => by cases he⟩ (fun i H' _ h => SqT.of (h.2.1 _ _ ppb hpp)) ?_ ?_
    · rintro i x H' hx ⟨B', k', ts, es, e', ta, el, et, eo, ec⟩
      obtain ⟨z, hzi, rfl⟩ : ∃ z, zs[i]? = some z ∧ x = V.str z := by
        rw [List.getElem?_map] at hx
        cases e : zs[i]? with
        | none => rw [e] at hx; cases hx
        | some z => rw [e] at hx; exact ⟨z, rfl, (Option.some.inj hx).symm⟩
      have hi : i < zs.length := (List.getElem?_eq_some_iff.mp hzi).1
      obtain ⟨kx, hkx, dgx⟩ := dx2 k' (zin z (List.mem_of_getElem? hzi))
      refine ⟨rfl, _, rfl, _, rfl, _, rfl, o, _, rfl, dk k', _, rfl, a2, _, rfl, dgx, b, a, ks, kx, rfl, BagAt.bag B', ab, k' _ _ ab ha, ok, hl, fun p y c H9 pb ep hyy c1 c2 B9 k9 g9 => ?_⟩
      obtain ⟨hy, hfy⟩ := hyy
      have tl : ts.length = i := by rw [ta.len, el]
      refine ⟨ts, k9 _ _ Db e', small60 (by omega), (g9 _ B').put Db Dc, fun c o n e => ?_, ts ++ [.ref p], es ++ [.tuple [.str y, .int c]], upd_same, ?_, ?_, ?_, ?_, ?_⟩
      · rw [upd_ne (ne_of_none e hD)]
        exact k9 _ _ n (k' c o n e)
      · rw [del_upd]
        have subk : ∀ c o, c ≠ b → del H' D c = some o → del H9 D c = some o := fun c o n e => by
          have nc : c ≠ D := fun z => by
            rw [z, del_same] at e
            cases e
          rw [del_ne nc]
          exact k9 c o n (del_sub c o e)
        refine DqAll.snoc ?_ (ta.mono fun c o n e => subk c o n e)
        have pD : p ≠ D := fun z => by
          rw [z, k9 _ _ Db e'] at ep
          cases ep
        exact .tup (xs := [.str y, .int c]) (by rw [del_ne pD]; exact ep) pb (.cons (.str _) (.cons (.int _) .nil))
      · simp [el]
      · rw [List.all_append, et]
        show (true && ((sourceD (.str y) && true) && true)) = true
        rw [src_name hy]
        rfl
      · exact okAll.snoc (d := .tuple [.str y, .int c]) ⟨by show 2 ≤ 60; decide, src_ok hy, True.intro, True.intro⟩ eo
      · intro e he
        rcases List.mem_append.mp he with h | h
        · exact ec e h
        · rw [List.mem_singleton.mp h]
          exact ⟨⟨c1, c2⟩, hfy.src⟩
    · rintro H1 ⟨B1, k1, ts, es, eD, ta, el, et, eo, ec⟩
      rw [List.length_map] at el
      refine ⟨D, ts, rfl, .inl ⟨SqL.of eD, fun l fl => ?_⟩⟩
      obtain ⟨B2, lb, lc⟩ := BagAt.new (o := .tup ts) B1 fl
      have k2 : Keep b H (upd H1 l (.tup ts)) := k1.trans (Keep.new fl)
      have dl : ∀ {H' : Hp}, Keep b (upd H1 l (.tup ts)) H' → Dq H' b (.ref l) (.tuple es) := fun {H'} kk => .tup (kk _ _ lb upd_same) lb (ta.mono fun c o n e => kk _ _ n (Keep.new (b := b) fl _ _ n (del_sub c o e)))
      generalize upd H1 l (.tup ts) = H2 at B2 k2 dl ⊢
      dsimp only [gName]
      refine ⟨Nat.zero_le _, fun R nR => ?_⟩
      obtain ⟨B3, Rb, Rc⟩ := BagAt.new (o := .lst []) B2 nR
      have k3 : Keep b H2 (upd H2 R (.lst [])) := Keep.new nR
      have eR := (upd_same : (upd H2 R (.lst [])) R = some (.lst []))
      generalize upd H2 R (.lst []) = H3 at B3 k3 eR ⊢
      refine ⟨_, rfl, _, rfl, a, kinV ks, ks.map (·.1), rfl, .inl (k3 _ _ ab (k2 _ _ ab ha)), kin_keys ks, by rw [List.length_map]; omega, fun ys n hperm _ nn => ?_⟩
      obtain ⟨B4, nb, nc⟩ := BagAt.new (o := .lst (ys.map V.str)) B3 nn
      have k4 : Keep b H3 (upd H3 n (.lst (ys.map V.str))) := Keep.new nn
      have yl : ys.length ≤ 20 := by rw [hperm.length_eq, List.length_map]; exact hl
      refine ⟨b, n, ys.map V.str, rfl, BagAt.bag B4, nb, upd_same, by rw [List.length_map]; omega, fun L ms H5 nL mL eL permL B5 k5 g5 => ?_⟩
      obtain ⟨ms', rfl, pms⟩ : ∃ ms' : List Str, ms = ms'.map V.str ∧ ms'.Perm ys := strs_perm permL
      have min : ∀ z ∈ ms', z ∈ ks.map (·.1) := fun z hz => hperm.mem_iff.mp (pms.mem_iff.mp hz)
      have ml : ms'.length ≤ 20 := by rw [pms.length_eq]; exact yl
      have B5c := g5 _ B4
      have Lb : L ≠ b := fun z => by
        obtain ⟨o, ho⟩ := Bag.at_b (BagAt.bag B4)
        rw [z, ho] at nL
        cases nL
      have LR : L ≠ R := fun z => by
        have := k4 _ _ Rb eR
        rw [z, this] at nL
        cases nL
      have k25 : Keep b H2 H5 := (k3.trans k4).trans k5
      have eR5 := k5 _ _ Rb (k4 _ _ Rb eR)
      have Lc : L ≠ c0 := fun z => by
        obtain ⟨cs, pq, sq, iq, BB⟩ := id B4
        have := BB.cells
        rw [z, this] at nL
        cases nL
      refine ⟨by show 2 ≤ sizeLine; decide, fun t nt => ?_⟩
      obtain ⟨B6, tb, _⟩ := BagAt.new (o := .tup [.ref R, .ref L]) B5c nt
      have k6 : Keep b H5 (upd H5 t (.tup [.ref R, .ref L])) := Keep.new nt
      have k26 := k25.trans k6
      have eR6 := k6 _ _ Rb eR5
      have eL6 := k6 _ _ Lb eL
      refine ⟨t, _, rfl, SqT.of upd_same, rfl, _, _, rfl, _, _, rfl, rfl, ?_⟩
      generalize upd H5 t (.tup [.ref R, .ref L]) = H6 at B6 k26 eR6 eL6 ⊢
      have k06 : Keep b H H6 := k2.trans k26
      refine ⟨_, rfl, o, _, rfl, dr k06, rr, rfl, ⟨_, SqT.of (k06 _ _ rrb hrr)⟩, ?_⟩
      refine for_tup (K := K) (a := rr) (xs := rs.map V.str) (fun i σ H' => ∃ y7 y8 y9 y10 : Option V, σ = [some (.ref b), some (.ref a), some (.str nm), some (.ref o), some (.ref l), some (.ref R), some (.ref L), y7, y8, y9, y10] ∧ BagAt H' b c0 ∧ Keep b H2 H' ∧ H' L = some (.lst (ms'.map V.str)) ∧
          ∃ qs : List Str, H' R = some (.lst (qs.map V.str)) ∧ qs.Nodup ∧ (∀ x ∈ qs, x ∈ ks.map (·.1)) ∧ qs.length ≤ i)
        ⟨none, none, none, none, rfl, B6, k26, eL6, [], eR6, List.nodup_nil, fun x hx => (by cases hx), Nat.le_refl _⟩ (fun i σ H' _ h => ?_) ?_ ?_
      · obtain ⟨_, _, _, _, _, _, k', _⟩ := h
        exact SqT.of (k' _ _ rrb (k2 _ _ rrb hrr))
      · rintro i x σ H' hx ⟨y7, y8, y9, y10, rfl, B', k', eL', qs, eR', nd, qin, ql⟩
        obtain ⟨r, hri, rfl⟩ : ∃ r, rs[i]? = some r ∧ x = V.str r := by
          rw [List.getElem?_map] at hx
          cases e : rs[i]? with
          | none => rw [e] at hx; cases hx
          | some z => rw [e] at hx; exact ⟨z, rfl, (Option.some.inj hx).symm⟩
        have hi : i < rs.length := (List.getElem?_eq_some_iff.mp hri).1
        have k0' : Keep b H H' := k2.trans k'
        dsimp only [gName]
        refine ⟨_, rfl, L, rfl, ⟨_, SqL.of eL'⟩, fun Fa hF => ?_⟩
        refine lc_list (K := K) (a := L) (xs := ms'.map V.str) (fun j H'' => Same H' H'' ∧ ∃ fs : List Str, H'' Fa = some (.lst (fs.map V.str)) ∧ (∀ f ∈ fs, f ∈ ms' ∧ f ∉ qs) ∧ fs.length ≤ j) ⟨same_upd hF, [], upd_same, fun f hf => (by cases hf), Nat.le_refl _⟩ (fun j H'' _ h => SqL.of (h.1 _ _ eL')) ?_ ?_
        · rintro j x H'' hxj ⟨s'', fs, eF, fin, fl⟩
          obtain ⟨z, hzj, rfl⟩ : ∃ z, ms'[j]? = some z ∧ x = V.str z := by
            rw [List.getElem?_map] at hxj
            cases e : ms'[j]? with
            | none => rw [e] at hxj; cases hxj
            | some z => rw [e] at hxj; exact ⟨z, rfl, (Option.some.inj hxj).symm⟩
          have hj : j < ms'.length := (List.getElem?_eq_some_iff.mp hzj).1
          have zm := List.mem_of_getElem? hzj
          have k0'' : Keep b H H'' := k0'.trans fun c o _ e => s'' c o e
          refine ⟨rfl, _, rfl, _, rfl, R, _, rfl, .inl (SqL.of (s'' _ _ eR')), rfl, flat_strs _, _, rfl, ?_⟩
          rw [inV_strs]
          by_cases hz : z ∈ qs
          · rw [decide_eq_true hz]
            exact iteF ⟨s'', fs, eF, fin, by omega⟩
          · rw [decide_eq_false hz]
            obtain ⟨k1', _, dg1⟩ := dx2 k0'' (rin r (List.mem_of_getElem? hri))
            obtain ⟨k2', _, dg2⟩ := dx k0'' (min z zm)
            refine iteT ⟨_, rfl, o, _, rfl, dk k0'', _, rfl, a2, _, rfl, dg1, _, rfl, _, rfl, a, _, rfl, dg2, by show 2 ≤ sizeLine; decide, fun t2 nt2 => ⟨t2, _, rfl, .inr (SqT.of upd_same), rfl, rfl, _, rfl, ?_⟩⟩
            have w1 := same_upd (o := .tup [.str "plain", .str k2']) nt2
            refine ite2 (fun _ => ?_) (fun _ => ?_)
            · refine ⟨_, rfl, _, w1 _ _ eF, by rw [List.length_map]; exact small60 (by omega), fun c o e => ?_, fs ++ [z], ?_, fun y hy => ?_, by simp; omega⟩
              · rw [upd_ne (ne_of_none e hF)]
                exact w1 _ _ (s'' c o e)
              · rw [upd_same, List.map_append]
                rfl
              · rcases List.mem_append.mp hy with h | h
                · exact fin y h
                · rw [List.mem_singleton.mp h]
                  exact ⟨zm, hz⟩
            · exact ⟨s''.trans w1, fs, w1 _ _ eF, fin, by omega⟩
        · rintro H7 ⟨s7, fs, eF, fin, fl⟩
          rw [List.length_map] at fl
          have B7 := BagAt.same B' s7
          have k7 : Keep b H2 H7 := k'.trans fun c o _ e => s7 c o e
          have eL7 := s7 _ _ eL'
          have eR7 := s7 _ _ eR'
          dsimp only [gName]
          refine ⟨_, rfl, Nat.zero_le _, fun e ne => ?_⟩
          obtain ⟨B8, eb, _⟩ := BagAt.new (o := .lst []) B7 ne
          have w8 := same_upd (o := .lst []) ne
          have k8 : Keep b H2 (upd H7 e (.lst [])) := k7.trans (Keep.new ne)
          have eF8 := w8 _ _ eF
          have eR8 := w8 _ _ eR7
          have eL8 := w8 _ _ eL7
          refine ⟨Fa, e, _, rfl, rfl, SqL.of eF8, SqL.of upd_same, _, rfl, ?_⟩
          generalize upd H7 e (.lst []) = H8 at B8 k8 eF8 eR8 eL8 ⊢
          rw [map_empty]
          cases fs with
          | nil =>
            refine iteT ⟨by show 1 ≤ sizeLine; decide, fun p np => ?_⟩
            obtain ⟨B9, pb, _⟩ := BagAt.new (o := .tup [.str "skip"]) B8 np
            exact q p (.tuple [.str "skip"]) _ (.tup upd_same pb (.cons (.str _) .nil)) ⟨by decide, ⟨by decide, by decide⟩, True.intro⟩ (by decide +kernel) rfl ⟨Nat.zero_le _, (fun e he => by cases he), few_skip⟩ fit_skip (BagAt.bag B9) ((k2.trans k8).trans (Keep.new np)) fun c hc => by rw [BagAt.uniq B0 hc]; exact B9
          | cons f fs =>
            obtain ⟨fm, fq⟩ := fin f List.mem_cons_self
            refine iteF ⟨_, rfl, .inl ⟨rfl, _, SqL.of eR8⟩, _, rfl, Fa, _, 0, _, rfl, rfl, SqL.of eF8, atI_nat (j := 0) rfl, R, _, _, rfl, rfl, eR8, by rw [List.length_map]; exact small60 (by omega), ?_⟩
            refine ⟨_, _, _, _, rfl, B8.put Rb Rc, fun c o n e => ?_, ?_, qs ++ [f], ?_, ?_, fun x hx => ?_, by simp; omega⟩
            · have cR : c ≠ R := ne_of_none e nR
              rw [upd_ne cR]
              exact k8 c o n e
            · rw [upd_ne LR]
              exact eL8
            · rw [upd_same, List.map_append]
              rfl
            · rw [List.nodup_append]
              exact ⟨nd, by simp, fun x hx y hy e => fq (by rw [List.mem_singleton.mp hy] at e; exact e ▸ hx)⟩
            · rcases List.mem_append.mp hx with h | h
              · exact qin x h
              · rw [List.mem_singleton.mp h]
                exact min f fm
      · rintro σ H' ⟨y7, y8, y9, y10, rfl, B', k', eL', qs, eR', nd, qin, ql⟩
        rw [List.length_map] at ql
        refine ⟨_, rfl, _, rfl, _, rfl, R, _, rfl, .inl ⟨SqL.of eR', fun l2 fl2 => ?_⟩⟩
        obtain ⟨B7, l2b, _⟩ := BagAt.new (o := .tup (qs.map V.str)) B' fl2
        have k7 : Keep b H' (upd H' l2 (.tup (qs.map V.str))) := Keep.new fl2
        refine ⟨by show 4 ≤ sizeLine; decide, fun p np => ?_⟩
        obtain ⟨B8, pb, _⟩ := BagAt.new (o := .tup [.str "call", .str nm, .ref l, .ref l2]) B7 np
        have k8 : Keep b (upd H' l2 (.tup (qs.map V.str))) (upd (upd H' l2 (.tup (qs.map V.str))) p (.tup [.str "call", .str nm, .ref l, .ref l2])) := Keep.new np
        have kA := (k'.trans k7).trans k8
        have qn : ∀ x ∈ qs, NmOk x := fun x hx => knm x (qin x hx)
        have st1 : partsD (.tuple es) = true := by
          show (true && es.all pairD) = true
          rw [et]
          rfl
        refine q p (.tuple [.str "call", .str nm, .tuple es, .tuple (qs.map .str)]) _ (.tup upd_same pb (.cons (.str _) (.cons (.str _) (.cons (dl kA) (.cons (.tup (k8 _ _ l2b upd_same) l2b (DqAll.strs _ _ qs)) .nil)))))
          ⟨by show 4 ≤ 60; decide, ⟨by decide, by decide⟩, hnm.ok, ⟨by omega, eo⟩, ⟨by rw [List.length_map]; omega, okAll.strs qn⟩, True.intro⟩ ?_ rfl ⟨by show es.length ≤ 20; omega, fun e he => (ec e he).1, few4 (by omega) (by rw [List.length_map]; omega)⟩ (fit_call (fun e he => (ec e he).2) fun x hx => kin_in (qin x hx)) (BagAt.bag B8) (k2.trans kA) fun c hc => by rw [BagAt.uniq B0 hc]; exact B8
        refine rest4.trans ?_
        rw [st1, show nameD (.str nm) = true from hnm.name, names_ok qn nd]
        decide +kernel
end
end Fv


set_option Elab.async false
set_option linter.all false
set_option maxRecDepth 100000
set_option maxHeartbeats 4000000
namespace Fv
open PySem PySem.Spec PyProof.Rows L2
abbrev sWays : Stmt := top 55
mutual
def noL : PyData → Prop
  | .list _ => False
  | .dict _ => False
  | .tuple ds => noLs ds
  | _ => True
def noLs : List PyData → Prop
  | [] => True
  | d :: ds => noL d ∧ noLs ds
end
theorem noLs_all : ∀ {ds : List PyData}, (∀ e ∈ ds, noL e) → noLs ds
  | [], _ => True.intro
  | d :: ds, h => ⟨h d List.mem_cons_self, noLs_all fun e he => h e (List.mem_cons_of_mem _ he)⟩
mutual
theorem Dq.off {H : Hp} {b W : Addr} {ws : List V} (hW : H W = some (.lst ws)) : ∀ {v : V} {d : PyData}, Dq H b v d → noL d → Dq (del H W) b v d
  | _, _, .non, _ => .non
  | _, _, .bl x, _ => .bl x
  | _, _, .int i, _ => .int i
  | _, _, .str x, _ => .str x
  | _, _, .lst _ _ _ _, k => k.elim
  | _, _, .dct _ _ _ _, k => k.elim
  | _, _, .tup (a := a) e n h, k => .tup (by
      have : a ≠ W := fun z => by
        rw [z, hW] at e
        cases e
      rw [del_ne this]
      exact e) n (DqAll.off hW h k)
theorem DqAll.off {H : Hp} {b W : Addr} {ws : List V} (hW : H W = some (.lst ws)) : ∀ {v : List V} {d : List PyData}, DqAll H b v d → noLs d → DqAll (del H W) b v d
  | _, _, .nil, _ => .nil
  | _, _, .cons h t, k => .cons (Dq.off hW h k.1) (DqAll.off hW t k.2)
end
theorem st_noL {d : PyData} (h : stD d = true) (hfz : frozenD d = d) : noL d := by
  have trip : ∀ {e : PyData}, tripD e = true → noL e := fun {e} h => by
    obtain ⟨x, y, c, rfl⟩ := trip_shape h
    exact ⟨True.intro, True.intro, True.intro, True.intro⟩
  have pair : ∀ {e : PyData}, pairD e = true → noL e := fun {e} h => by
    obtain ⟨y, c, rfl⟩ := pair_shape h
    exact ⟨True.intro, True.intro, True.intro⟩
  have row : ∀ {p : PyData}, rowD p = true → fz p = p → (∀ e ∈ itemsD p, noL e) → noL p := fun {p} hr hf ha => by
    cases p with
    | tuple l => exact noLs_all ha
    | list l => cases hf
    | _ => cases hr
  have sh := st_shape h
  cases sh with
  | skip => exact ⟨True.intro, True.intro⟩
  | @set zp hp =>
    have hf : fz zp = zp := by simpa [frozenD, fz] using hfz
    exact ⟨True.intro, row (row_sets hp) hf fun e he => trip (List.all_eq_true.mp (sets_all hp) e he), True.intro⟩
  | @most zw zx zp hw h2 h3 h4 =>
    have hf : fz zp = zp := by simpa [frozenD, fz] using hfz
    exact ⟨True.intro, True.intro, row (row_parts h3) hf fun e he => pair (List.all_eq_true.mp (parts_all h3) e he), True.intro⟩
  | @call zx zp zr h2 h3 h4 =>
    have hf : fz zp = zp ∧ fz zr = zr := by simpa [frozenD, fz] using hfz
    obtain ⟨hrw, hall⟩ := row_names h4
    refine ⟨True.intro, True.intro, row (row_parts h3) hf.1 fun e he => pair (List.all_eq_true.mp (parts_all h3) e he), row hrw hf.2 fun e he => ?_, True.intro⟩
    obtain ⟨z, rfl⟩ := name_str (List.all_eq_true.mp hall e he)
    exact True.intro
/-- two places of a size -/
def TwoIn (n : Int) (e : PyData) : Prop := ∃ i j : Int, e = .tuple [.int i, .int j] ∧ 0 ≤ i ∧ i < n ∧ 0 ≤ j ∧ j < n
def WayIn (n : Int) (ks : List (Str × Str)) (e : PyData) : Prop := ∃ (i j : Int) (d : PyData), e = .tuple [.int i, .int j, d] ∧ 0 ≤ i ∧ i < n ∧ 0 ≤ j ∧ j < n ∧ okD d ∧ stD d = true ∧ frozenD d = d ∧ smallSt d ∧ StFit ks d
/-- the law's two heads -/
def headsV (o1 o2 : Addr) : List (Key × V) := [(Sum.inr "a", .ref o1), (Sum.inr "b", .ref o2)]
def spWaysL : Sp := fun vs H Q _ => ∃ (b hs o1 o2 a1 a2 p1 p2 r1 r2 w1 w2 : Addr) (n1 n2 most : Int) (k1 k2 : List (Str × Str)) (z1 z2 s1 s2 : List Str), vs = [.ref b, .ref hs, .str "a", .int most] ∧ Bag H b ∧ hs ≠ b ∧ H hs = some (.dK (headsV o1 o2)) ∧ 0 < most ∧ most ≤ 10 ∧
  HeadOk H b o1 a1 p1 r1 w1 n1 k1 z1 s1 ∧ HeadOk H b o2 a2 p2 r2 w2 n2 k2 z2 s2 ∧
  ∀ (p : Addr) (ys : List V) (ds : List PyData) (H' : Hp), H p = none → p ≠ b → H' p = some (.lst ys) → DqAll (del H' p) b ys ds → (∀ e ∈ ds, WayIn n1 k1 e) → ds.length ≤ 20 → Bag H' b → Keep b H H' → Q (.ref p) H'
abbrev nWy : List Str := ["_law_bag_here", "_law_heads", "_law_name", "_law_most", "_law_head_here", "_law_found", "_law_k", "_law_ways_here", "_law_place", "_law_goal", "_law_other"]
section
variable {P : Program} {w : World} {K : PySem.W.Frag} {mg : Str → Option Value} {base : Heap}
theorem scWy : FnScope nWy ["_law_bag_here", "_law_heads", "_law_name", "_law_most"] (defScope sWays) := ⟨rfl, rfl, rfl, by decide +kernel, rfl, by decide +kernel, by decide +kernel⟩
theorem ok_ways {f fT fC fS : Addr} {fd fdT fdC fdS : FuncData} (F : Fun K "_law_ways" "_law_ways" sWays f fd)
    (GT : FnOk P w K mg base CX0 1 fT fdT ["_law_bag_here", "_law_many"] spTake) (bT : Binds K fdT ["_law_bag_here", "_law_many"] []) (mT : mg "_law_take" = some (.ref fT)) (kT : PySem.W.keepIn K (.ref fT) = true)
    (GC : FnOk P w K mg base CX0 4 fC fdC ["_law_bag_here", "_law_kinds_here", "_law_name", "_law_other"] spCall2) (bC : Binds K fdC ["_law_bag_here", "_law_kinds_here", "_law_name", "_law_other"] []) (mC : mg "_law_call" = some (.ref fC)) (kC : PySem.W.keepIn K (.ref fC) = true)
    (GS : FnOk P w K mg base CX0 4 fS fdS ["_law_bag_here", "_law_kinds_here"] spSt) (bS : Binds K fdS ["_law_bag_here", "_law_kinds_here"] []) (mS : mg "_law_statement" = some (.ref fS)) (kS : PySem.W.keepIn K (.ref fS) = true)
    (mo : mg "sorted" = none) (mr : mg "range" = none) (ml : mg "len" = none) : FnOk P w K mg base CX0 5 f fd ["_law_bag_here", "_law_heads", "_law_name", "_law_most"] spWaysL := by
  refine F.ok scWy (fun vs H Q E h => ?_) (fun cdv A outer s H vs Q E hr h => ?_)
  · obtain ⟨b, hs, o1, o2, a1, a2, p1, p2, r1, r2, w1, w2, n1, n2, most, k1, k2, z1, z2, s1, s2, rfl, _⟩ := h
    rfl
  · obtain ⟨b, hs, o1, o2, a1, a2, p1, p2, r1, r2', w1, w2, n1, n2, most, k1, k2', z1, z2, s1, s2, rfl, B, hb, hh, m0, m1, h1, h2, q⟩ := h
    have hr1 : Room 1 _ := hr.mono (by decide)
    have hu := hu_of hr
    refine ⟨_, pss_cons (ps_par (i := 4) (j := 5) (by rfl) scWy.nd rfl rfl (by decide) rfl rfl (pa_cons (pe_dget hu (pv 1) (pv 2) (fun _ _ => rfl)) (pa_cons (pe_lst pa_nil) pa_nil)) (by rfl))
      (pss_cons (ps_for PassesOwn.never rfl (pi_range1 (by rfl) mr (pa_cons (pe_ifExp (pt_cmpR op_gt (pe_call GT hr1 (by rfl) mT kT bT .nil pass0 (pa_cons (pv 0) (pa_cons pe_int pa_nil))) pe_int (nomark _)) (pe_op op_sub (pe_dget hu (pv 4) pe_str (fun _ _ => rfl)) pe_int) pe_int) pa_nil)) (pg_name (i := 6) scWy.nd rfl (.inl rfl))
        (pss_one (ps_expr (pe_bm PySem.F.plainAttrs_list PySem.F.slot_list_append PySem.F.type_list_append mt_append (pv 5) (pa_cons (pe_tup (pa_cons (pv 6) (pa_cons (pe_op op_add (pv 6) pe_int) pa_nil))) pa_nil)))))
      (pss_cons (ps_for PassesOwn.never rfl (pi_range1 (by rfl) mr (pa_cons (pe_call GT hr1 (by rfl) mT kT bT .nil pass0 (pa_cons (pv 0) (pa_cons (pv 3) pa_nil))) pa_nil)) (pg_name (i := 6) scWy.nd rfl (.inl rfl))
        (pss_one (ps_expr (pe_bm PySem.F.plainAttrs_list PySem.F.slot_list_append PySem.F.type_list_append mt_append (pv 5) (pa_cons (pe_tup (pa_cons (pe_call GT hr1 (by rfl) mT kT bT .nil pass0 (pa_cons (pv 0) (pa_cons (pe_dget hu (pv 4) pe_str (fun _ _ => rfl)) pa_nil))) (pa_cons (pe_call GT hr1 (by rfl) mT kT bT .nil pass0 (pa_cons (pv 0) (pa_cons (pe_dget hu (pv 4) pe_str (fun _ _ => rfl)) pa_nil))) pa_nil))) pa_nil)))))
      (pss_cons (ps_set (i := 7) scWy.nd rfl (.inl rfl) (pe_lst pa_nil))
      (pss_cons (ps_for PassesOwn.never rfl (pi_list (pv 5)) (pg_tup (by rfl) (pgs_cons (pg_name (i := 8) scWy.nd rfl (.inl rfl)) (pgs_cons (pg_name (i := 9) scWy.nd rfl (.inl rfl)) pgs_nil)))
        (pss_one (ps_if (pt_cmpR op_eq (pe_call GT hr1 (by rfl) mT kT bT .nil pass0 (pa_cons (pv 0) (pa_cons pe_int pa_nil))) pe_int (nomark _))
          (pss_cons (ps_set (i := 10) scWy.nd rfl (.inl rfl) (pe_ix (r := rIxL K) ix_list (pe_callB (call_sortedD rfl) (by rfl) mo (by decide +kernel) (pa_cons (pv 1) pa_nil)) (pe_call GT hr1 (by rfl) mT kT bT .nil pass0 (pa_cons (pv 0) (pa_cons (pe_callB call_lenD (by rfl) ml PySem.boot_len (pa_cons (pv 1) pa_nil)) pa_nil))) (fun _ _ => rfl)))
          (pss_one (ps_expr (pe_bm PySem.F.plainAttrs_list PySem.F.slot_list_append PySem.F.type_list_append mt_append (pv 7) (pa_cons (pe_tup (pa_cons (pv 8) (pa_cons (pv 9) (pa_cons (pe_call GC hr (by rfl) mC kC bC .nil pass0 (pa_cons (pv 0) (pa_cons (pe_dget hu (pv 4) pe_str (fun _ _ => rfl)) (pa_cons (pv 10) (pa_cons (pe_dget hu (pv 1) (pv 10) (fun _ _ => rfl)) pa_nil))))) pa_nil)))) pa_nil)))))
          (pss_one (ps_expr (pe_bm PySem.F.plainAttrs_list PySem.F.slot_list_append PySem.F.type_list_append mt_append (pv 7) (pa_cons (pe_tup (pa_cons (pv 8) (pa_cons (pv 9) (pa_cons (pe_call GS hr (by rfl) mS kS bS .nil pass0 (pa_cons (pv 0) (pa_cons (pe_dget hu (pv 4) pe_str (fun _ _ => rfl)) pa_nil))) pa_nil)))) pa_nil)))))))
      (pss_one (ps_ret (pv 7))))))), ?_⟩
    obtain ⟨c0, B0⟩ := B
    obtain ⟨kk1, kp1, kr1, kn1, kw1⟩ := head5_k a1 p1 r1 n1 w1
    obtain ⟨kk2, kp2, kr2, kn2, kw2⟩ := head5_k a2 p2 r2' n2 w2
    have abn : ¬ (("a" : Str) = "b") := by decide +kernel
    have va : valV (headsV o1 o2) (Sum.inr "a") = some (.ref o1) := by
      unfold headsV valV
      simp [List.find?_cons]
    have vb : valV (headsV o1 o2) (Sum.inr "b") = some (.ref o2) := by
      unfold headsV valV
      simp [List.find?_cons, abn]
    have ga : ∀ {H' : Hp}, Keep b H H' → DGet H' hs (.str "a") (some (.ref o1)) := fun {H'} k => va ▸ DGet.k (k := Sum.inr "a") (k _ _ hb hh)
    have gb : ∀ {H' : Hp}, Keep b H H' → DGet H' hs (.str "b") (some (.ref o2)) := fun {H'} k => vb ▸ DGet.k (k := Sum.inr "b") (k _ _ hb hh)
    have gk : ∀ {H' : Hp}, Keep b H H' → DGet H' o1 (.str "kinds") (some (.ref a1)) := fun {H'} k => kk1 ▸ DGet.k (k := Sum.inr "kinds") (k _ _ h1.ob h1.oo)
    have gn : ∀ {H' : Hp}, Keep b H H' → DGet H' o1 (.str "size") (some (.int n1)) := fun {H'} k => kn1 ▸ DGet.k (k := Sum.inr "size") (k _ _ h1.ob h1.oo)
    have n11 := h1.n1
    have n14 := h1.n4
    refine ⟨_, rfl, _, rfl, hs, _, rfl, ga Keep.refl, Nat.zero_le _, fun F nF => ?_⟩
    obtain ⟨B1, Fb, Fc⟩ := BagAt.new (o := .lst []) B0 nF
    have k1' : Keep b H (upd H F (.lst [])) := Keep.new nF
    have eF := (upd_same : (upd H F (.lst [])) F = some (.lst []))
    have oF : ∀ c o, c ≠ b → H c = some o → c ≠ F := fun c o _ e => ne_of_none e nF
    generalize upd H F (.lst []) = H1 at B1 k1' eF ⊢
    refine ⟨_, _, rfl, ?_⟩
    dsimp only
    -- one pair more
    have more : ∀ {H' H2 : Hp} {fs : List V} {es : List PyData} {i j : Int} {t : Addr}, BagAt H2 b c0 → Keep b H' H2 → Keep b H H' → H' F = some (.lst fs) → DqAll (del H' F) b fs es → (∀ e ∈ es, TwoIn n1 e) → 0 ≤ i → i < n1 → 0 ≤ j → j < n1 → H2 t = none → fs.length < sizeLine - 1 →
        BagAt (upd (upd H2 t (.tup [.int i, .int j])) F (.lst (fs ++ [.ref t]))) b c0 ∧ Keep b H (upd (upd H2 t (.tup [.int i, .int j])) F (.lst (fs ++ [.ref t]))) ∧ (upd H2 t (.tup [.int i, .int j])) F = some (.lst fs) ∧
        ∃ (fs' : List V) (es' : List PyData), (upd (upd H2 t (.tup [.int i, .int j])) F (.lst (fs ++ [.ref t]))) F = some (.lst fs') ∧ DqAll (del (upd (upd H2 t (.tup [.int i, .int j])) F (.lst (fs ++ [.ref t]))) F) b fs' es' ∧ (∀ e ∈ es', TwoIn n1 e) ∧ es'.length = es.length + 1 := fun {H' H2 fs es i j t} B2 k2 k0 e' ha ht i0 i1 j0 j1 nt _ => by
      have eF2 := k2 _ _ Fb e'
      have tF : F ≠ t := ne_of_none eF2 nt
      obtain ⟨B3, tb, _⟩ := BagAt.new (o := .tup [.int i, .int j]) B2 nt
      refine ⟨B3.put Fb Fc, fun c o n e => ?_, by rw [upd_ne tF]; exact eF2, _, es ++ [.tuple [.int i, .int j]], upd_same, ?_, fun e he => ?_, by simp⟩
      · rw [upd_ne (oF c o n e), upd_ne (ne_of_none (k2 _ _ n (k0 _ _ n e)) nt)]
        exact k2 _ _ n (k0 _ _ n e)
      · rw [del_upd]
        refine DqAll.snoc (.tup (xs := [.int i, .int j]) (by rw [del_ne tF.symm]; exact upd_same) tb (.cons (.int _) (.cons (.int _) .nil))) (ha.mono fun c o n e => ?_)
        have nc : c ≠ F := fun z => by
          rw [z, del_same] at e
          cases e
        have e2 := k2 _ _ n (del_sub c o e)
        rw [del_ne nc, upd_ne (ne_of_none e2 nt)]
        exact e2
      · rcases List.mem_append.mp he with h | h
        · exact ht e h
        · rw [List.mem_singleton.mp h]
          exact ⟨i, j, rfl, i0, i1, j0, j1⟩
    have big : sizeLine = 16777216 := by decide
    refine cutK (fun σ' H' => ∃ y6, σ' = [some (.ref b), some (.ref hs), some (.str "a"), some (.int most), some (.ref o1), some (.ref F), y6, none, none, none, none] ∧ BagAt H' b c0 ∧ Keep b H H' ∧ ∃ (fs : List V) (es : List PyData), H' F = some (.lst fs) ∧ DqAll (del H' F) b fs es ∧ (∀ e ∈ es, TwoIn n1 e) ∧ es.length ≤ 3) ?_ (fun kk => ?_)
    rotate_left
    · refine ⟨_, rfl, b, 3, rfl, BagAt.bag B1, by decide, by decide, fun r H2 h2' B2 k2 g2 => ⟨_, _, rfl, rfl, _, rfl, ite2 (fun _ => ?_) (fun _ => ?_)⟩⟩
      · have B2c := g2 _ B1
        have k02 := k1'.trans k2
        refine ⟨_, rfl, o1, _, rfl, gn k02, _, _, rfl, rfl, _, rfl, by omega, by omega, ?_⟩
        refine for_range (lo := 0) (n := (n1 - 1).toNat) (fun i σ H' => ∃ y6, σ = [some (.ref b), some (.ref hs), some (.str "a"), some (.int most), some (.ref o1), some (.ref F), y6, none, none, none, none] ∧ BagAt H' b c0 ∧ Keep b H H' ∧ ∃ (fs : List V) (es : List PyData), H' F = some (.lst fs) ∧ DqAll (del H' F) b fs es ∧ (∀ e ∈ es, TwoIn n1 e) ∧ es.length = i)
          ⟨none, rfl, B2c, k02, [], [], k2 _ _ Fb eF, .nil, (fun e he => by cases he), rfl⟩ ?_ ?_
        · rintro i σ H' hi ⟨y6, rfl, B', k', fs, es, e', ha, ht, hl⟩
          have fl := ha.len
          refine ⟨_, rfl, .inl ⟨rfl, _, SqL.of e'⟩, _, rfl, _, rfl, _, _, rfl, rfl, by show 2 ≤ sizeLine; decide, fun t nt => ?_⟩
          obtain ⟨B3, k3, e3, fs', es', e4, ha', ht', hl'⟩ := more (i := 0 + (i : Int)) (j := 0 + (i : Int) + 1) B' Keep.refl k' e' ha ht (by omega) (by omega) (by omega) (by omega) nt (by omega)
          refine ⟨F, _, _, rfl, rfl, e3, by omega, _, rfl, B3, k3, fs', es', e4, ha', ht', by omega⟩
        · rintro σ H' ⟨y6, rfl, B', k', fs, es, e', ha, ht, hl⟩
          exact kk _ _ ⟨_, rfl, B', k', fs, es, e', ha, ht, by omega⟩
      · have B2c := g2 _ B1
        have k02 := k1'.trans k2
        refine ⟨0, rfl, by decide, by decide, ?_⟩
        refine for_range (lo := 0) (n := (0 : Int).toNat) (fun i σ H' => σ = [some (.ref b), some (.ref hs), some (.str "a"), some (.int most), some (.ref o1), some (.ref F), none, none, none, none, none] ∧ H' = H2) ⟨rfl, rfl⟩ ?_ ?_
        · intro i σ H' hi
          exact absurd hi (Nat.not_lt_zero i)
        · rintro σ H' ⟨rfl, rfl⟩
          exact kk _ _ ⟨_, rfl, B2c, k02, [], [], k2 _ _ Fb eF, .nil, (fun e he => by cases he), Nat.zero_le _⟩
    rintro σ' H2 ⟨y6, rfl, B2, k2, fs2, es2, eF2, ha2, ht2, hl2⟩
    refine cutK (fun σ' H' => ∃ y6, σ' = [some (.ref b), some (.ref hs), some (.str "a"), some (.int most), some (.ref o1), some (.ref F), y6, none, none, none, none] ∧ BagAt H' b c0 ∧ Keep b H H' ∧ ∃ (fs : List V) (es : List PyData), H' F = some (.lst fs) ∧ DqAll (del H' F) b fs es ∧ (∀ e ∈ es, TwoIn n1 e) ∧ es.length ≤ 13) ?_ (fun kk => ?_)
    rotate_left
    · refine ⟨_, rfl, _, rfl, b, most, rfl, BagAt.bag B2, m0, by omega, fun r H3 h3' B3 k3 g3 => ⟨_, rfl, by omega, by omega, ?_⟩⟩
      have B3c := g3 _ B2
      have hF3 : DqAll (del H3 F) b fs2 es2 := ha2.mono fun c o n e => by
        have nc : c ≠ F := fun z => by
          rw [z, del_same] at e
          cases e
        rw [del_ne nc]
        exact k3 _ _ n (del_sub c o e)
      refine for_range (lo := 0) (n := ((r : Nat) : Int).toNat) (fun i σ H' => ∃ y6, σ = [some (.ref b), some (.ref hs), some (.str "a"), some (.int most), some (.ref o1), some (.ref F), y6, none, none, none, none] ∧ BagAt H' b c0 ∧ Keep b H H' ∧ ∃ (fs : List V) (es : List PyData), H' F = some (.lst fs) ∧ DqAll (del H' F) b fs es ∧ (∀ e ∈ es, TwoIn n1 e) ∧ es.length ≤ 3 + i)
        ⟨_, rfl, B3c, k2.trans k3, fs2, es2, k3 _ _ Fb eF2, hF3, ht2, hl2⟩ ?_ ?_
      · rintro i σ H' hi ⟨y6, rfl, B', k', fs, es, e', ha, ht, hl⟩
        have hi10 : i < 10 := by
          have : i < ((r : Nat) : Int).toNat := hi
          omega
        have fl := ha.len
        refine ⟨_, rfl, .inl ⟨rfl, _, SqL.of e'⟩, _, rfl, _, rfl, o1, _, rfl, gn k', b, n1, rfl, BagAt.bag B', by omega, by omega, fun u1 H4 hu1 B4 k4 g4 => ?_⟩
        have B4c := g4 _ B'
        refine ⟨_, rfl, _, rfl, o1, _, rfl, gn (k'.trans k4), b, n1, rfl, BagAt.bag B4c, by omega, by omega, fun u2 H5 hu2 B5 k5 g5 => ?_⟩
        have B5c := g5 _ B4c
        refine ⟨by show 2 ≤ sizeLine; decide, fun t nt => ?_⟩
        obtain ⟨B6, k6, e6, fs', es', e7, ha', ht', hl'⟩ := more (i := (u1 : Int)) (j := (u2 : Int)) B5c (k4.trans k5) k' e' ha ht (by omega) hu1 (by omega) hu2 nt (by omega)
        exact ⟨F, _, _, rfl, rfl, e6, by omega, _, rfl, B6, k6, fs', es', e7, ha', ht', by omega⟩
      · rintro σ H' ⟨y6, rfl, B', k', fs, es, e', ha, ht, hl⟩
        have : ((r : Nat) : Int).toNat ≤ 10 := by omega
        exact kk _ _ ⟨_, rfl, B', k', fs, es, e', ha, ht, by omega⟩
    rintro σ' H3 ⟨y6', rfl, B3, k3, fs, es, eF3, ha, ht, hl⟩
    have fl := ha.len
    refine ⟨Nat.zero_le _, fun W nW => ?_⟩
    obtain ⟨B4, Wb, Wc⟩ := BagAt.new (o := .lst []) B3 nW
    have k4 : Keep b H3 (upd H3 W (.lst [])) := Keep.new nW
    have eW := (upd_same : (upd H3 W (.lst [])) W = some (.lst []))
    have oW : ∀ c o, c ≠ b → H3 c = some o → c ≠ W := fun c o _ e => ne_of_none e nW
    have nW0 : H W = none := by
      cases e : H W with
      | none => rfl
      | some o => exact absurd rfl (oW W o Wb (k3 _ _ Wb e))
    generalize upd H3 W (.lst []) = H4 at B4 k4 eW ⊢
    dsimp only [gName]
    have moreW : ∀ {H' H2 : Hp} {ws : List V} {ds : List PyData} {i j : Int} {v : V} {d : PyData} {t : Addr}, BagAt H2 b c0 → (∀ c o, c ≠ b → c ≠ W → H' c = some o → H2 c = some o) → (∀ c o, c ≠ b → H3 c = some o → H' c = some o) → H2 W = some (.lst ws) → DqAll (del H' W) b ws ds → (∀ e ∈ ds, WayIn n1 k1 e) → 0 ≤ i → i < n1 → 0 ≤ j → j < n1 → Dq (del H2 W) b v d → okD d → stD d = true → frozenD d = d → smallSt d ∧ StFit k1 d → H2 t = none →
        BagAt (upd (upd H2 t (.tup [.int i, .int j, v])) W (.lst (ws ++ [.ref t]))) b c0 ∧ (∀ c o, c ≠ b → H3 c = some o → (upd (upd H2 t (.tup [.int i, .int j, v])) W (.lst (ws ++ [.ref t]))) c = some o) ∧ (upd H2 t (.tup [.int i, .int j, v])) W = some (.lst ws) ∧
        ∃ (ws' : List V) (ds' : List PyData), (upd (upd H2 t (.tup [.int i, .int j, v])) W (.lst (ws ++ [.ref t]))) W = some (.lst ws') ∧ DqAll (del (upd (upd H2 t (.tup [.int i, .int j, v])) W (.lst (ws ++ [.ref t]))) W) b ws' ds' ∧ (∀ e ∈ ds', WayIn n1 k1 e) ∧ ds'.length = ds.length + 1 := fun {H' H2 ws ds i j v d t} B2 k2 k0 e' ha ht i0 i1 j0 j1 hd od sd fz sm nt => by
      have tW : W ≠ t := ne_of_none e' nt
      obtain ⟨B3, tb, _⟩ := BagAt.new (o := .tup [.int i, .int j, v]) B2 nt
      have sub2 : ∀ c o, c ≠ b → del H2 W c = some o → del (upd (upd H2 t (.tup [.int i, .int j, v])) W (.lst (ws ++ [.ref t]))) W c = some o := fun c o n e => by
        have nc : c ≠ W := fun z => by
          rw [z, del_same] at e
          cases e
        have e2 := del_sub c o e
        rw [del_upd, del_ne nc, upd_ne (ne_of_none e2 nt)]
        exact e2
      refine ⟨B3.put Wb Wc, fun c o n e => ?_, by rw [upd_ne tW]; exact e', _, ds ++ [.tuple [.int i, .int j, d]], upd_same, ?_, fun e he => ?_, by simp⟩
      · have e2 := k2 _ _ n (oW c o n e) (k0 _ _ n e)
        rw [upd_ne (oW c o n e), upd_ne (ne_of_none e2 nt)]
        exact e2
      · refine DqAll.snoc (.tup (xs := [.int i, .int j, v]) (by rw [del_ne tW.symm, upd_ne tW.symm]; exact upd_same) tb (.cons (.int _) (.cons (.int _) (.cons (hd.mono sub2) .nil)))) (ha.mono fun c o n e => ?_)
        have nc : c ≠ W := fun z => by
          rw [z, del_same] at e
          cases e
        exact sub2 c o n (by rw [del_ne nc]; exact k2 _ _ n nc (del_sub c o e))
      · rcases List.mem_append.mp he with h | h
        · exact ht e h
        · rw [List.mem_singleton.mp h]
          exact ⟨i, j, d, rfl, i0, i1, j0, j1, od, sd, fz, sm⟩
    have FW : F ≠ W := oW _ _ Fb eF3
    refine ⟨_, rfl, F, rfl, ⟨_, SqL.of (k4 _ _ Fb eF3)⟩, ?_⟩
    refine for_list (K := K) (a := F) (xs := fs) (fun i σ H' => ∃ y8 y9 y10 : Option V, σ = [some (.ref b), some (.ref hs), some (.str "a"), some (.int most), some (.ref o1), some (.ref F), y6', some (.ref W), y8, y9, y10] ∧ BagAt H' b c0 ∧ Keep b H3 H' ∧ ∃ (ws : List V) (ds : List PyData), H' W = some (.lst ws) ∧ DqAll (del H' W) b ws ds ∧ (∀ e ∈ ds, WayIn n1 k1 e) ∧ ds.length = i)
      ⟨none, none, none, rfl, B4, k4, [], [], eW, .nil, (fun e he => by cases he), rfl⟩ (fun i σ H' _ h => ?_) ?_ ?_
    · obtain ⟨_, _, _, _, _, k', _⟩ := h
      exact SqL.of (k' _ _ Fb eF3)
    · rintro m x σ H' hxm ⟨y8, y9, y10, rfl, B', k', ws, ds, e', hw, hwi, hwl⟩
      obtain ⟨e, hde, hdx⟩ := ha.at_ hxm
      obtain ⟨i, j, rfl, i0, i1, j0, j1⟩ := ht e (List.mem_of_getElem? hde)
      obtain ⟨ae, xs0, ds0, rfl, aeb, ee, e3, hv⟩ := hdx.tup_of rfl
      cases ee
      obtain ⟨v1, v2, rfl⟩ := two_of hv.len
      obtain ⟨_, _, ee, g4, g5⟩ := hv.two
      cases ee
      cases g4
      cases g5
      have e3' := k' _ _ aeb (del_sub _ _ e3)
      have hm : m < es.length := (List.getElem?_eq_some_iff.mp hde).1
      have wl := hw.len
      have k0' : Keep b H H' := k3.trans k'
      refine ⟨ae, _, rfl, SqT.of e3', rfl, _, _, rfl, _, _, rfl, rfl, ?_⟩
      refine ⟨_, rfl, b, 3, rfl, BagAt.bag B', by decide, by decide, fun r H5 h5 B5 k5 g5 => ⟨rfl, _, rfl, ite2 (fun _ => ?_) (fun _ => ?_)⟩⟩
      · have B5c := g5 _ B'
        have k05 := k0'.trans k5
        refine ⟨_, rfl, hs, headsV o1 o2, ["a", "b"], rfl, .inl (k05 _ _ hb hh), rfl, by decide, fun ys n hperm _ nn => ?_⟩
        obtain ⟨B6, nb, _⟩ := BagAt.new (o := .lst (ys.map V.str)) B5c nn
        have k6 : Keep b H5 (upd H5 n (.lst (ys.map V.str))) := Keep.new nn
        have en := (upd_same : (upd H5 n (.lst (ys.map V.str))) n = some (.lst (ys.map V.str)))
        generalize upd H5 n (.lst (ys.map V.str)) = H6 at B6 k6 en ⊢
        have k06 := k05.trans k6
        refine ⟨_, rfl, _, rfl, hs, _, rfl, k06 _ _ hb hh, b, 2, rfl, BagAt.bag B6, by decide, by decide, fun r2 H7 h7 B7 k7 g7 => ?_⟩
        have B7c := g7 _ B6
        have k07 := k06.trans k7
        have yl : ys.length = 2 := hperm.length_eq
        have hr2 : r2 < ys.length := by omega
        have hat : (ys.map V.str)[r2]? = some (.str ys[r2]) := by rw [List.getElem?_map, List.getElem?_eq_getElem hr2]; rfl
        refine ⟨n, _, r2, _, rfl, rfl, SqL.of (k7 _ _ nb en), atI_nat hat, ?_⟩
        dsimp only [gName]
        have k57 : Keep b H' H7 := (k5.trans k6).trans k7
        have eW7 := k57 _ _ Wb e'
        have hmem : ys[r2] = "a" ∨ ys[r2] = "b" := by
          have : ys[r2] ∈ (["a", "b"] : List Str) := hperm.mem_iff.mp (List.getElem_mem hr2)
          rcases List.mem_cons.mp this with h | h
          · exact .inl h
          · exact .inr (List.mem_singleton.mp h)
        have fin : ∀ (p : Addr) (d : PyData) (H8 : Hp), Dq H8 b (.ref p) d → True := fun _ _ _ _ => True.intro
        rcases hmem with hz | hz
        · rw [hz]
          refine ⟨_, rfl, .inl ⟨rfl, _, SqL.of eW7⟩, _, rfl, _, rfl, _, rfl, _, rfl, o1, _, rfl, gk k07, _, rfl, _, rfl, _, rfl, hs, _, rfl, ga k07, b, a1, a1, o1, p1, r1, "a", k1, k1, _, z1, s1, rfl, BagAt.bag B7c, h1.ab, h1.ab, h1.ob, h1.pb, h1.rb, nm_of (by decide +kernel), k07 _ _ h1.ab h1.aa, h1.ok, by have := h1.kl; omega, k07 _ _ h1.ab h1.aa, h1.ok, k07 _ _ h1.ob h1.oo, kk1, kp1, kr1, k07 _ _ h1.pb h1.hp, by have := h1.zl; omega, h1.zin, k07 _ _ h1.rb h1.hr, by have := h1.rl; omega, h1.rin, fun p d H8 hd od sd fz sm0 sf B8 k8 g8 => ?_⟩
          have sm := And.intro sm0 sf
          refine ⟨by show 3 ≤ sizeLine; decide, fun t nt => ?_⟩
          have eW8 := (k57.trans k8) _ _ Wb e'
          obtain ⟨B9, k9, e9, ws', ds', e10, hw', hwi', hwl'⟩ := moreW (i := i) (j := j) (v := .ref p) (d := d) (g8 _ B7c) (fun c o n _ e => (k57.trans k8) c o n e) k' eW8 hw hwi i0 i1 j0 j1 (hd.off eW8 (st_noL sd fz)) od sd fz sm nt
          exact ⟨W, _, _, rfl, rfl, e9, by omega, _, _, _, rfl, B9, k9, ws', ds', e10, hw', hwi', by omega⟩
        · rw [hz]
          refine ⟨_, rfl, .inl ⟨rfl, _, SqL.of eW7⟩, _, rfl, _, rfl, _, rfl, _, rfl, o1, _, rfl, gk k07, _, rfl, _, rfl, _, rfl, hs, _, rfl, gb k07, b, a1, a2, o2, p2, r2', "b", k1, k2', _, z2, s2, rfl, BagAt.bag B7c, h1.ab, h2.ab, h2.ob, h2.pb, h2.rb, nm_of (by decide +kernel), k07 _ _ h1.ab h1.aa, h1.ok, by have := h1.kl; omega, k07 _ _ h2.ab h2.aa, h2.ok, k07 _ _ h2.ob h2.oo, kk2, kp2, kr2, k07 _ _ h2.pb h2.hp, by have := h2.zl; omega, h2.zin, k07 _ _ h2.rb h2.hr, by have := h2.rl; omega, h2.rin, fun p d H8 hd od sd fz sm0 sf B8 k8 g8 => ?_⟩
          have sm := And.intro sm0 sf
          refine ⟨by show 3 ≤ sizeLine; decide, fun t nt => ?_⟩
          have eW8 := (k57.trans k8) _ _ Wb e'
          obtain ⟨B9, k9, e9, ws', ds', e10, hw', hwi', hwl'⟩ := moreW (i := i) (j := j) (v := .ref p) (d := d) (g8 _ B7c) (fun c o n _ e => (k57.trans k8) c o n e) k' eW8 hw hwi i0 i1 j0 j1 (hd.off eW8 (st_noL sd fz)) od sd fz sm nt
          exact ⟨W, _, _, rfl, rfl, e9, by omega, _, _, _, rfl, B9, k9, ws', ds', e10, hw', hwi', by omega⟩
      · have B5c := g5 _ B'
        have k05 := k0'.trans k5
        have eW5 := k5 _ _ Wb e'
        refine ⟨_, rfl, .inl ⟨rfl, _, SqL.of eW5⟩, _, rfl, _, rfl, _, rfl, _, rfl, o1, _, rfl, gk k05, b, a1, k1, rfl, BagAt.bag B5c, h1.ab, k05 _ _ h1.ab h1.aa, h1.ok, by have := h1.kl; omega, fun p d H8 hd od sd fz sm0 sf B8 k8 g8 => ?_⟩
        have sm := And.intro sm0 sf
        refine ⟨by show 3 ≤ sizeLine; decide, fun t nt => ?_⟩
        have eW8 := (k5.trans k8) _ _ Wb e'
        obtain ⟨B9, k9, e9, ws', ds', e10, hw', hwi', hwl'⟩ := moreW (i := i) (j := j) (v := .ref p) (d := d) (g8 _ B5c) (fun c o n _ e => (k5.trans k8) c o n e) k' eW8 hw hwi i0 i1 j0 j1 (hd.off eW8 (st_noL sd fz)) od sd fz sm nt
        exact ⟨W, _, _, rfl, rfl, e9, by omega, _, _, _, rfl, B9, k9, ws', ds', e10, hw', hwi', by omega⟩
    · rintro σ H' ⟨y8, y9, y10, rfl, B', k', ws, ds, e', hw, hwi, hwl⟩
      exact ⟨_, rfl, q W ws ds H' nW0 Wb e' hw hwi (by omega) (BagAt.bag B') (k3.trans k')⟩
end
end Fv


set_option Elab.async false
set_option linter.all false
set_option maxRecDepth 100000
set_option maxHeartbeats 4000000
namespace Fv
open PySem PySem.Spec PyProof.Rows L2
/-! ### d.get(k, x), d a written dict -/
def tKGet2 (K : PySem.W.Frag) (w : World) (td ty tx : TE) : TE := fun σ H Q => td σ H fun x H1 => ∃ a es n, x = .ref a ∧ KDict K w a es n ∧ ty σ H1 fun y H2 => tx σ H2 fun d H3 => ∃ (z : Str) (r : Option Value) (v : V), y = .str z ∧ PySem.W.nsIn K a z = some r ∧
  (match r with | none => v = d | some u => RelV v u) ∧ Q v H3
section
variable {X : Cx} {o e f : Expr} {apos cpos : Pos} {td ty tx : TE}
theorem pe_kget2 (ho : PE X o td) (he : PE X e ty) (hf : PE X f tx) (m : M2 X o "get" apos e f cpos) : PE X (.Call (.Attribute o "get" apos) [e, f] [] cpos) (tKGet2 X.K X.w td ty tx) := by
  refine ⟨fun pins s σ H Q I h => ?_⟩
  refine wpAny_Call_method m.base m.few m.line PySem.F.plainAttrs_dict PySem.F.slot_dict_get PySem.F.type_dict_get (thn (ho.run pins s σ H _ I h) fun u s1 ⟨x, H1, I1, rx, a, es, n, ex, D, q1⟩ => ?_)
  subst ex
  obtain rfl : u = Value.ref a := rx
  have hm1 := PySem.W.mapOf_K (prog := X.prog) (w := X.w) I1.kIn D.at_ D.lit
  refine ⟨hm1.typeIs, fun b q => ?_, ?_⟩
  · cases q
    exact ⟨_, I1.kIn _ _ D.at_, rfl⟩
  rw [m.trees]
  refine Calls.callWith_builtin rfl (Calls.evalArgs_plain (Calls.spliced_cons (thn (he.run pins s1 σ H1 _ I1 q1) fun iv s2 ⟨y, H2, I2, ry, q2⟩ => Calls.spliced_cons (thn (hf.run pins s2 σ H2 _ I2 q2) fun dv s3 ⟨d, H3, I3, rd, z, r, v, ey, en, hv, q3⟩ => Calls.spliced_nil ?_))))
  subst ey
  obtain ⟨t, rfl⟩ := (show ∃ t, iv = Value.str z t from ry)
  have hm := PySem.W.mapOf_K (prog := X.prog) (w := X.w) I3.kIn D.at_ D.lit
  refine call_meetsIn PySem.F.slot_dict_get hm.typeIs PySem.F.entry_dict_get (PySem.F.args_dict_get_3 _ _ _) (meets_dict_get_default (strKind X.prog X.w) a (PySem.strKind_is X.prog X.w z t) D.low dv) ⟨_, hm, ?_⟩
  rw [PySem.W.find_K D.at_ en]
  refine ⟨v, H3, I3.tok _, ?_, q3⟩
  cases r with
  | none =>
    have hv : v = d := hv
    rw [hv]
    exact rd
  | some u => exact hv
end
/-! ### lists of lists, gone through until the first that is bad -/
theorem flat_split {α β : Type} (F : α → List β) {ds : List α} {i : Nat} {e : α} (h : ds[i]? = some e) : ∃ r, ds.flatMap F = (ds.take i).flatMap F ++ (F e ++ r) := by
  refine ⟨(ds.drop (i + 1)).flatMap F, ?_⟩
  have : ds = ds.take i ++ (e :: ds.drop (i + 1)) := by
    have hlt := (List.getElem?_eq_some_iff.mp h).1
    have e2 := (List.getElem?_eq_some_iff.mp h).2
    rw [← e2, ← List.drop_eq_getElem_cons hlt, List.take_append_drop]
  conv => lhs; rw [this]
  rw [List.flatMap_append, List.flatMap_cons]
theorem find_flat {α β : Type} {F : α → List β} {p : β → Bool} {ds : List α} {i : Nat} {e : α} {z : β} (h : ds[i]? = some e) (hn : ((ds.take i).flatMap F).find? p = none) (hz : (F e).find? p = some z) : (ds.flatMap F).find? p = some z := by
  obtain ⟨r, er⟩ := flat_split F h
  rw [er, List.find?_append, hn, Option.none_or, List.find?_append, hz, Option.some_or]
theorem flat_snoc {α β : Type} {F : α → List β} {p : β → Bool} {ds : List α} {i : Nat} {e : α} (h : ds[i]? = some e) (hn : ((ds.take i).flatMap F).find? p = none) (hz : (F e).find? p = none) : ((ds.take (i + 1)).flatMap F).find? p = none := by
  rw [List.take_add_one, h]
  show ((ds.take i ++ [e]).flatMap F).find? p = none
  rw [List.flatMap_append, List.find?_append, hn, Option.none_or]
  simpa using hz
/-! ### _flows -/
abbrev sFlows : Stmt := top 42
def pairV (f : Str × Str) : PyData := .tuple [.str f.1, .str f.2]
/-- the written dict of the kinds that words want -/
structure WantD (K : PySem.W.Frag) (w : World) (a : Addr) : Prop where
  kd : ∃ es n, KDict K w a es n
  most : ∃ u, PySem.W.nsIn K a "most" = some (some u) ∧ RelV (.str "high") u
  least : ∃ u, PySem.W.nsIn K a "least" = some (some u) ∧ RelV (.str "low") u
  skip : PySem.W.nsIn K a "skip" = some none
  set : PySem.W.nsIn K a "set" = some none
  call : PySem.W.nsIn K a "call" = some none
def spFlows : Sp := fun vs H Q _ => ∃ (b : Addr) (v : V) (d : PyData), vs = [v] ∧ Dq H b v d ∧ okD d ∧ stD d = true ∧ frozenD d = d ∧ (∃ o, H b = some o) ∧
  ∀ (H' : Hp) (p : Addr) (ys : List V), Same H H' → H p = none → H' p = some (.lst ys) → DqAll (del H' p) b ys ((flowsOf d).map pairV) → Q (.ref p) H'
abbrev nFl : List Str := ["statement", "x", "y", "_"]
section
variable {P : Program} {w : World} {K : PySem.W.Frag} {mg : Str → Option Value} {base : Heap} {C : Addr}
theorem scFl : FnScope nFl ["statement"] (defScope sFlows) := ⟨rfl, rfl, rfl, by decide +kernel, rfl, by decide +kernel, by decide +kernel⟩
theorem ok_flows {f aW : Addr} {fd : FuncData} (F : Fun K "_flows" "_flows" sFlows f fd) (mW : mg "WANTED" = some (.ref aW)) (W : WantD K w aW) : FnOk P w K mg base CX0 1 f fd ["statement"] spFlows := by
  refine F.ok scFl (fun vs H Q E h => ?_) (fun cdv A outer s H vs Q E hr h => ?_)
  · obtain ⟨b, v, d, rfl, _⟩ := h
    rfl
  · obtain ⟨b, v, d, rfl, hd, hs, hst, hfz, hb, q⟩ := h
    obtain ⟨es, n, DW⟩ := W.kd
    refine ⟨_, pss_cons (ps_if (pt_cmpR op_eq (pe_ix (r := rIxT K) ix_tup (pv 0) pe_int (fun _ _ => rfl)) pe_str (nomark _)) (pss_one (ps_ret
        (pe_lc (own := [("x", 1), ("y", 2), ("_", 3)]) (g := gTup K 3 (gCons (gName 1) (gCons (gName 2) (gCons (gName 3) gNil)))) (tt := tYes) rfl scFl.nd (pi_tup (pe_ix (r := rIxT K) ix_tup (pv 0) pe_int (fun _ _ => rfl))) (blkOk_by (N := nFl) (sc := defScope sFlows) (by decide +kernel))
          (fun _ _ _ _ _ => pg_tup (by rfl) (pgs_cons (pg_name (i := 1) scFl.nd rfl (.inl rfl)) (pgs_cons (pg_name (i := 2) scFl.nd rfl (.inl rfl)) (pgs_cons (pg_name (i := 3) scFl.nd rfl (.inl rfl)) pgs_nil)))) (fun _ _ _ _ _ => pts_nil)
          (fun _ _ _ _ _ => pe_tup (pa_cons (pv 1) (pa_cons (pv 2) pa_nil)))))) pss_nil)
      (pss_cons (ps_if (pt_cmpR (op_in_kd DW) (pe_ix (r := rIxT K) ix_tup (pv 0) pe_int (fun _ _ => rfl)) (pe_glob (v := .ref aW) (by rfl) mW rfl) (by rfl))
          (pss_one (ps_ret (pe_lc (own := [("y", 2), ("_", 3)]) (g := gTup K 2 (gCons (gName 2) (gCons (gName 3) gNil))) (tt := tYes) rfl scFl.nd (pi_tup (pe_ix (r := rIxT K) ix_tup (pv 0) pe_int (fun _ _ => rfl))) (blkOk_by (N := nFl) (sc := defScope sFlows) (by decide +kernel))
            (fun _ _ _ _ _ => pg_tup (by rfl) (pgs_cons (pg_name (i := 2) scFl.nd rfl (.inl rfl)) (pgs_cons (pg_name (i := 3) scFl.nd rfl (.inl rfl)) pgs_nil))) (fun _ _ _ _ _ => pts_nil)
            (fun _ _ _ _ _ => pe_tup (pa_cons (pe_ix (r := rIxT K) ix_tup (pv 0) pe_int (fun _ _ => rfl)) (pa_cons (pv 2) pa_nil)))))) pss_nil)
      (pss_one (ps_ret (pe_lst pa_nil)))), ?_⟩
    obtain ⟨a, xs, ds, rfl, ab, ed, e1, hx⟩ := hd.tup_of (st_tup hst)
    obtain ⟨ob, hob⟩ := hb
    have sh := st_shape hst
    cases sh with
    | skip =>
      cases ed
      obtain ⟨x0, rfl⟩ := one_of hx.len
      obtain ⟨_, ee, h0⟩ := hx.one
      cases ee
      cases h0
      refine ⟨_, rfl, a, _, _, _, rfl, rfl, SqT.of e1, atI_nat (j := 0) rfl, rfl, _, rfl, iteF ?_⟩
      refine ⟨_, rfl, a, _, _, _, rfl, rfl, SqT.of e1, atI_nat (j := 0) rfl, _, none, rfl, rfl, W.skip, _, rfl, iteF ⟨Nat.zero_le _, fun p np => ?_⟩⟩
      exact q _ p [] (same_upd np) np upd_same .nil
    | @set zp hp =>
      cases ed
      obtain ⟨x0, x1, rfl⟩ := two_of hx.len
      obtain ⟨_, _, ee, h0, g1⟩ := hx.two
      cases ee
      cases h0
      have hall := sets_all hp
      obtain ⟨ap, ys0, items, rfl, rfl, ep, hy⟩ : ∃ ap ys0 items, x1 = .ref ap ∧ zp = .tuple items ∧ H ap = some (.tup ys0) ∧ DqAll H b ys0 items := by
        cases g1 with
        | lst e n m h => simp [frozenD, fz] at hfz
        | tup e n h => exact ⟨_, _, _, rfl, rfl, e, h⟩
        | _ => cases row_sets hp
      have hl : items.length ≤ 60 := (show okD (.tuple items) from hs.2.2.1).1
      refine ⟨_, rfl, a, _, _, _, rfl, rfl, SqT.of e1, atI_nat (j := 0) rfl, rfl, _, rfl, iteT ?_⟩
      refine ⟨_, rfl, a, _, _, _, rfl, rfl, SqT.of e1, atI_nat (j := 1) rfl, ap, rfl, ⟨_, SqT.of ep⟩, fun D hD => ?_⟩
      have hlen := hy.len
      refine lc_tup (K := K) (a := ap) (xs := ys0) (fun i H' => Same H H' ∧ ∃ ys : List V, H' D = some (.lst ys) ∧ DqAll (del H' D) b ys ((items.take i).map fun e => pairV (headS e, srcS e))) ⟨same_upd hD, [], upd_same, .nil⟩ (fun i H' _ h => SqT.of (h.1 _ _ ep)) ?_ ?_
      · rintro i x H' hxi ⟨s', ys, e', ya⟩
        obtain ⟨dx, hdi, hdx⟩ := hy.at_ hxi
        obtain ⟨zx, zy, zc, rfl⟩ := trip_shape (List.all_eq_true.mp hall dx (List.mem_of_getElem? hdi))
        obtain ⟨ae, rfl, _, e4⟩ := hdx.trip
        have yl : ys.length ≤ i := by rw [ya.len, List.length_map, List.length_take]; omega
        have hi : i < items.length := (List.getElem?_eq_some_iff.mp hdi).1
        refine ⟨ae, _, rfl, SqT.of (s' _ _ e4), rfl, _, _, rfl, _, _, rfl, _, _, rfl, rfl, rfl, _, rfl, _, rfl, by show 2 ≤ sizeLine; decide, fun t nt => ?_⟩
        have w1 := same_upd (o := .tup [.str zx, .str zy]) nt
        refine ⟨ys, w1 _ _ e', small60 (by omega), fun c o e => ?_, _, upd_same, ?_⟩
        · rw [upd_ne (ne_of_none e hD)]
          exact w1 _ _ (s' c o e)
        · rw [del_upd, take_map_snoc hdi]
          refine DqAll.snoc (.tup (xs := [.str zx, .str zy]) ?_ (ne_of_none (s' _ _ hob) nt).symm (.cons (.str _) (.cons (.str _) .nil))) (ya.mono fun c o _ e => sub_upd w1 c o e)
          rw [del_ne (ne_of_none e' nt).symm]
          exact upd_same
      · rintro H2 ⟨s2, ys, e2, ya⟩
        rw [hlen, List.take_length] at ya
        refine q H2 D ys s2 hD e2 ?_
        show DqAll _ b ys (((items.map fun e => (headS e, srcS e))).map pairV)
        rw [List.map_map]
        exact ya
    | @most zw zx zp hw h2 h3 h4 =>
      cases ed
      obtain ⟨x0, x1, x2, rfl⟩ := three_of hx.len
      obtain ⟨_, _, _, ee, h0, g1, g2⟩ := hx.three
      cases ee
      cases h0
      cases g1
      have hall := parts_all h3
      have n1 : decide (V.str zw = V.str "set") = false := by
        rw [str_dec]
        rcases hw with rfl | rfl <;> decide +kernel
      obtain ⟨u, nu⟩ : ∃ u, PySem.W.nsIn K aW zw = some (some u) := by
        rcases hw with rfl | rfl
        · exact ⟨_, W.most.choose_spec.1⟩
        · exact ⟨_, W.least.choose_spec.1⟩
      obtain ⟨ap, ys0, items, rfl, rfl, ep, hy⟩ : ∃ ap ys0 items, x2 = .ref ap ∧ zp = .tuple items ∧ H ap = some (.tup ys0) ∧ DqAll H b ys0 items := by
        cases g2 with
        | lst e n m h => simp [frozenD, fz] at hfz
        | tup e n h => exact ⟨_, _, _, rfl, rfl, e, h⟩
        | _ => cases row_parts h3
      have hl : items.length ≤ 60 := (show okD (.tuple items) from hs.2.2.2.1).1
      refine ⟨_, rfl, a, _, _, _, rfl, rfl, SqT.of e1, atI_nat (j := 0) rfl, rfl, _, rfl, ?_⟩
      rw [n1]
      refine iteF ⟨_, rfl, a, _, _, _, rfl, rfl, SqT.of e1, atI_nat (j := 0) rfl, _, some u, rfl, rfl, nu, _, rfl, iteT ?_⟩
      refine ⟨_, rfl, a, _, _, _, rfl, rfl, SqT.of e1, atI_nat (j := 2) rfl, ap, rfl, ⟨_, SqT.of ep⟩, fun D hD => ?_⟩
      have hlen := hy.len
      refine lc_tup (K := K) (a := ap) (xs := ys0) (fun i H' => Same H H' ∧ ∃ ys : List V, H' D = some (.lst ys) ∧ DqAll (del H' D) b ys ((items.take i).map fun e => pairV (zx, srcS e))) ⟨same_upd hD, [], upd_same, .nil⟩ (fun i H' _ h => SqT.of (h.1 _ _ ep)) ?_ ?_
      · rintro i x H' hxi ⟨s', ys, e', ya⟩
        obtain ⟨dx, hdi, hdx⟩ := hy.at_ hxi
        obtain ⟨zy, zc, rfl⟩ := pair_shape (List.all_eq_true.mp hall dx (List.mem_of_getElem? hdi))
        obtain ⟨ae, rfl, _, e4⟩ := hdx.pair
        have yl : ys.length ≤ i := by rw [ya.len, List.length_map, List.length_take]; omega
        have hi : i < items.length := (List.getElem?_eq_some_iff.mp hdi).1
        refine ⟨ae, _, rfl, SqT.of (s' _ _ e4), rfl, _, _, rfl, _, _, rfl, rfl, rfl, _, rfl, a, _, _, _, rfl, rfl, SqT.of (s' _ _ e1), atI_nat (j := 1) rfl, _, rfl, by show 2 ≤ sizeLine; decide, fun t nt => ?_⟩
        have w1 := same_upd (o := .tup [.str zx, .str zy]) nt
        refine ⟨ys, w1 _ _ e', small60 (by omega), fun c o e => ?_, _, upd_same, ?_⟩
        · rw [upd_ne (ne_of_none e hD)]
          exact w1 _ _ (s' c o e)
        · rw [del_upd, take_map_snoc hdi]
          refine DqAll.snoc (.tup (xs := [.str zx, .str zy]) ?_ (ne_of_none (s' _ _ hob) nt).symm (.cons (.str _) (.cons (.str _) .nil))) (ya.mono fun c o _ e => sub_upd w1 c o e)
          rw [del_ne (ne_of_none e' nt).symm]
          exact upd_same
      · rintro H2 ⟨s2, ys, e2, ya⟩
        rw [hlen, List.take_length] at ya
        refine q H2 D ys s2 hD e2 ?_
        show DqAll _ b ys (((items.map fun e => (zx, srcS e))).map pairV)
        rw [List.map_map]
        exact ya
    | @call zx zp zr h2 h3 h4 =>
      cases ed
      obtain ⟨x0, xr, rfl⟩ : ∃ x0 xr, xs = x0 :: xr := by
        cases xs with
        | nil => cases hx
        | cons x xs => exact ⟨_, _, rfl⟩
      cases hx with
      | cons h0 hx =>
        cases h0
        refine ⟨_, rfl, a, _, _, _, rfl, rfl, SqT.of e1, atI_nat (j := 0) rfl, rfl, _, rfl, iteF ?_⟩
        refine ⟨_, rfl, a, _, _, _, rfl, rfl, SqT.of e1, atI_nat (j := 0) rfl, _, none, rfl, rfl, W.call, _, rfl, iteF ⟨Nat.zero_le _, fun p np => ?_⟩⟩
        exact q _ p [] (same_upd np) np upd_same .nil
end
end Fv


set_option Elab.async false
set_option linter.all false
set_option maxRecDepth 100000
set_option maxHeartbeats 4000000
namespace Fv
open PySem PySem.Spec PyProof.Rows L2
abbrev sChkK : Stmt := top 41
def stOf : PyData → PyData
  | .tuple [_, _, s] => s
  | _ => .none
def flowsW (e : PyData) : List (Str × Str × Str) := (flowsOf (stOf e)).map fun f => (wordOf (stOf e), f)
/-- what stands in a dict of kinds -/
structure KindsAt (kvs : List (Key × V)) (kf : Str → Str) : Prop where
  get : ∀ z : Str, valV kvs (Sum.inr z) = some (.str (kf z)) ∨ (valV kvs (Sum.inr z) = none ∧ kf z = "plain")
def WayK (kvs : List (Key × V)) (e : PyData) : Prop := ∃ (i j : Int) (s : PyData), e = .tuple [.int i, .int j, s] ∧ okD s ∧ stD s = true ∧ frozenD s = s ∧ ∀ f ∈ flowsOf s, (valV kvs (Sum.inr f.1)).isSome = true
def spChkK (CE : Addr) : Sp := fun vs H Q E => ∃ (b kd p : Addr) (kvs : List (Key × V)) (kf : Str → Str) (xs : List V) (ds : List PyData), vs = [.ref kd, .ref p] ∧ (∃ o, H b = some o) ∧ H kd = some (.dK kvs) ∧ KindsAt kvs kf ∧ H p = some (.lst xs) ∧ DqAll H b xs ds ∧ (∀ e ∈ ds, WayK kvs e) ∧
  ((ds.flatMap flowsW).find? (badF kf) = none → ∀ H', Same H H' → Q .non H') ∧
  ∀ z : Str × Str × Str, (ds.flatMap flowsW).find? (badF kf) = some z → ∀ (H1 : Hp) (dx : Addr), Same H H1 → H1 dx = none → E (.ref CE) (some dx) (upd H1 dx (.xd [("name", .str z.2.1)]))
abbrev nCk : List Str := ["kinds", "ways", "_", "statement", "x", "y", "wanted"]
theorem word_cases {s : PyData} (h : stD s = true) : wordOf s = "skip" ∨ wordOf s = "set" ∨ wordOf s = "most" ∨ wordOf s = "least" ∨ wordOf s = "call" := by
  cases st_shape h with
  | skip => exact .inl rfl
  | set _ => exact .inr (.inl rfl)
  | @most w x p hw _ _ _ => exact hw.elim (fun e => .inr (.inr (.inl e))) fun e => .inr (.inr (.inr (.inl e)))
  | call _ _ _ => exact .inr (.inr (.inr (.inr rfl)))
section
variable {P : Program} {w : World} {K : PySem.W.Frag} {mg : Str → Option Value} {base : Heap}
theorem scCkk : FnScope nCk ["kinds", "ways"] (defScope sChkK) := ⟨rfl, rfl, rfl, by decide +kernel, rfl, by decide +kernel, by decide +kernel⟩
/-- a statement's word at its place -/
theorem st_head {H : Hp} {b : Addr} {v : V} {s : PyData} (g : Dq H b v s) (h : stD s = true) : ∃ a xs, v = .ref a ∧ H a = some (.tup (.str (wordOf s) :: xs)) := by
  obtain ⟨a, xs, ds, rfl, _, rfl, e1, hx⟩ := g.tup_of (st_tup h)
  cases hx with
  | nil =>
    cases st_shape h
  | @cons v0 vs d0 ds h0 ht =>
    have : d0 = .str (wordOf (.tuple (d0 :: ds))) := by
      have sh := st_shape h
      generalize e : PyData.tuple (d0 :: ds) = d at sh
      cases sh <;> (cases e; rfl)
    rw [this] at h0
    cases h0
    exact ⟨a, vs, rfl, e1⟩
theorem ok_chkkinds {f fL fI aW CE : Addr} {fd fdL fdI : FuncData} (F : Fun K "_check_kinds" "_check_kinds" sChkK f fd) (O : Own1 P w K mg base "BadKind" "name" CE) (mW : mg "WANTED" = some (.ref aW)) (W : WantD K w aW)
    (GL : FnOk P w K mg base CX0 1 fL fdL ["statement"] spFlows) (bL : Binds K fdL ["statement"] []) (mL : mg "_flows" = some (.ref fL)) (kL : PySem.W.keepIn K (.ref fL) = true)
    (GI : FnOk P w K mg base CX0 1 fI fdI ["part", "kind"] spFits) (bI : Binds K fdI ["part", "kind"] []) (mI : mg "fits" = some (.ref fI)) (kI : PySem.W.keepIn K (.ref fI) = true) :
    FnOk P w K mg base (L2.CX P w) 3 f fd ["kinds", "ways"] (spChkK CE) := by
  refine F.okX scCkk (fun vs H Q E h => ?_) (fun cdv A outer s H vs Q E hr h => ?_)
  · obtain ⟨b, kd, p, kvs, kf, xs, ds, rfl, _⟩ := h
    rfl
  · obtain ⟨b, kd, p, kvs, kf, xs, ds, rfl, ⟨ob, hob⟩, hk, kat, hp, hx, hw, q, qE⟩ := h
    have hr1 : Room 1 _ := hr.mono (by decide)
    have hu := hu_of hr
    obtain ⟨es, n, DW⟩ := W.kd
    refine ⟨_, pss_one (ps_for (passes_of rfl) rfl (pi_list (pv 1)) (pg_tup (by rfl) (pgs_cons (pg_name (i := 2) scCkk.nd rfl (.inl rfl)) (pgs_cons (pg_name (i := 2) scCkk.nd rfl (.inl rfl)) (pgs_cons (pg_name (i := 3) scCkk.nd rfl (.inl rfl)) pgs_nil))))
      (pss_one (ps_for (passes_of rfl) rfl (pi_list (pe_call GL hr1 (by rfl) mL kL bL .nil pass0 (pa_cons (pv 3) pa_nil))) (pg_tup (by rfl) (pgs_cons (pg_name (i := 4) scCkk.nd rfl (.inl rfl)) (pgs_cons (pg_name (i := 5) scCkk.nd rfl (.inl rfl)) pgs_nil)))
        (pss_cons (ps_set (i := 6) scCkk.nd rfl (.inl rfl) (pe_kget2 (pe_glob (v := .ref aW) (by rfl) mW rfl) (pe_ix (r := rIxT K) ix_tup (pv 3) pe_int (fun _ _ => rfl)) (pe_dget hu (pv 0) (pv 4) (fun _ _ => rfl)) ⟨rfl, rfl, rfl, rfl⟩))
        (pss_one (ps_if (PW.pt (pw_or (pt_cmpR op_ne (pe_dget hu (pv 0) (pv 4) (fun _ _ => rfl)) (pv 6) (nomark _)) (pw_or1 (pt_not (pt_val (pe_call GI hr1 (by rfl) mI kI bI .nil pass0 (pa_cons (pe_dget2 hu (pv 0) (pv 5) pe_str ⟨rfl, rfl, rfl, rfl⟩) (pa_cons (pe_dget hu (pv 0) (pv 4) (fun _ _ => rfl)) pa_nil))))))))
          (pss_one (ps_raise (W := fun cls d _ H => E cls d H) rfl (takes_of rfl rfl rfl rfl) (pmk1 O hr (by rfl) (pa_cons (pv 4) pa_nil)))) pss_nil)))))), ?_⟩
    refine ⟨_, rfl, p, rfl, ⟨_, SqL.of hp⟩, ?_⟩
    refine for_list (K := K) (a := p) (xs := xs) (fun i σ H' => ∃ y2 y3 y4 y5 y6 : Option V, σ = [some (.ref kd), some (.ref p), y2, y3, y4, y5, y6] ∧ Same H H' ∧ ((ds.take i).flatMap flowsW).find? (badF kf) = none)
      ⟨none, none, none, none, none, rfl, fun _ _ e => e, rfl⟩ (fun i σ H' _ h => ?_) ?_ ?_
    · obtain ⟨_, _, _, _, _, _, s', _⟩ := h
      exact SqL.of (s' _ _ hp)
    · rintro i x σ H' hxi ⟨y2, y3, y4, y5, y6, rfl, s', hn⟩
      obtain ⟨e, hdi, hdx⟩ := hx.at_ hxi
      obtain ⟨k, j, st, rfl, oks, hst, hfz, hfl⟩ := hw e (List.mem_of_getElem? hdi)
      obtain ⟨ae, xs0, ds0, rfl, _, ee, e3, hv⟩ := hdx.tup_of rfl
      cases ee
      obtain ⟨v1, v2, v3, rfl⟩ := three_of hv.len
      obtain ⟨_, _, _, ee, g4, g5, g6⟩ := hv.three
      cases ee
      cases g4
      cases g5
      refine ⟨ae, _, rfl, SqT.of (s' _ _ e3), rfl, _, _, rfl, _, _, rfl, _, _, rfl, rfl, ?_⟩
      obtain ⟨a3, xr, rfl, eh⟩ := st_head g6 hst
      refine ⟨_, rfl, b, _, st, rfl, g6.mono fun c o _ e => s' c o e, oks, hst, hfz, ⟨_, s' _ _ hob⟩, fun G pf ys sG nf epf hys => ⟨pf, rfl, ⟨_, SqL.of epf⟩, ?_⟩⟩
      have s1 := s'.trans sG
      have hF : flowsW (.tuple [.int k, .int j, st]) = (flowsOf st).map fun f => (wordOf st, f) := rfl
      refine for_list (K := K) (a := pf) (xs := ys) (fun m σ H2 => ∃ y4 y5 y6 : Option V, σ = [some (.ref kd), some (.ref p), some (.int j), some (.ref a3), y4, y5, y6] ∧ Same G H2 ∧ ((flowsW (.tuple [.int k, .int j, st])).take m).find? (badF kf) = none)
        ⟨_, _, _, rfl, fun _ _ e => e, rfl⟩ (fun m σ H2 _ h => ?_) ?_ ?_
      · obtain ⟨_, _, _, _, s2, _⟩ := h
        exact SqL.of (s2 _ _ epf)
      · rintro m x σ H2 hm ⟨y4, y5, y6, rfl, s2, hn2⟩
        obtain ⟨dx, hdm, hdx2⟩ := hys.at_ hm
        obtain ⟨fp, hfm, rfl⟩ : ∃ fp, (flowsOf st)[m]? = some fp ∧ dx = pairV fp := by
          rw [List.getElem?_map] at hdm
          cases e0 : (flowsOf st)[m]? with
          | none => rw [e0] at hdm; cases hdm
          | some t => rw [e0] at hdm; exact ⟨t, rfl, (Option.some.inj hdm).symm⟩
        obtain ⟨zx, zy⟩ := fp
        obtain ⟨at_, xs2, ds2, rfl, _, ee, e4, hv2⟩ := hdx2.tup_of rfl
        cases ee
        obtain ⟨u1, u2, rfl⟩ := two_of hv2.len
        obtain ⟨_, _, ee, g7, g8⟩ := hv2.two
        cases ee
        cases g7
        cases g8
        have e4' := s2 _ _ (del_sub _ _ e4)
        have hwm : (flowsW (.tuple [.int k, .int j, st]))[m]? = some (wordOf st, zx, zy) := by
          rw [hF, List.getElem?_map, hfm]
          rfl
        have s12 := s1.trans s2
        have ek := s12 _ _ hk
        have gx : valV kvs (Sum.inr zx) = some (.str (kf zx)) := by
          have some_ := hfl _ (List.mem_of_getElem? hfm)
          rcases kat.get zx with h | ⟨h, _⟩
          · exact h
          · rw [h] at some_
            cases some_
        have gX : ∀ {H3 : Hp}, H3 kd = some (.dK kvs) → DGet H3 kd (.str zx) (some (.str (kf zx))) := fun {H3} e => gx ▸ DGet.k (k := Sum.inr zx) e
        refine ⟨at_, _, rfl, SqT.of e4', rfl, _, _, rfl, _, _, rfl, rfl, ?_⟩
        refine ⟨aW, es, n, rfl, DW, ?_⟩
        obtain ⟨r, hr0, hwant⟩ : ∃ r, PySem.W.nsIn K aW (wordOf st) = some r ∧ (match r with | none => V.str (wantW (wordOf st) (kf zx)) = V.str (kf zx) | some u => RelV (.str (wantW (wordOf st) (kf zx))) u) := by
          rcases word_cases hst with e | e | e | e | e <;> rw [e]
          · exact ⟨none, W.skip, rfl⟩
          · exact ⟨none, W.set, rfl⟩
          · obtain ⟨u, h1, h2⟩ := W.most
            exact ⟨some u, h1, h2⟩
          · obtain ⟨u, h1, h2⟩ := W.least
            exact ⟨some u, h1, h2⟩
          · exact ⟨none, W.call, rfl⟩
        refine ⟨_, rfl, a3, _, _, _, rfl, rfl, SqT.of (s12 _ _ eh), atI_nat (j := 0) rfl, _, rfl, _, rfl, kd, _, rfl, gX ek, wordOf st, r, .str (wantW (wordOf st) (kf zx)), rfl, hr0, ?_, ?_⟩
        · cases r with
          | none => exact hwant
          | some u => exact hwant
        have bd : badF kf (wordOf st, zx, zy) = (decide (kf zx ≠ wantW (wordOf st) (kf zx)) || !fitS (kf zy) (kf zx)) := rfl
        refine ⟨_, rfl, _, rfl, kd, _, rfl, gX ek, _, rfl, rfl, _, rfl, ?_⟩
        have raise_ : badF kf (wordOf st, zx, zy) = true → ∀ (H3 : Hp) (dx : Addr), Same H2 H3 → H3 dx = none → E (.ref CE) (some dx) (upd H3 dx (.xd [("name", .str zx)])) := fun hb H3 dx s3 nd =>
          qE (wordOf st, zx, zy) (find_flat hdi hn (by have := find_take hwm hn2 hb []; rwa [List.append_nil] at this)) H3 dx (s12.trans s3) nd
        by_cases h1 : kf zx = wantW (wordOf st) (kf zx)
        · rw [show (!decide (V.str (kf zx) = V.str (wantW (wordOf st) (kf zx)))) = false from by rw [str_dec, decide_eq_true h1]; rfl]
          obtain ⟨oy, hoy, hky⟩ : ∃ oy : Option V, valV kvs (Sum.inr zy) = oy ∧ oy.getD (.str "plain") = .str (kf zy) := by
            rcases kat.get zy with h | ⟨h, h'⟩
            · exact ⟨_, h, rfl⟩
            · exact ⟨_, h, by rw [h']; rfl⟩
          refine iteF ⟨_, rfl, kd, rfl, .inl ⟨kvs, .inl ek⟩, _, rfl, oy, hoy ▸ DGet.k (k := Sum.inr zy) ek, ?_⟩
          rw [hky]
          refine ⟨_, rfl, _, rfl, kd, _, rfl, gX ek, kf zy, kf zx, rfl, _, rfl, ?_⟩
          cases h2 : fitS (kf zy) (kf zx) with
          | true =>
            refine iteF ⟨_, _, _, rfl, s2, find_snoc hwm hn2 ?_⟩
            rw [bd, h2, decide_eq_false (fun z => z h1)]
            rfl
          | false =>
            refine iteT ⟨_, rfl, fun dx nd => raise_ ?_ H2 dx (fun _ _ e => e) nd⟩
            rw [bd, h2, Bool.not_false, Bool.or_true]
        · rw [show (!decide (V.str (kf zx) = V.str (wantW (wordOf st) (kf zx)))) = true from by rw [str_dec, decide_eq_false h1]; rfl]
          refine iteT ⟨_, rfl, fun dx nd => raise_ ?_ H2 dx (fun _ _ e => e) nd⟩
          rw [bd, decide_eq_true (show kf zx ≠ wantW (wordOf st) (kf zx) from h1)]
          rfl
      · rintro σ H2 ⟨y4, y5, y6, rfl, s2, hn2⟩
        have ll : ys.length = (flowsW (.tuple [.int k, .int j, st])).length := by rw [hys.len, hF, List.length_map, List.length_map]
        rw [ll, List.take_length] at hn2
        exact ⟨_, _, _, _, _, rfl, s1.trans s2, flat_snoc hdi hn hn2⟩
    · rintro σ H' ⟨y2, y3, y4, y5, y6, rfl, s', hn⟩
      rw [hx.len, List.take_length] at hn
      exact q hn H' s'
end
end Fv


set_option Elab.async false
set_option linter.all false
set_option maxRecDepth 100000
set_option maxHeartbeats 4000000
namespace Fv
open PySem PySem.Spec PyProof.Rows L2
abbrev sAreKinds : Stmt := top 35
def dictD : PyData → Bool
  | .dict _ => true
  | _ => false
def kindsD : PyData → Bool
  | .dict ps => ps.all fun p => nameD p.1 && kindD p.2
  | _ => false
/-- the entries of a dict with text keys -/
inductive KvAll (C : Addr) (H : Hp) (b : Addr) : List (Key × V) → List (PyData × PyData) → Prop
  | nil : KvAll C H b [] []
  | cons {z : Str} {x : V} {dx : PyData} {kvs : List (Key × V)} {ps : List (PyData × PyData)} : okD (.str z) → Dx C H b x dx → okD dx → KvAll C H b kvs ps → KvAll C H b ((.inr z, x) :: kvs) ((.str z, dx) :: ps)
theorem KvAll.mono {C : Addr} {H H' : Hp} {b : Addr} (k : ∀ a o, a ≠ b → H a = some o → H' a = some o) : ∀ {kvs : List (Key × V)} {ps : List (PyData × PyData)}, KvAll C H b kvs ps → KvAll C H' b kvs ps
  | _, _, .nil => .nil
  | _, _, .cons h g o t => .cons h (g.mono k) o (KvAll.mono k t)
theorem KvAll.len {C : Addr} {H : Hp} {b : Addr} : ∀ {kvs : List (Key × V)} {ps : List (PyData × PyData)}, KvAll C H b kvs ps → kvs.length = ps.length
  | _, _, .nil => rfl
  | _, _, .cons _ _ _ t => by rw [List.length_cons, List.length_cons, KvAll.len t]
theorem KvAll.at_ {C : Addr} {H : Hp} {b : Addr} : ∀ {kvs : List (Key × V)} {ps : List (PyData × PyData)} {i : Nat} {kv : Key × V}, KvAll C H b kvs ps → kvs[i]? = some kv → ∃ z dx, kv.1 = .inr z ∧ ps[i]? = some (.str z, dx) ∧ okD (.str z) ∧ Dx C H b kv.2 dx ∧ okD dx
  | _, _, 0, _, .cons h g o _, e => by
    cases e
    exact ⟨_, _, rfl, rfl, h, g, o⟩
  | _, _, i + 1, _, .cons _ _ _ t, e => KvAll.at_ (i := i) t e
/-- a dict with text keys (what stands in it tells of no place of its own), or no dict at all -/
def KOk (C : Addr) (H : Hp) (b : Addr) (v : V) (d : PyData) : Prop := (dictD d = false ∧ Dx C H b v d) ∨
  ∃ a kvs ps, v = .ref a ∧ d = .dict ps ∧ H a = some (.dK kvs) ∧ a ≠ b ∧ kvs.length ≤ 60 ∧ KvAll C (del H a) b kvs ps
def spKi (C : Addr) : Sp := fun vs H Q _ => ∃ (b : Addr) (v : V) (d : PyData), vs = [v] ∧ KOk C H b v d ∧ (∃ o, H b = some o) ∧ ∀ H', Same H H' → Q (.bl (kindsD d)) H'
theorem kit_dict {K : PySem.W.Frag} (d : PyData) : PySem.W.kitOne K (.type (tyN d)) (.type "dict") = some (dictD d) := by
  cases d
  · exact kit_ty (a := "NoneType") (b := "dict") (r := false) (by decide +kernel)
  · exact kit_ty (a := "bool") (b := "dict") (r := false) (by decide +kernel)
  · exact kit_ty (a := "int") (b := "dict") (r := false) (by decide +kernel)
  · exact kit_ty (a := "str") (b := "dict") (r := false) (by decide +kernel)
  · exact kit_ty (a := "list") (b := "dict") (r := false) (by decide +kernel)
  · exact kit_ty (a := "tuple") (b := "dict") (r := false) (by decide +kernel)
  · exact kit_ty (a := "dict") (b := "dict") (r := true) (by decide +kernel)
theorem Dx.isd {K : PySem.W.Frag} {C : Addr} {H : Hp} {b : Addr} {v : V} {d : PyData} (T : KFn K C) (kD : PySem.W.kitOne K (.ref C) (.type "dict") = some false) (h : Dx C H b v d) : ∃ t, TyX K H v t ∧ PySem.W.kitOne K t (.type "dict") = some (dictD d) := by
  cases h with
  | non => exact ⟨_, .base .non, kit_dict .none⟩
  | bl x => exact ⟨_, .base (.bl x), kit_dict (.bool x)⟩
  | int i => exact ⟨_, .base (.int i), kit_dict (.int i)⟩
  | str x => exact ⟨_, .base (.str x), kit_dict (.str x)⟩
  | obj e n => exact ⟨_, .base (.ins e T.cl T.ha T.hn T.htk T.hm), kD⟩
  | lst e _ _ => exact ⟨_, .base (.lst e), kit_dict (.list _)⟩
  | tup e _ _ => exact ⟨_, .base (.tup e), kit_dict (.tuple _)⟩
  | dct e _ => exact ⟨_, .base (.dK e), kit_dict (.dict _)⟩
theorem KOk.isd {K : PySem.W.Frag} {C : Addr} {H : Hp} {b : Addr} {v : V} {d : PyData} (T : KFn K C) (kD : PySem.W.kitOne K (.ref C) (.type "dict") = some false) (h : KOk C H b v d) : ∃ t, TyX K H v t ∧ PySem.W.kitOne K t (.type "dict") = some (dictD d) := by
  rcases h with ⟨_, h⟩ | ⟨a, kvs, ps, rfl, rfl, e, _⟩
  · exact h.isd T kD
  · exact ⟨_, .base (.dK e), kit_dict (.dict _)⟩
theorem kinds_not {d : PyData} (h : dictD d = false) : kindsD d = false := by cases d <;> first | rfl | cases h
/-- a dict while it is locked, and behind -/
theorem lock_sub {H : Hp} {a : Addr} {u : HO} : ∀ c o, del H a c = some o → upd H a u c = some o := fun c o e => by
  have n : c ≠ a := fun z => by
    rw [z, del_same] at e
    cases e
  rw [upd_ne n]
  rwa [del_ne n] at e
theorem lock_back {H H2 : Hp} {a : Addr} {u f : HO} (e : H a = some u) (s : Same (upd H a f) H2) : Same H (upd H2 a u) := fun c o ec => by
  by_cases n : c = a
  · rw [n, e] at ec
    rw [n, upd_same]
    exact ec
  · rw [upd_ne n]
    exact s _ _ (by rw [upd_ne n]; exact ec)
section
variable {P : Program} {w : World} {K : PySem.W.Frag} {mg : Str → Option Value} {base : Heap} {C : Addr}
theorem scAk : FnScope ["thing", "name", "kind"] ["thing"] (defScope sAreKinds) := ⟨rfl, rfl, rfl, by decide +kernel, rfl, by decide +kernel, by decide +kernel⟩
theorem ok_arekinds {f fN fK : Addr} {fd fdN fdK : FuncData} (T : KFn K C) (kD : PySem.W.kitOne K (.ref C) (.type "dict") = some false) (F : Fun K "_are_kinds" "_are_kinds" sAreKinds f fd)
    (GN : FnOk P w K mg base CX0 1 fN fdN ["thing"] (spX C nameD)) (bN : Binds K fdN ["thing"] []) (mN : mg "is_name" = some (.ref fN)) (kN : PySem.W.keepIn K (.ref fN) = true)
    (GK : FnOk P w K mg base CX0 1 fK fdK ["thing"] (spX C kindD)) (bK : Binds K fdK ["thing"] []) (mK : mg "is_kind" = some (.ref fK)) (kK : PySem.W.keepIn K (.ref fK) = true)
    (mq : mg "isinstance" = none) (md : mg "dict" = none) (ma : mg "all" = none) : FnOk P w K mg base CX0 2 f fd ["thing"] (spKi C) := by
  refine F.ok scAk (fun vs H Q E h => ?_) (fun cdv A outer s H vs Q E hr h => ?_)
  · obtain ⟨b, v, d, rfl, _⟩ := h
    rfl
  · obtain ⟨b, v, d, rfl, hd, hb, q⟩ := h
    refine ⟨_, pss_cons (ps_if (pt_not (pt_val (pe_callB call_isi (by rfl) mq (by decide +kernel) (pa_cons (pv 0) (pa_cons (pe_bltn (v := .ty "dict") (by rfl) md boot_dict rfl) pa_nil))))) (pss_one (ps_ret pe_bl)) pss_nil)
      (pss_one (ps_ret (pe_callB (cr_all rfl) (by rfl) ma (by decide +kernel) (pa_cons
        (pe_lock (pe_lc (own := [("name", 1), ("kind", 2)]) (g := gTup K 2 (gCons (gName 1) (gCons (gName 2) gNil))) (tt := tYes) rfl scAk.nd (pi_items (pv 0)) (blkOk_by (N := ["thing", "name", "kind"]) (sc := defScope sAreKinds) (by decide +kernel))
        (fun _ _ _ _ _ => pg_tup (by rfl) (pgs_cons (pg_name (i := 1) scAk.nd rfl (.inl rfl)) (pgs_cons (pg_name (i := 2) scAk.nd rfl (.inl rfl)) pgs_nil))) (fun _ _ _ _ _ => pts_nil)
        (fun _ _ _ _ _ => pe_and (pe_call GN hr (by rfl) mN kN bN .nil pass0 (pa_cons (pv 1) pa_nil)) (pe_one (pe_call GK hr (by rfl) mK kK bK .nil pass0 (pa_cons (pv 2) pa_nil)))))) pa_nil)))), ?_⟩
    obtain ⟨t, ty, kt⟩ := hd.isd T kD
    refine ⟨_, rfl, _, _, _, _, _, rfl, .ty "dict", ty, kt, _, rfl, ?_⟩
    rcases hd with ⟨hn, _⟩ | ⟨a, kvs, ps, rfl, rfl, ea, nab, hl, hk⟩
    · rw [kinds_not hn] at q
      rw [hn]
      exact q H fun _ _ e => e
    have kD' : kindsD (.dict ps) = ps.all fun p => nameD p.1 && kindD p.2 := rfl
    rw [kD'] at q
    refine iteF ⟨a, _, ea, trivial, fun od => ?_⟩
    have eL : (upd H a (.frz od (.dK kvs))) a = some (.frz od (.dK kvs)) := upd_same
    refine ⟨_, rfl, a, od, kvs, rfl, eL, fun D hD => ?_⟩
    have aD : a ≠ D := ne_of_none eL hD
    refine lc_it (walk_items (d := a) (o := od) (kvs := kvs)) (fun i H' => Same (upd H a (.frz od (.dK kvs))) H' ∧ H' D = some (.lst ((ps.take i).map fun p => V.bl (nameD p.1 && kindD p.2)))) ⟨same_upd hD, upd_same⟩ (fun i H' _ h => h.1 _ _ eL) ?_ ?_
    · rintro i x H' H2 hi ⟨s', e'⟩ ⟨t, vx, vy, rfl, nt, rfl, ex, ey⟩
      obtain ⟨kv, hkv⟩ : ∃ kv, kvs[i]? = some kv := by
        cases e0 : kvs[i]? with
        | none =>
          have ex : (kvs[i]?).map (fun kv => kV kv.1) = some vx := ex
          rw [e0] at ex
          cases ex
        | some kv => exact ⟨kv, rfl⟩
      obtain ⟨z, dx, ek, hp, okz, gx, okx⟩ := hk.at_ hkv
      obtain rfl : vx = V.str z := by
        have ex : (kvs[i]?).map (fun kv => kV kv.1) = some vx := ex
        rw [hkv] at ex
        have := (Option.some.inj ex).symm
        rw [this]
        show kV kv.1 = _
        rw [ek]
        rfl
      obtain rfl : vy = kv.2 := by
        have ey : (kvs[i]?).map Prod.snd = some vy := ey
        rw [hkv] at ey
        exact (Option.some.inj ey).symm
      have w1 := same_upd (o := .tup [V.str z, kv.2]) nt
      have sL := s'.trans w1
      obtain ⟨ob, hob⟩ := hb
      have hbL : ∃ o, (upd H a (.frz od (.dK kvs))) b = some o := ⟨ob, by rw [upd_ne nab.symm]; exact hob⟩
      refine ⟨t, _, rfl, SqT.of upd_same, rfl, _, _, rfl, _, _, rfl, rfl, rfl, ?_⟩
      have tk : (ps.take (i + 1)).map (fun p => V.bl (nameD p.1 && kindD p.2)) = (ps.take i).map (fun p => V.bl (nameD p.1 && kindD p.2)) ++ [.bl (nameD (.str z) && kindD dx)] := take_map_snoc hp
      have put : ∀ (H4 : Hp) (r : Bool), Same (upd H' t (.tup [V.str z, kv.2])) H4 → r = (nameD (.str z) && kindD dx) → ∃ acc, H4 D = some (.lst acc) ∧ acc.length < sizeLine ∧ Same (upd H a (.frz od (.dK kvs))) (upd H4 D (.lst (acc ++ [V.bl r]))) ∧ (upd H4 D (.lst (acc ++ [V.bl r]))) D = some (.lst ((ps.take (i + 1)).map fun p => V.bl (nameD p.1 && kindD p.2))) := fun H4 r s4 er => by
        refine ⟨_, s4 _ _ (w1 _ _ e'), ?_, fun c o e => ?_, ?_⟩
        · rw [List.length_map, List.length_take]
          exact small60 (by omega)
        · rw [upd_ne (ne_of_none e hD)]
          exact s4 _ _ (sL _ _ e)
        · rw [upd_same, tk, er]
      refine ⟨_, rfl, b, .str z, .str z, rfl, .str z, okz, there sL hbL, fun H3 s3 => ⟨_, rfl, ?_⟩⟩
      cases hn : nameD (.str z) with
      | false => exact iteF (put H3 false s3 (by rw [hn]; rfl))
      | true =>
        refine iteT ⟨_, rfl, b, kv.2, dx, rfl, gx.mono fun c o _ e => s3 _ _ (sL _ _ (lock_sub c o e)), okx, there (sL.trans s3) hbL, fun H4 s4 => ?_⟩
        exact put H4 (kindD dx) (s3.trans s4) (by rw [hn]; rfl)
    · rintro H2 ⟨s2, e2⟩
      rw [show kvs.length = ps.length from hk.len, List.take_length] at e2
      refine ⟨s2 _ _ eL, D, ps.map fun p => nameD p.1 && kindD p.2, rfl, SqL.of (by rw [upd_ne aD.symm, List.map_map]; exact e2), ?_⟩
      rw [List.all_map]
      exact q _ (lock_back ea s2)
end
end Fv


set_option Elab.async false
set_option linter.all false
set_option maxRecDepth 100000
set_option maxHeartbeats 4000000
namespace Fv
open PySem PySem.Spec PyProof.Rows L2
/-! ### a long list of Nones -/
def NoneL (H : Hp) (v : V) : Prop := ∃ (a : Addr) (n : Nat), v = .ref a ∧ H a = some (.lst (List.replicate (n + 1) V.non)) ∧ n ≤ 9000
theorem NoneL.same {H H' : Hp} {v : V} (h : NoneL H v) (s : Same H H') : NoneL H' v := by
  obtain ⟨a, n, e, h, l⟩ := h
  exact ⟨a, n, e, s _ _ h, l⟩
def spNo (r : Bool) : Sp := fun vs H Q _ => ∃ (b : Addr) (v : V), vs = [v] ∧ NoneL H v ∧ (∃ o, H b = some o) ∧ ∀ H', Same H H' → Q (.bl r) H'
/-- what a value is found to be: by its data, or as a long list of Nones -/
def ArgN (C : Addr) (H : Hp) (b : Addr) (g : PyData → Bool) (v : V) (r : Bool) : Prop := (∃ d, Dx C H b v d ∧ okD d ∧ r = g d) ∨ (NoneL H v ∧ r = false)
theorem ArgN.same {C : Addr} {H H' : Hp} {b : Addr} {g : PyData → Bool} {v : V} {r : Bool} (h : ArgN C H b g v r) (s : Same H H') : ArgN C H' b g v r := by
  rcases h with ⟨d, h1, h2, h3⟩ | ⟨h1, h2⟩
  · exact .inl ⟨d, h1.mono fun c o _ e => s c o e, h2, h3⟩
  · exact .inr ⟨h1.same s, h2⟩
def spN (C : Addr) (g : PyData → Bool) : Sp := fun vs H Q _ => ∃ (b : Addr) (v : V) (r : Bool), vs = [v] ∧ ArgN C H b g v r ∧ (∃ o, H b = some o) ∧ ∀ H', Same H H' → Q (.bl r) H'
theorem take_rep {α : Type} {x y : α} {n i : Nat} (h : (List.replicate n x)[i]? = some y) : y = x := by
  have := List.mem_of_getElem? h
  exact List.eq_of_mem_replicate this
section
variable {P : Program} {w : World} {K : PySem.W.Frag} {mg : Str → Option Value} {base : Heap} {C : Addr}
theorem FnOk.orr {CX : CXT} {k : Nat} {f : Addr} {fd : FuncData} {ps : List Str} {sp1 sp2 sp : Sp} (F1 : FnOk P w K mg base CX k f fd ps sp1) (F2 : FnOk P w K mg base CX k f fd ps sp2) (h : ∀ vs H Q E, sp vs H Q E → sp1 vs H Q E ∨ sp2 vs H Q E) :
    FnOk P w K mg base CX k f fd ps sp :=
  ⟨fun vs H Q E z => (h vs H Q E z).elim (F1.len vs H Q E) (F2.len vs H Q E), fun A outer s H args us vs Q E hr e0 hb r z => (h vs H Q E z).elim (F1.run A outer s H args us vs Q E hr e0 hb r) (F2.run A outer s H args us vs Q E hr e0 hb r)⟩
theorem orN {k : Nat} {f : Addr} {fd : FuncData} {ps : List Str} {g : PyData → Bool} (F1 : FnOk P w K mg base CX0 k f fd ps (spX C g)) (F2 : FnOk P w K mg base CX0 k f fd ps (spNo false)) : FnOk P w K mg base CX0 k f fd ps (spN C g) :=
  FnOk.orr F1 F2 fun vs H Q E ⟨b, v, r, e, h, hb, q⟩ => by
    rcases h with ⟨d, h1, h2, h3⟩ | ⟨h1, h2⟩
    · exact .inl ⟨b, v, d, e, h1, h2, hb, by rw [← h3]; exact q⟩
    · exact .inr ⟨b, v, e, h1, hb, by rw [← h2]; exact q⟩
theorem no_isint {f : Addr} {fd : FuncData} (F : Fun K "is_integer" "is_integer" sIsInt f fd) (mq : mg "isinstance" = none) (mi : mg "int" = none) (mb : mg "bool" = none) : FnOk P w K mg base CX0 1 f fd ["thing"] (spNo false) := by
  refine F.ok sc1 (fun vs H Q E h => ?_) (fun cdv A outer s H vs Q E hr h => ?_)
  · obtain ⟨b, v, rfl, _⟩ := h
    rfl
  · obtain ⟨b, v, rfl, ⟨a, n, rfl, ea, hn⟩, hb, q⟩ := h
    refine ⟨_, pss_one (ps_ret (pe_and (pe_callB call_isi (by rfl) mq (by decide +kernel) (pa_cons (pv 0) (pa_cons (pe_bltn (v := .ty "int") (by rfl) mi boot_int rfl) pa_nil)))
      (pe_one (pe_not (pe_callB call_isi (by rfl) mq (by decide +kernel) (pa_cons (pv 0) (pa_cons (pe_bltn (v := .ty "bool") (by rfl) mb boot_bool rfl) pa_nil))))))), ?_⟩
    exact ⟨_, rfl, _, _, _, _, _, rfl, .ty "int", .base (.lst ea), kit_int (.list []), _, rfl, q H fun _ _ e => e⟩
theorem no_isrow {f : Addr} {fd : FuncData} (F : Fun K "is_row" "is_row" sIsRow f fd) (mq : mg "isinstance" = none) (ml : mg "list" = none) (mt : mg "tuple" = none) : FnOk P w K mg base CX0 1 f fd ["thing"] (spNo true) := by
  refine F.ok sc5 (fun vs H Q E h => ?_) (fun cdv A outer s H vs Q E hr h => ?_)
  · obtain ⟨b, v, rfl, _⟩ := h
    rfl
  · obtain ⟨b, v, rfl, ⟨a, n, rfl, ea, hn⟩, hb, q⟩ := h
    refine ⟨_, pss_one (ps_ret (pe_callB call_isiT (by rfl) mq (by decide +kernel) (pa_cons (pv 0) (pa_cons (pe_tup (pa_cons (pe_bltn (v := .ty "list") (by rfl) ml boot_list rfl) (pa_cons (pe_bltn (v := .ty "tuple") (by rfl) mt boot_tuple rfl) pa_nil))) pa_nil)))), ?_⟩
    refine ⟨_, rfl, by show 2 ≤ sizeLine; decide, fun p np => ?_⟩
    have ea' := same_upd (o := .tup [.ty "list", .ty "tuple"]) np _ _ ea
    exact ⟨_, _, _, _, _, _, rfl, upd_same, .cons (.ty "list") (.cons (.ty "tuple") .nil), .base (.lst ea'), kitAny_cons (r := true) (kit_list (.list [])) (fun e => by cases e) (fun _ => rfl), q _ (same_upd np)⟩
theorem no_arenames {f fR fN : Addr} {fd fdR fdN : FuncData} (F : Fun K "are_names" "are_names" sAreNames f fd)
    (GR : FnOk P w K mg base CX0 1 fR fdR ["thing"] (spNo true)) (bR : Binds K fdR ["thing"] []) (mR : mg "is_row" = some (.ref fR)) (kR : PySem.W.keepIn K (.ref fR) = true)
    (GN : FnOk P w K mg base CX0 1 fN fdN ["thing"] (spX C nameD)) (bN : Binds K fdN ["thing"] []) (mN : mg "is_name" = some (.ref fN)) (kN : PySem.W.keepIn K (.ref fN) = true)
    (ma : mg "all" = none) (ml : mg "len" = none) : FnOk P w K mg base CX0 2 f fd ["thing"] (spNo false) := by
  refine F.ok scAn (fun vs H Q E h => ?_) (fun cdv A outer s H vs Q E hr h => ?_)
  · obtain ⟨b, v, rfl, _⟩ := h
    rfl
  · obtain ⟨b, v, rfl, hv, hb, q⟩ := h
    refine ⟨_, pss_cons (ps_if (PW.pt (pw_or (pt_not (pt_val (pe_call GR hr (by rfl) mR kR bR .nil pass0 (pa_cons (pv 0) pa_nil)))) (pw_or1 (pt_not (pt_val (pe_callB (cr_all rfl) (by rfl) ma (by decide +kernel) (pa_cons
        (pe_lc (own := [("item", 1)]) (g := gName 1) (tt := tYes) rfl scAn.nd (pi_list (pv 0)) (blkOk_by (N := ["thing", "item"]) (sc := defScope sAreNames) (by decide +kernel))
        (fun _ _ _ _ _ => pg_name (i := 1) scAn.nd rfl (Or.inl rfl)) (fun _ _ _ _ _ => pts_nil) (fun _ _ _ _ _ => pe_call GN hr (by rfl) mN kN bN .nil pass0 (pa_cons (pv 1) pa_nil))) pa_nil)))))))
        (pss_one (ps_ret pe_bl)) pss_nil)
      (pss_one (ps_ret (pe_cmpR op_eq (pe_callB (r := rLenX P w) call_lenX (by rfl) ml PySem.boot_len (pa_cons
        (pe_scX (own := [("item", 1)]) (g := gName 1) (tt := tYes) rfl scAn.nd (pi_row (pv 0)) (blkOk_by (N := ["thing", "item"]) (sc := defScope sAreNames) (by decide +kernel))
        (fun _ _ _ _ _ => pg_name (i := 1) scAn.nd rfl (Or.inl rfl)) (fun _ _ _ _ _ => pts_nil) (fun _ _ _ _ _ => pv 1)) pa_nil)) (pe_callB call_len_seq (by rfl) ml PySem.boot_len (pa_cons (pv 0) pa_nil)) (nomark _)))), ?_⟩
    refine ⟨_, rfl, b, v, rfl, hv, hb, fun H1 s1 => ⟨_, rfl, iteF ?_⟩⟩
    obtain ⟨a, n, rfl, ea, hn⟩ := hv.same s1
    refine ⟨_, rfl, a, rfl, ⟨_, SqL.of ea⟩, fun D hD => ?_⟩
    refine lc_list (K := K) (a := a) (xs := List.replicate (n + 1) V.non) (fun i H' => Same H1 H' ∧ H' D = some (.lst (List.replicate i (V.bl false)))) ⟨same_upd hD, upd_same⟩ (fun i H' _ h => SqL.of (h.1 _ _ ea)) ?_ ?_
    · rintro i x H' hxi ⟨s', e'⟩
      have hi : i < n + 1 := by
        have := (List.getElem?_eq_some_iff.mp hxi).1
        rwa [List.length_replicate] at this
      obtain rfl := take_rep hxi
      refine ⟨rfl, _, rfl, b, .non, .none, rfl, .non, True.intro, there (s1.trans s') hb, fun H3 s3 => ⟨_, s3 _ _ e', ?_, fun c o e => ?_, ?_⟩⟩
      · rw [List.length_replicate]
        have : 9001 < sizeLine := by decide
        omega
      · rw [upd_ne (ne_of_none e hD)]
        exact s3 _ _ (s' c o e)
      · rw [upd_same, List.replicate_succ']
        rfl
    · rintro H2 ⟨s2, e2⟩
      rw [List.length_replicate] at e2
      refine ⟨D, List.replicate (n + 1) false, rfl, SqL.of (by rw [List.map_replicate]; exact e2), _, rfl, ?_⟩
      rw [show (List.replicate (n + 1) false).all id = false from rfl]
      exact iteT (q H2 (s1.trans s2))
theorem no_areways {f fR fP : Addr} {fd fdR fdP : FuncData} (F : Fun K "_are_ways" "_are_ways" sAreWays f fd)
    (GR : FnOk P w K mg base CX0 1 fR fdR ["thing"] (spNo true)) (bR : Binds K fdR ["thing"] []) (mR : mg "is_row" = some (.ref fR)) (kR : PySem.W.keepIn K (.ref fR) = true)
    (GP : FnOk P w K mg base CX0 6 fP fdP ["thing"] (spX C wayD)) (bP : Binds K fdP ["thing"] []) (mP : mg "_is_way" = some (.ref fP)) (kP : PySem.W.keepIn K (.ref fP) = true)
    (ma : mg "all" = none) : FnOk P w K mg base CX0 7 f fd ["thing"] (spNo false) := by
  refine F.ok scAw (fun vs H Q E h => ?_) (fun cdv A outer s H vs Q E hr h => ?_)
  · obtain ⟨b, v, rfl, _⟩ := h
    rfl
  · obtain ⟨b, v, rfl, hv, hb, q⟩ := h
    have hr1 : Room 1 _ := hr.mono (by decide)
    refine ⟨_, pss_one (ps_ret (pe_and (pe_call GR hr1 (by rfl) mR kR bR .nil pass0 (pa_cons (pv 0) pa_nil))
      (pe_one (pe_callB (cr_all rfl) (by rfl) ma (by decide +kernel) (pa_cons
        (pe_lc (own := [("item", 1)]) (g := gName 1) (tt := tYes) rfl scAw.nd (pi_list (pv 0)) (blkOk_by (N := ["thing", "item"]) (sc := defScope sAreWays) (by decide +kernel))
        (fun _ _ _ _ _ => pg_name (i := 1) scAw.nd rfl (Or.inl rfl)) (fun _ _ _ _ _ => pts_nil) (fun _ _ _ _ _ => pe_call GP hr (by rfl) mP kP bP .nil pass0 (pa_cons (pv 1) pa_nil))) pa_nil))))), ?_⟩
    refine ⟨_, rfl, b, v, rfl, hv, hb, fun H1 s1 => ⟨_, rfl, iteT ?_⟩⟩
    obtain ⟨a, n, rfl, ea, hn⟩ := hv.same s1
    refine ⟨_, rfl, a, rfl, ⟨_, SqL.of ea⟩, fun D hD => ?_⟩
    refine lc_list (K := K) (a := a) (xs := List.replicate (n + 1) V.non) (fun i H' => Same H1 H' ∧ H' D = some (.lst (List.replicate i (V.bl false)))) ⟨same_upd hD, upd_same⟩ (fun i H' _ h => SqL.of (h.1 _ _ ea)) ?_ ?_
    · rintro i x H' hxi ⟨s', e'⟩
      have hi : i < n + 1 := by
        have := (List.getElem?_eq_some_iff.mp hxi).1
        rwa [List.length_replicate] at this
      obtain rfl := take_rep hxi
      refine ⟨rfl, _, rfl, b, .non, .none, rfl, .non, True.intro, there (s1.trans s') hb, fun H3 s3 => ⟨_, s3 _ _ e', ?_, fun c o e => ?_, ?_⟩⟩
      · rw [List.length_replicate]
        have : 9001 < sizeLine := by decide
        omega
      · rw [upd_ne (ne_of_none e hD)]
        exact s3 _ _ (s' c o e)
      · rw [upd_same, List.replicate_succ']
        rfl
    · rintro H2 ⟨s2, e2⟩
      rw [List.length_replicate] at e2
      refine ⟨D, List.replicate (n + 1) false, rfl, SqL.of (by rw [List.map_replicate]; exact e2), ?_⟩
      rw [show (List.replicate (n + 1) false).all id = false from rfl]
      exact q H2 (s1.trans s2)
end
end Fv


set_option Elab.async false
set_option linter.all false
set_option maxRecDepth 100000
set_option maxHeartbeats 4000000
namespace Fv
open PySem PySem.Spec PyProof.Rows L2
/-! ### C(..) in a try: its __init__ may raise -/
def tMakeS (C : Addr) (sp : Sp) (E : L2.St → XK) (t : TA) : TE := fun σ H Q => t σ H fun vs H1 => ∀ x dx, H1 x = none → H1 dx = none → dx ≠ x → x ≠ sysModules →
  sp (.ref x :: vs) (upd (upd H1 dx (.own x)) x (.ins C dx [])) (fun v H2 => v = .non ∧ Q (.ref x) H2) (E σ)
section
variable {X : Cx} {CX : CXT} {k : Nat} {f C : Addr} {fd : FuncData} {ps : List Str} {sp : Sp} {E : L2.St → XK} {x : Str} {p pos : Pos} {e : Expr} {es : List Expr} {t : TA}
theorem pe_makeS (M : Mk X.K C f) (F : FnOk X.prog X.w X.K X.mg X.base CX k f fd ps sp) (hr : Room (k + 1) X.A) (hg : Gl X x) (hm : X.mg x = some (.ref C)) (hb : Binds X.K fd ps []) (hx : ∀ σ, PassesAt CX X σ (E σ))
    (ha : PA X (e :: es) t) (hdb : (x == ("__debug__" : Str)) = false := by decide) (he : starEach (e :: es) X.env = (false, eval e X.env) :: starEach es X.env := by rfl) (hpl : (backTo pos (starEach es X.env)).any (·.1) = false := by rfl) :
    PE X (.Call (.Name x p) (e :: es) [] pos) (tMakeS C sp E t) := by
  refine ⟨fun pins s σ H Q I h => wpAny_Call_Name_kw (ld_glob I hg hm ?_ hdb)⟩
  refine PySem.W.callWith_K (h₀ := X.base) I.ok.mod.kin M.kp (thn (ha.run pos pins s σ H _ I h) fun us s1 ⟨vs, H1, I1, r, q⟩ => ⟨I1.kIn, ?_⟩) he hpl
  have hq := q (s1.heap.objs.size + 1) s1.heap.objs.size (I1.hok.fresh (Nat.le_succ _)) (I1.hok.fresh (Nat.le_refl _)) (Nat.ne_of_lt (Nat.lt_succ_self _)) (Nat.ne_of_gt (Nat.lt_succ_of_lt I1.big))
  have I2 := Inv.made (C := C) I1
  have r2 : Vals (V.ref (s1.heap.objs.size + 1) :: vs) (Value.ref (s1.heap.objs.size + 1) :: us) := .cons rfl r
  have hl : (Value.ref (s1.heap.objs.size + 1) :: us).length = ps.length := by rw [← r2.length]; exact F.len _ _ _ _ hq
  have bi := hb _ (Value.ref (s1.heap.objs.size + 1) :: us) I2.kIn (by rw [List.append_nil]; exact hl)
  rw [List.append_nil] at bi
  refine wpAny_call (make_map (f := f) I1.kIn M.makes M.init (beq_iff_eq.mp M.fn) (codeAny_mono (F.run _ X.stack _ _ ⟨Value.ref (s1.heap.objs.size + 1) :: us, []⟩ (Value.ref (s1.heap.objs.size + 1) :: us) _ _ (E σ) (hr.make C us []) (I2.env0.make C us []) bi r2 hq) fun res s' hq' => ?_))
  cases res with
  | error e => exact hx σ pins _ _ e s' I2 hq'
  | ok fl =>
    cases fl with
    | ret u =>
      obtain ⟨v, H', I3, rv, ev, q3⟩ := I2.after hq'
      subst ev
      exact ⟨rv, ⟨V.ref (s1.heap.objs.size + 1), H', I3, rfl, q3⟩⟩
    | next => exact False.elim hq'
    | brk => exact False.elim hq'
    | cont => exact False.elim hq'
end
/-! ### a, b, .. = a list or a tuple of that length -/
def gRow (K : PySem.W.Frag) (n : Nat) (t : TGs) : TG := fun v σ H Q => ∃ a xs, v = .ref a ∧ (SqL K H a xs ∨ SqT K H a xs) ∧ xs.length = n ∧ t xs σ H Q
theorem pg_row {X : Cx} {pos : Pos} {es : List Expr} {k : Nat} {t : TGs} {n : Nat} (hc : X.calm = true) (h : PGs X es t) (hn : (assignEach es X.env).length = n := by rfl) (hst : (assignEach es X.env).findIdx? (·.1) = none := by rfl) : PG X (.Tuple es k pos) (gRow X.K n t) :=
  ⟨fun pins s σ H v u Q I r hw => by
    obtain ⟨a, xs, ev, hq, hl, hw⟩ := hw
    rcases hq with hq | hq
    · exact (pg_lst (pos := pos) (k := k) hc h hn hst).run pins s σ H v u Q I r ⟨a, xs, ev, hq, hl, hw⟩
    · exact (pg_tup (pos := pos) (k := k) hc h hn hst).run pins s σ H v u Q I r ⟨a, xs, ev, hq, hl, hw⟩⟩
/-! ### texts in rising order -/
theorem leS_refl (a : Str) : leS a a := List.lt_irrefl _
theorem leS_total (a b : Str) : leS a b ∨ leS b a := by
  unfold leS
  rw [List.not_lt, List.not_lt]
  exact List.le_total _ _
theorem pw_rising : ∀ (l : List Str) (p : Str), (∀ x ∈ l, leS p x) → l.Pairwise leS → risingS p l = true
  | [], _, _, _ => rfl
  | y :: l, p, h, k => by
    obtain ⟨k1, k2⟩ := List.pairwise_cons.mp k
    unfold risingS
    rw [Bool.and_eq_true]
    refine ⟨?_, pw_rising l y k1 k2⟩
    rw [ltCps_eq]
    have := h y List.mem_cons_self
    unfold leS at this
    simpa using this
theorem pw_sorted : ∀ {l : List Str}, l.Pairwise leS → sortedS l = true
  | [], _ => rfl
  | x :: l, h => by
    obtain ⟨h1, h2⟩ := List.pairwise_cons.mp h
    exact pw_rising l x h1 h2
open Classical in
noncomputable def insS (x : Str) : List Str → List Str
  | [] => [x]
  | y :: l => if leS x y then x :: y :: l else y :: insS x l
theorem insS_perm (x : Str) : ∀ l : List Str, (insS x l).Perm (x :: l)
  | [] => List.Perm.refl _
  | y :: l => by
    unfold insS
    split
    · exact List.Perm.refl _
    · exact ((insS_perm x l).cons y).trans (List.Perm.swap x y l)
theorem insS_pw (x : Str) : ∀ {l : List Str}, l.Pairwise leS → (insS x l).Pairwise leS
  | [], _ => List.pairwise_singleton _ _
  | y :: l, h => by
    obtain ⟨h1, h2⟩ := List.pairwise_cons.mp h
    unfold insS
    split
    · rename_i k
      refine List.pairwise_cons.mpr ⟨fun z hz => ?_, h⟩
      rcases List.mem_cons.mp hz with rfl | hz
      · exact k
      · exact leS_trans k (h1 z hz)
    · rename_i k
      refine List.pairwise_cons.mpr ⟨fun z hz => ?_, insS_pw x h2⟩
      rcases List.mem_cons.mp ((insS_perm x l).mem_iff.mp hz) with rfl | hz
      · exact (leS_total z y).resolve_left k
      · exact h1 z hz
/-- the texts in rising order -/
noncomputable def sortL : List Str → List Str
  | [] => []
  | x :: l => insS x (sortL l)
theorem sortL_perm : ∀ l : List Str, (sortL l).Perm l
  | [] => List.Perm.refl _
  | x :: l => (insS_perm x _).trans ((sortL_perm l).cons x)
theorem sortL_pw : ∀ l : List Str, (sortL l).Pairwise leS
  | [] => List.Pairwise.nil
  | x :: l => insS_pw x (sortL_pw l)
theorem sortL_sorted (l : List Str) : sortedS (sortL l) = true := pw_sorted (sortL_pw l)
theorem sortL_of {l m : List Str} (h : m.Perm l) (hs : sortedS m = true) : m = sortL l := sorted_one (sorted_pw hs) (sortL_pw l) (h.trans (sortL_perm l).symm)
theorem find_least {p : Str → Bool} : ∀ {l : List Str} {z : Str}, l.Pairwise leS → l.find? p = some z → ∀ y ∈ l, p y = true → leS z y
  | [], _, _, h => by cases h
  | x :: l, z, k, h => by
    obtain ⟨k1, k2⟩ := List.pairwise_cons.mp k
    intro y hy hp
    rw [List.find?_cons] at h
    cases e : p x with
    | true =>
      rw [e] at h
      cases h
      rcases List.mem_cons.mp hy with rfl | hy
      · exact leS_refl _
      · exact k1 y hy
    | false =>
      rw [e] at h
      rcases List.mem_cons.mp hy with rfl | hy
      · rw [hp] at e
        cases e
      · exact find_least k2 h y hy hp
/-- the first of rising texts with p hangs on what is among them alone -/
theorem find_same {p : Str → Bool} {l m : List Str} (hl : l.Pairwise leS) (hm : m.Pairwise leS) (h : ∀ z, z ∈ l ↔ z ∈ m) : l.find? p = m.find? p := by
  cases e : l.find? p with
  | none =>
    refine (List.find?_eq_none.mpr fun x hx => ?_).symm
    exact List.find?_eq_none.mp e x ((h x).mpr hx)
  | some z =>
    have pz := List.find?_some e
    have iz := (h z).mp (List.mem_of_find?_eq_some e)
    cases e2 : m.find? p with
    | none => exact absurd pz (List.find?_eq_none.mp e2 z iz)
    | some y =>
      have py := List.find?_some e2
      have iy := (h y).mpr (List.mem_of_find?_eq_some e2)
      rw [leS_anti (find_least hl e y iy py) (find_least hm e2 z iz pz)]
theorem find_flat_same {α : Type} {p : Str → Bool} {F G : α → List Str} : ∀ {l : List α}, (∀ x ∈ l, (F x).find? p = (G x).find? p) → (l.flatMap F).find? p = (l.flatMap G).find? p
  | [], _ => rfl
  | x :: l, h => by
    rw [List.flatMap_cons, List.flatMap_cons, List.find?_append, List.find?_append, h x List.mem_cons_self, find_flat_same fun y hy => h y (List.mem_cons_of_mem _ hy)]
end Fv


set_option Elab.async false
set_option linter.all false
set_option maxRecDepth 100000
set_option maxHeartbeats 4000000
namespace Fv
open PySem PySem.Spec PyProof.Rows L2
/-! ### data with short lists -/
mutual
def okM : PyData → Prop
  | .str z => z.length ≤ 1000 ∧ ∀ c ∈ z.cps.toList, c < 128
  | .list ds => ds.length ≤ 24 ∧ okMs ds
  | .tuple ds => ds.length ≤ 24 ∧ okMs ds
  | _ => True
def okMs : List PyData → Prop
  | [] => True
  | d :: ds => okM d ∧ okMs ds
end
mutual
theorem okM.ok : ∀ {d : PyData}, okM d → okD d
  | .none, _ => True.intro
  | .bool _, _ => True.intro
  | .int _, _ => True.intro
  | .str _, h => h
  | .list _, h => ⟨Nat.le_trans h.1 (by decide), okMs.ok h.2⟩
  | .tuple _, h => ⟨Nat.le_trans h.1 (by decide), okMs.ok h.2⟩
  | .dict _, _ => True.intro
theorem okMs.ok : ∀ {ds : List PyData}, okMs ds → okAll ds
  | [], _ => True.intro
  | _ :: _, h => ⟨okM.ok h.1, okMs.ok h.2⟩
end
theorem okMs.mem : ∀ {ds : List PyData}, okMs ds → ∀ d ∈ ds, okM d
  | d :: ds, h, x, hx => by
    rcases List.mem_cons.mp hx with rfl | hx
    · exact h.1
    · exact okMs.mem h.2 x hx
theorem okM.items {d : PyData} (h : okM d) : (itemsD d).length ≤ 24 ∧ okMs (itemsD d) := by
  cases d <;> first | exact h | exact ⟨Nat.zero_le _, True.intro⟩
theorem sets_len {s : PyData} (h : stD s = true) (m : okM s) : (setsOf s).length ≤ 24 := by
  cases st_shape h with
  | skip => exact Nat.zero_le _
  | @set p hp =>
    show ((itemsD p).map headS).length ≤ 24
    rw [List.length_map]
    exact (okM.items (m.2.2.1)).1
  | @most w x p hw h2 h3 h4 => exact (by decide : 1 ≤ 24)
  | @call x p r h2 h3 h4 =>
    show ((itemsD r).map strS).length ≤ 24
    rw [List.length_map]
    exact (okM.items (m.2.2.2.2.1)).1
theorem parts24 {s : PyData} (h : stD s = true) (m : okM s) : (partsOf s).length ≤ 24 := by
  cases st_shape h with
  | skip => exact Nat.zero_le _
  | @set p hp => exact (okM.items (m.2.2.1)).1
  | @most w x p hw h2 h3 h4 => exact (okM.items (m.2.2.2.1)).1
  | @call x p r h2 h3 h4 => exact (okM.items (m.2.2.2.1)).1
theorem reads_len {s : PyData} (h : stD s = true) (m : okM s) : (readsOf s).length ≤ 24 := by
  unfold readsOf
  refine Nat.le_trans (dedup_le _) (Nat.le_trans (List.length_filter_le _ _) ?_)
  rw [List.length_map]
  exact parts24 h m
theorem fz_okM {d : PyData} (h : okM d) : okM (fz d) := by
  cases d <;> exact h
theorem fzs_okM : ∀ {ds : List PyData}, okMs ds → okMs (ds.map fz)
  | [], _ => True.intro
  | _ :: _, h => ⟨fz_okM h.1, fzs_okM h.2⟩
theorem frozen_okM {d : PyData} (h : okM d) : okM (frozenD d) := by
  cases d with
  | tuple ds => exact ⟨by rw [List.length_map]; exact h.1, fzs_okM h.2⟩
  | _ => exact h
theorem frozen_frozen (d : PyData) : frozenD (frozenD d) = frozenD d := by
  cases d with
  | tuple ds =>
    show PyData.tuple ((ds.map fz).map fz) = PyData.tuple (ds.map fz)
    rw [List.map_map]
    exact congrArg PyData.tuple (List.map_congr_left fun x _ => fz_fz x)
  | _ => rfl
theorem row_fz {p : PyData} (h : rowD p = true) : rowD (fz p) = true := by cases p <;> first | rfl | cases h
theorem sets_fzp {p : PyData} (h : setsD p = true) : setsD (fz p) = true := by
  unfold setsD at *
  rw [Bool.and_eq_true, Bool.and_eq_true] at *
  rw [fz_items]
  exact ⟨⟨row_fz h.1.1, h.1.2⟩, h.2⟩
theorem parts_fzp {p : PyData} (h : partsD p = true) : partsD (fz p) = true := by
  unfold partsD at *
  rw [Bool.and_eq_true] at *
  rw [fz_items]
  exact ⟨row_fz h.1, h.2⟩
theorem names_fzp {p : PyData} (h : namesD p = true) : namesD (fz p) = true := by
  unfold namesD at *
  rw [Bool.and_eq_true, Bool.and_eq_true] at *
  rw [fz_items]
  exact ⟨⟨row_fz h.1.1, h.1.2⟩, h.2⟩
theorem frozen_st {s : PyData} (h : stD s = true) : stD (frozenD s) = true := by
  cases st_shape h with
  | skip => rfl
  | @set p hp =>
    show setsD (fz p) = true
    exact sets_fzp hp
  | @most w x p hw h2 h3 h4 =>
    have e : frozenD (.tuple [.str w, .str x, p]) = .tuple [.str w, .str x, fz p] := rfl
    rw [e]
    have f : stD (.tuple [.str w, .str x, fz p]) = restD w [.str x, fz p] := rfl
    rw [f]
    unfold restD
    have n1 : ¬ w = "skip" := by rcases hw with rfl | rfl <;> decide +kernel
    have n2 : ¬ w = "set" := by rcases hw with rfl | rfl <;> decide +kernel
    rw [if_neg n1, if_neg n2, if_pos hw]
    show (nameD (.str x) && (partsD (fz p) && !(itemsD (fz p)).isEmpty)) = true
    rw [h2, parts_fzp h3, fz_items, h4]
    rfl
  | @call x p r h2 h3 h4 =>
    have e : frozenD (.tuple [.str "call", .str x, p, r]) = .tuple [.str "call", .str x, fz p, fz r] := rfl
    rw [e]
    show (nameD (.str x) && (partsD (fz p) && namesD (fz r))) = true
    rw [h2, parts_fzp h3, names_fzp h4]
    rfl
/-! ### what comes of five arguments that are each as told -/
/-- a way as it is kept -/
def wayF (e : PyData) : PyData := match itemsD e with
  | [i, j, s] => .tuple [i, j, frozenD s]
  | _ => .none
noncomputable def namesOf (s : PyData) : List Str := sortL (setsOf s ++ readsOf s)
noncomputable def missO (ks : List (Str × Str)) (zs rs : List Str) (ws : List PyData) : Option Str := (zs ++ rs ++ ws.flatMap fun e => namesOf (stOf e)).find? fun z => !kinOf ks z
def placeO (n : Int) (ws : List PyData) : Option Int := (ws.flatMap placesOf).find? fun z => decide (n ≤ z)
def badO (ks : List (Str × Str)) (ws : List PyData) : Option (Str × Str × Str) := (ws.flatMap flowsW).find? (badF (kfOf ks))
noncomputable def keysOf (ks : List (Str × Str)) : List Str := sortL (ks.map (·.1))
/-- the kinds in the order of names -/
noncomputable def kinS (ks : List (Str × Str)) : List (Str × Str) := (keysOf ks).map fun z => (z, kfOf ks z)
theorem kin_at (ks : List (Str × Str)) : KindsAt (kinV ks) (kfOf ks) := ⟨fun z => by
  rw [kin_val]
  unfold kfOf
  cases (ks.find? fun p => decide (p.1 = z)).map (·.2) with
  | none => exact .inr ⟨rfl, rfl⟩
  | some k => exact .inl rfl⟩
theorem kin_missing (ks : List (Str × Str)) (z : Str) : missing (kinV ks) z = !kinOf ks z := by
  unfold missing kinOf
  rw [kin_val]
  simp
/-- by an unlike order the same kinds are told -/
theorem kinS_find {ks : List (Str × Str)} (z : Str) : ((kinS ks).find? fun p => decide (p.1 = z)).map (·.2) = (ks.find? fun p => decide (p.1 = z)).map (·.2) := by
  unfold kinS
  rw [List.find?_map, Option.map_map]
  have hc : ((fun p : Str × Str => decide (p.1 = z)) ∘ fun y => (y, kfOf ks y)) = fun y => decide (y = z) := rfl
  rw [hc]
  have hm : ∀ y, y ∈ keysOf ks ↔ y ∈ ks.map (·.1) := fun y => (sortL_perm _).mem_iff
  cases e : ks.find? fun p => decide (p.1 = z) with
  | none =>
    have : (keysOf ks).find? (fun y => decide (y = z)) = none := by
      refine List.find?_eq_none.mpr fun y hy hz => ?_
      have hz := of_decide_eq_true hz
      subst hz
      obtain ⟨p, hp, rfl⟩ := List.mem_map.mp ((hm y).mp hy)
      exact List.find?_eq_none.mp e p hp (decide_eq_true rfl)
    rw [this]
    rfl
  | some p =>
    have hp := List.mem_of_find?_eq_some e
    have pz : p.1 = z := by
      have := List.find?_some (p := fun p : Str × Str => decide (p.1 = z)) e
      exact of_decide_eq_true this
    have iz : z ∈ keysOf ks := (hm z).mpr (List.mem_map.mpr ⟨p, hp, pz⟩)
    cases e2 : (keysOf ks).find? fun y => decide (y = z) with
    | none => exact absurd (decide_eq_true (p := z = z) rfl) (List.find?_eq_none.mp e2 z iz)
    | some y =>
      have yz : y = z := by
        have := List.find?_some (p := fun y : Str => decide (y = z)) e2
        exact of_decide_eq_true this
      show some (kfOf ks y) = some p.2
      rw [yz]
      unfold kfOf
      rw [e]
      rfl
theorem kinS_kf (ks : List (Str × Str)) (z : Str) : kfOf (kinS ks) z = kfOf ks z := congrArg (fun o : Option Str => o.getD "plain") (kinS_find z)
theorem kinS_kin (ks : List (Str × Str)) (z : Str) : kinOf (kinS ks) z = kinOf ks z := by
  have h := kinS_find (ks := ks) z
  unfold kinOf
  have := congrArg Option.isSome h
  simpa using this
theorem putK_new {kvs : List (Key × V)} {k : Key} {v : V} (h : k ∉ kvs.map (·.1)) : putK kvs k v = kvs ++ [(k, v)] := by
  unfold putK
  rw [if_neg]
  intro z
  obtain ⟨p, hp, e⟩ := List.any_eq_true.mp z
  exact h (List.mem_map.mpr ⟨p, hp, of_decide_eq_true e⟩)
end Fv


set_option Elab.async false
set_option linter.all false
set_option maxRecDepth 100000
set_option maxHeartbeats 8000000
namespace Fv
open PySem PySem.Spec PyProof.Rows L2
theorem pe_imp {X : Cx} {e : Expr} {t t' : TE} (he : PE X e t) (hi : ∀ σ H Q, t' σ H Q → t σ H Q) : PE X e t' := ⟨fun pins s σ H Q I h => he.run pins s σ H Q I (hi σ H Q h)⟩
/-- tuple(xs) of a list or of a tuple -/
def rTupN : List V → Hp → VK → Prop := fun xs H Q => ∃ (p : Addr) (ys : List V), xs = [.ref p] ∧ (H p = some (.lst ys) ∨ H p = some (.tup ys)) ∧ ∀ H' q, Same H H' → H' q = some (.tup ys) → Q (.ref q) H'
theorem call_tupN {X : Cx} : CallR X (.type "tuple") rTupN := by
  intro pins s σ H xs us Q I r ⟨p, ys, e, h, q⟩
  refine call_tuple_of pins s σ H xs us Q I r ⟨p, ys, e, ?_⟩
  rcases h with h | h
  · exact .inl ⟨SqL.of h, fun l nl => q _ l (same_upd nl) upd_same⟩
  · exact .inr ⟨SqT.of h, q H p (fun _ _ e => e) h⟩
/-- t + u of tuples -/
def rCatN : R2 := fun x y H Q => ∃ (a b : Addr) (xs ys : List V), x = .ref a ∧ y = .ref b ∧ H a = some (.tup xs) ∧ H b = some (.tup ys) ∧ xs.length + ys.length ≤ sizeLine ∧ ∀ H' q, Same H H' → H' q = some (.tup (xs ++ ys)) → Q (.ref q) H'
theorem op_catN {X : Cx} : OpR X (binaryOp .Add) rCatN := by
  intro pins s σ H x y v u Q I rx ry ⟨a, b, xs, ys, e1, e2, h1, h2, hl, q⟩
  refine op_catA pins s σ H x y v u Q I rx ry ⟨a, b, xs, ys, e1, e2, SqT.of h1, SqT.of h2, hl, fun z => ?_, fun _ z => ?_, fun _ _ p np => q _ p (same_upd np) upd_same⟩
  · subst z
    exact q H b (fun _ _ e => e) h2
  · subst z
    exact q H a (fun _ _ e => e) (by rw [List.append_nil]; exact h1)
def posD (d : PyData) : Bool := intD d && match d with
  | .int i => decide (1 ≤ i)
  | _ => false
theorem pos_of {d : PyData} (h : posD d = true) : ∃ i : Int, d = .int i ∧ 1 ≤ i := by
  cases d with
  | int i => exact ⟨i, rfl, of_decide_eq_true (by simpa [posD] using (Bool.and_eq_true_iff.mp h).2)⟩
  | _ => simp [posD] at h
/-- is_integer(size) and size >= 1 -/
def tSizeOk (C : Addr) (i : Nat) : TE := fun σ H Q => ∃ (x : Addr) (v : V) (r : Bool), σ[i]? = some (some v) ∧ ArgN C H x posD v r ∧ (∃ o, H x = some o) ∧ ∀ H', Same H H' → Q (.bl r) H'
theorem size_arg {C : Addr} {H : Hp} {x : Addr} {v : V} {r : Bool} (h : ArgN C H x posD v r) : ∃ ri, ArgN C H x intD v ri ∧ ((ri = false ∧ r = false) ∨ ∃ i : Int, ri = true ∧ v = .int i ∧ r = decide (1 ≤ i)) := by
  rcases h with ⟨d, hd, ok, rfl⟩ | ⟨hn, rfl⟩
  · refine ⟨intD d, .inl ⟨d, hd, ok, rfl⟩, ?_⟩
    cases e : intD d with
    | false =>
      refine .inl ⟨rfl, ?_⟩
      unfold posD
      rw [e]
      rfl
    | true =>
      obtain ⟨i, rfl⟩ := int_of e
      cases hd
      refine .inr ⟨i, rfl, rfl, ?_⟩
      show (intD (.int i) && decide (1 ≤ i)) = _
      rw [e, Bool.true_and]
  · exact ⟨false, .inr ⟨hn, rfl⟩, .inl ⟨rfl, rfl⟩⟩
def SameX (x : Addr) (H H' : Hp) : Prop := ∀ c o, c ≠ x → H c = some o → H' c = some o
theorem SameX.trans {x : Addr} {H H' H2 : Hp} (h : SameX x H H') (k : SameX x H' H2) : SameX x H H2 := fun c o n e => k c o n (h c o n e)
theorem sameX {x : Addr} {H H' : Hp} (h : Same H H') : SameX x H H' := fun c o _ e => h c o e
def flds5 (kd pp rr : Addr) (n : Int) (wv : Addr) : List (Str × V) := [("_kinds", .ref kd), ("_params", .ref pp), ("_results", .ref rr), ("_size", .int n), ("_ways", .ref wv)]
theorem lk1 {kd pp rr wv : Addr} {n : Int} : (flds5 kd pp rr n wv).lookup ("_kinds" : Str) = some (.ref kd) := by rfl
theorem lk2 {kd pp rr wv : Addr} {n : Int} : (flds5 kd pp rr n wv).lookup ("_params" : Str) = some (.ref pp) := by rfl
theorem lk3 {kd pp rr wv : Addr} {n : Int} : (flds5 kd pp rr n wv).lookup ("_results" : Str) = some (.ref rr) := by rfl
theorem lk4 {kd pp rr wv : Addr} {n : Int} : (flds5 kd pp rr n wv).lookup ("_size" : Str) = some (.int n) := by rfl
theorem lk5 {kd pp rr wv : Addr} {n : Int} : (flds5 kd pp rr n wv).lookup ("_ways" : Str) = some (.ref wv) := by rfl
/-- what is asked of the class -/
structure ProcC (K : PySem.W.Frag) (C : Addr) : Prop where
  cl : Cls K C
  n1 : NoAttr K C "_kinds"
  n2 : NoAttr K C "_params"
  n3 : NoAttr K C "_results"
  n4 : NoAttr K C "_size"
  n5 : NoAttr K C "_ways"
/-- five arguments that are each as told -/
structure FiveV (H : Hp) (b : Addr) (v0 v1 v2 v3 v4 : V) (ks : List (Str × Str)) (zs rs : List Str) (n : Int) (d4 : PyData) : Prop where
  v0 : ∃ a, v0 = .ref a ∧ a ≠ b ∧ H a = some (.dK (kinV ks))
  kn : (ks.map (·.1)).Nodup
  kl : ks.length ≤ 60
  v1 : ∃ a, v1 = .ref a ∧ a ≠ b ∧ (H a = some (.lst (zs.map V.str)) ∨ H a = some (.tup (zs.map V.str)))
  v2 : ∃ a, v2 = .ref a ∧ a ≠ b ∧ (H a = some (.lst (rs.map V.str)) ∨ H a = some (.tup (rs.map V.str)))
  zl : zs.length ≤ 60
  rl : rs.length ≤ 60
  v3 : v3 = .int n
  v4 : Dq H b v4 d4
  o4 : okM d4
  w4 : waysD d4 = true
/-- where a Procedure stands -/
structure ProcAt (C : Addr) (H : Hp) (x dx : Addr) (ks : List (Str × Str)) (zs rs : List Str) (n : Int) (ws : List PyData) : Prop where
  at_ : ∃ kd pp rr wv xs, H x = some (.ins C dx (flds5 kd pp rr n wv)) ∧ H kd = some (.dK (kinV ks)) ∧ H pp = some (.tup (zs.map V.str)) ∧ H rr = some (.tup (rs.map V.str)) ∧ H wv = some (.lst xs) ∧ DqAll H x xs ws
/-- the same, with its parts' places -/
structure ProcW (C : Addr) (H : Hp) (x dx kd pp rr wv : Addr) (xs : List V) (ks : List (Str × Str)) (zs rs : List Str) (n : Int) (ws : List PyData) : Prop where
  hx : H x = some (.ins C dx (flds5 kd pp rr n wv))
  hk : H kd = some (.dK (kinV ks))
  hp : H pp = some (.tup (zs.map V.str))
  hr : H rr = some (.tup (rs.map V.str))
  hw : H wv = some (.lst xs)
  hq : DqAll H x xs ws
theorem ProcW.at {C : Addr} {H : Hp} {x dx kd pp rr wv : Addr} {xs : List V} {ks : List (Str × Str)} {zs rs : List Str} {n : Int} {ws : List PyData} (h : ProcW C H x dx kd pp rr wv xs ks zs rs n ws) : ProcAt C H x dx ks zs rs n ws := ⟨kd, pp, rr, wv, xs, h.hx, h.hk, h.hp, h.hr, h.hw, h.hq⟩
def spProc (C CW CN CP CK : Addr) : Sp := fun vs H Q E => ∃ (x dx : Addr) (v0 v1 v2 v3 v4 : V) (d0 : PyData) (r1 r2 r3 r4 : Bool), vs = [.ref x, v0, v1, v2, v3, v4] ∧ H x = some (.ins C dx []) ∧
  KOk C H x v0 d0 ∧ ArgN C H x namesD v1 r1 ∧ ArgN C H x namesD v2 r2 ∧ ArgN C H x posD v3 r3 ∧ ArgN C H x waysD v4 r4 ∧
  (∀ m : Nat, FirstNo [kindsD d0, r1, r2, r3, r4] m → ∀ (H1 : Hp) (d : Addr), SameX x H H1 → H1 d = none → E (.ref CW) (some d) (upd H1 d (.xd [("place", .int m)]))) ∧
  ([kindsD d0, r1, r2, r3, r4].all id = true → ∃ (ks : List (Str × Str)) (zs rs : List Str) (n : Int) (d4 : PyData), FiveV H x v0 v1 v2 v3 v4 ks zs rs n d4 ∧
    (∀ z, missO ks zs rs ((itemsD d4).map wayF) = some z → ∀ (H1 : Hp) (d : Addr), SameX x H H1 → H1 d = none → E (.ref CN) (some d) (upd H1 d (.xd [("name", .str z)]))) ∧
    (missO ks zs rs ((itemsD d4).map wayF) = none → ∀ z, placeO n ((itemsD d4).map wayF) = some z → ∀ (H1 : Hp) (d : Addr), SameX x H H1 → H1 d = none → E (.ref CP) (some d) (upd H1 d (.xd [("place", .int z)]))) ∧
    (missO ks zs rs ((itemsD d4).map wayF) = none → placeO n ((itemsD d4).map wayF) = none → ∀ z, badO ks ((itemsD d4).map wayF) = some z → ∀ (H1 : Hp) (d : Addr), SameX x H H1 → H1 d = none → E (.ref CK) (some d) (upd H1 d (.xd [("name", .str z.2.1)]))) ∧
    (missO ks zs rs ((itemsD d4).map wayF) = none → placeO n ((itemsD d4).map wayF) = none → badO ks ((itemsD d4).map wayF) = none → ∀ (H1 : Hp) (kd pp rr wv : Addr) (xs : List V), SameX x H H1 → H kd = none → H wv = none → ProcW C H1 x dx kd pp rr wv xs (kinS ks) zs rs n ((itemsD d4).map wayF) → Q .non H1))
theorem way_shape {e : PyData} (h : wayD e = true) : ∃ (i j : Int) (s : PyData), rowD e = true ∧ itemsD e = [.int i, .int j, s] ∧ 0 ≤ i ∧ 0 ≤ j ∧ stD s = true := by
  unfold wayD at h
  rw [Bool.and_eq_true] at h
  obtain ⟨h1, h2⟩ := h
  by_cases l : (itemsD e).length = 3
  · generalize ei : itemsD e = ds at h2 l
    match ds, l with
    | [a, b, s], _ =>
      have h2 : (stD s && (natD a && natD b)) = true := h2
      rw [Bool.and_eq_true, Bool.and_eq_true, nat_int, nat_int] at h2
      obtain ⟨g1, g2, g3⟩ := h2
      rw [Bool.and_eq_true] at g2 g3
      obtain ⟨i, rfl⟩ := int_of g2.1
      obtain ⟨j, rfl⟩ := int_of g3.1
      exact ⟨i, j, s, h1, rfl, of_decide_eq_true g2.2, of_decide_eq_true g3.2, g1⟩
  · rw [way_len l] at h2
    cases h2
theorem wayF_of {e : PyData} {i j : Int} {s : PyData} (h : itemsD e = [.int i, .int j, s]) : wayF e = .tuple [.int i, .int j, frozenD s] := by
  unfold wayF
  rw [h]
theorem ways_all {d : PyData} (h : waysD d = true) : rowD d = true ∧ ∀ e ∈ itemsD d, wayD e = true := by
  unfold waysD at h
  rw [Bool.and_eq_true] at h
  exact ⟨h.1, fun e he => List.all_eq_true.mp h.2 e he⟩
end Fv


set_option Elab.async false
set_option linter.all false
set_option maxRecDepth 100000
set_option maxHeartbeats 8000000
namespace Fv
open PySem PySem.Spec PyProof.Rows L2
abbrev sPInit : Stmt := inClass (top 34) 0
abbrev nPi : List Str := ["self", "names", "params", "results", "size", "ways", "name", "begin", "end", "statement"]
theorem flows_sets {s : PyData} (h : stD s = true) {f : Str × Str} (hf : f ∈ flowsOf s) : f.1 ∈ setsOf s := by
  cases st_shape h with
  | skip => cases hf
  | @set p hp =>
    obtain ⟨e, he, rfl⟩ := List.mem_map.mp (show f ∈ (itemsD p).map fun e => (headS e, srcS e) from hf)
    exact List.mem_map.mpr ⟨e, he, rfl⟩
  | @most w x p hw h2 h3 h4 =>
    obtain ⟨e, he, rfl⟩ := List.mem_map.mp (show f ∈ (itemsD p).map fun e => (x, srcS e) from hf)
    exact List.mem_singleton.mpr rfl
  | call _ _ _ => cases hf
theorem nodup_take {l : List Str} (h : l.Nodup) {i : Nat} {z : Str} (e : l[i]? = some z) : z ∉ l.take i := by
  intro hz
  obtain ⟨j, hj, ej⟩ := List.getElem_of_mem hz
  rw [List.length_take] at hj
  rw [List.getElem_take] at ej
  have hi := (List.getElem?_eq_some_iff.mp e).1
  have ei := (List.getElem?_eq_some_iff.mp e).2
  exact List.pairwise_iff_getElem.mp h j i (by omega) hi (by omega) (ej.trans ei.symm)
theorem miss_kin {ks : List (Str × Str)} {zs rs : List Str} {ws : List PyData} (h : missO ks zs rs ws = none) {e : PyData} (he : e ∈ ws) {z : Str} (hz : z ∈ setsOf (stOf e)) : kinOf ks z = true := by
  have := List.find?_eq_none.mp h z (List.mem_append_right _ (List.mem_flatMap.mpr ⟨e, he, (sortL_perm _).mem_iff.mpr (List.mem_append_left _ hz)⟩))
  simpa using this
section
variable {P : Program} {w : World} {K : PySem.W.Frag} {mg : Str → Option Value} {base : Heap} {C : Addr}
theorem scPi : FnScope nPi ["self", "names", "params", "results", "size", "ways"] (defScope sPInit) := ⟨rfl, rfl, rfl, by decide +kernel, rfl, by decide +kernel, by decide +kernel⟩
theorem ok_pinit {f fC fK fN fI fW fF fA fP fB CW CN CP CK : Addr} {fd fdC fdK fdN fdI fdW fdF fdA fdP fdB : FuncData} (F : Fun K "__init__" "Procedure.__init__" sPInit f fd) (T : ProcC K C)
    (GC : FnOk P w K mg base (L2.CX P w) 3 fC fdC ["rights"] (spChkA CW)) (bC : Binds K fdC ["rights"] []) (mC : mg "check_arguments" = some (.ref fC)) (kC : PySem.W.keepIn K (.ref fC) = true)
    (GK : FnOk P w K mg base CX0 2 fK fdK ["thing"] (spKi C)) (bK : Binds K fdK ["thing"] []) (mK : mg "_are_kinds" = some (.ref fK)) (kK : PySem.W.keepIn K (.ref fK) = true)
    (GN : FnOk P w K mg base CX0 2 fN fdN ["thing"] (spN C namesD)) (bN : Binds K fdN ["thing"] []) (mN : mg "are_names" = some (.ref fN)) (kN : PySem.W.keepIn K (.ref fN) = true)
    (GI : FnOk P w K mg base CX0 1 fI fdI ["thing"] (spN C intD)) (bI : Binds K fdI ["thing"] []) (mI : mg "is_integer" = some (.ref fI)) (kI : PySem.W.keepIn K (.ref fI) = true)
    (GW : FnOk P w K mg base CX0 7 fW fdW ["thing"] (spN C waysD)) (bW : Binds K fdW ["thing"] []) (mW : mg "_are_ways" = some (.ref fW)) (kW : PySem.W.keepIn K (.ref fW) = true)
    (GF : FnOk P w K mg base CX0 2 fF fdF ["statement"] spFrozen) (bF : Binds K fdF ["statement"] []) (mF : mg "frozen" = some (.ref fF)) (kF : PySem.W.keepIn K (.ref fF) = true)
    (GA : FnOk P w K mg base (L2.CX P w) 3 fA fdA ["kinds", "ends", "ways"] (spChkN CN)) (bA : Binds K fdA ["kinds", "ends", "ways"] []) (mA : mg "_check_names" = some (.ref fA)) (kA : PySem.W.keepIn K (.ref fA) = true)
    (GP : FnOk P w K mg base (L2.CX P w) 3 fP fdP ["size", "ways"] (spPlaces CP)) (bP : Binds K fdP ["size", "ways"] []) (mP : mg "_check_places" = some (.ref fP)) (kP : PySem.W.keepIn K (.ref fP) = true)
    (GB : FnOk P w K mg base (L2.CX P w) 3 fB fdB ["kinds", "ways"] (spChkK CK)) (bB : Binds K fdB ["kinds", "ways"] []) (mB : mg "_check_kinds" = some (.ref fB)) (kB : PySem.W.keepIn K (.ref fB) = true)
    (mo : mg "sorted" = none) (mt : mg "tuple" = none) : FnOk P w K mg base (L2.CX P w) 8 f fd ["self", "names", "params", "results", "size", "ways"] (spProc C CW CN CP CK) := by
  refine F.okX scPi (fun vs H Q E h => ?_) (fun cdv A outer s H vs Q E hr h => ?_)
  · obtain ⟨x, dx, v0, v1, v2, v3, v4, d0, r1, r2, r3, r4, rfl, _⟩ := h
    rfl
  · obtain ⟨x, dx, v0, v1, v2, v3, v4, d0, r1, r2, r3, r4, rfl, hx, a0, a1, a2, a3, a4, qW, qV⟩ := h
    have hr1 : Room 1 _ := hr.mono (by decide)
    have hr2 : Room 2 _ := hr.mono (by decide)
    have hr3 : Room 3 _ := hr.mono (by decide)
    have hu := hu_of hr
    have hxo : ∃ o, H x = some o := ⟨_, hx⟩
    refine ⟨_, pss_cons (ps_expr (pe_call GC hr3 (by rfl) mC kC bC .nil (passes_call (W := fun cls d _ H => E cls d H) (takes_of rfl rfl rfl rfl) (fun _ _ _ _ h => h)) (pa_cons (pe_lst
        (pa_cons (pe_call GK hr2 (by rfl) mK kK bK .nil pass0 (pa_cons (pv 1) pa_nil))
        (pa_cons (pe_call GN hr2 (by rfl) mN kN bN .nil pass0 (pa_cons (pv 2) pa_nil)) (pa_cons (pe_call GN hr2 (by rfl) mN kN bN .nil pass0 (pa_cons (pv 3) pa_nil))
        (pa_cons (pe_imp (t' := tSizeOk C 4) (pe_and (pe_call GI hr1 (by rfl) mI kI bI .nil pass0 (pa_cons (pv 4) pa_nil)) (pe_one (pe_cmpR op_ge (pv 4) pe_int (nomark _)))) (fun σ H Q h => by
          obtain ⟨x, v, r, hσ, ha, hb, q⟩ := h
          obtain ⟨ri, hi, hc⟩ := size_arg ha
          refine ⟨_, hσ, x, v, ri, rfl, hi, hb, fun H1 s1 => ⟨_, rfl, ?_⟩⟩
          rcases hc with ⟨rfl, rfl⟩ | ⟨i, rfl, rfl, rfl⟩
          · exact iteF (q H1 s1)
          · exact iteT ⟨_, hσ, i, 1, rfl, rfl, q H1 s1⟩))
        (pa_cons (pe_call GW hr (by rfl) mW kW bW .nil pass0 (pa_cons (pv 5) pa_nil)) pa_nil)))))) pa_nil)))
      (pss_cons (ps_fld (pv 0) (pe_dc (own := [("name", 6)]) (g := gName 6) (tt := tYes) rfl scPi.nd (pi_list (pe_callB (call_sortedD rfl) (by rfl) mo (by decide +kernel) (pa_cons (pv 1) pa_nil))) (blkOk_by (N := nPi) (sc := defScope sPInit) (by decide +kernel))
          (fun _ _ _ _ _ => pg_name (i := 6) scPi.nd rfl (.inl rfl)) (fun _ _ _ _ _ => pts_nil) (fun _ _ _ _ _ => pv 6) (fun _ _ _ _ _ => pe_dget hu (pv 1) (pv 6) (fun _ _ => rfl))) rfl)
      (pss_cons (ps_fld (pv 0) (pe_callTy (T := "tuple") (r := rTupN) call_tupN (by rfl) mt boot_tuple (pa_cons (pv 2) pa_nil)) rfl)
      (pss_cons (ps_fld (pv 0) (pe_callTy (T := "tuple") (r := rTupN) call_tupN (by rfl) mt boot_tuple (pa_cons (pv 3) pa_nil)) rfl)
      (pss_cons (ps_fld (pv 0) (pv 4) rfl)
      (pss_cons (ps_fld (pv 0) (pe_lc (own := [("begin", 7), ("end", 8), ("statement", 9)]) (g := gRow K 3 (gCons (gName 7) (gCons (gName 8) (gCons (gName 9) gNil)))) (tt := tYes) rfl scPi.nd (pi_row (pv 5)) (blkOk_by (N := nPi) (sc := defScope sPInit) (by decide +kernel))
          (fun _ _ _ _ _ => pg_row (by rfl) (pgs_cons (pg_name (i := 7) scPi.nd rfl (.inl rfl)) (pgs_cons (pg_name (i := 8) scPi.nd rfl (.inl rfl)) (pgs_cons (pg_name (i := 9) scPi.nd rfl (.inl rfl)) pgs_nil)))) (fun _ _ _ _ _ => pts_nil)
          (fun _ _ _ _ _ => pe_tup (pa_cons (pv 7) (pa_cons (pv 8) (pa_cons (pe_call GF hr2 (by rfl) mF kF bF .nil pass0 (pa_cons (pv 9) pa_nil)) pa_nil))))) rfl)
      (pss_cons (ps_expr (pe_call GA hr3 (by rfl) mA kA bA .nil (passes_call (W := fun cls d _ H => E cls d H) (takes_of rfl rfl rfl rfl) (fun _ _ _ _ h => h)) (pa_cons (pe_fld (pv 0) rfl) (pa_cons (pe_op (r := rCatN) op_catN (pe_fld (pv 0) rfl) (pe_fld (pv 0) rfl)) (pa_cons (pe_fld (pv 0) rfl) pa_nil)))))
      (pss_cons (ps_expr (pe_call GP hr3 (by rfl) mP kP bP .nil (passes_call (W := fun cls d _ H => E cls d H) (takes_of rfl rfl rfl rfl) (fun _ _ _ _ h => h)) (pa_cons (pe_fld (pv 0) rfl) (pa_cons (pe_fld (pv 0) rfl) pa_nil))))
      (pss_one (ps_expr (pe_call GB hr3 (by rfl) mB kB bB .nil (passes_call (W := fun cls d _ H => E cls d H) (takes_of rfl rfl rfl rfl) (fun _ _ _ _ h => h)) (pa_cons (pe_fld (pv 0) rfl) (pa_cons (pe_fld (pv 0) rfl) pa_nil)))))))))))), ?_⟩
    have s0 : Same H H := fun _ _ e => e
    refine ⟨_, rfl, x, v0, d0, rfl, a0, hxo, fun H1 s1 => ?_⟩
    refine ⟨_, rfl, x, v1, r1, rfl, a1.same s1, there s1 hxo, fun H2 s2 => ?_⟩
    have s02 := s1.trans s2
    refine ⟨_, rfl, x, v2, r2, rfl, a2.same s02, there s02 hxo, fun H3 s3 => ?_⟩
    have s03 := s02.trans s3
    refine ⟨x, v3, r3, rfl, a3.same s03, there s03 hxo, fun H4 s4 => ?_⟩
    have s04 := s03.trans s4
    refine ⟨_, rfl, x, v4, r4, rfl, a4.same s04, there s04 hxo, fun H5 s5 => ?_⟩
    have s05 := s04.trans s5
    refine ⟨by show 5 ≤ sizeLine; decide, fun p np => ?_⟩
    have s6 := same_upd (o := .lst ([kindsD d0, r1, r2, r3, r4].map V.bl)) np
    have s06 := s05.trans s6
    refine ⟨p, [kindsD d0, r1, r2, r3, r4], rfl, upd_same, fun hall H7 s7 => ?_, fun m hm H7 d s7 nd => qW m hm H7 d (sameX (s06.trans s7)) nd⟩
    have s07 := s06.trans s7
    clear qW a0 a1 a2 a3 a4
    obtain ⟨ks, zs, rs, n, d4, FV, qN, qP, qK, qO⟩ := qV hall
    clear qV hall
    obtain ⟨w0, kn, kl, w1, w2, zl, rl, rfl, g4, o4, hw4⟩ := FV
    obtain ⟨b0, rfl, nb0, e0⟩ := w0
    obtain ⟨b1, rfl, nb1, e1⟩ := w1
    obtain ⟨b2, rfl, nb2, e2⟩ := w2
    have hx7 := s07 _ _ hx
    have e07 := s07 _ _ e0
    have k07 : SameX x H H7 := sameX s07
    clear s1 s2 s3 s4 s5 s6 s7 s02 s03 s04 s05 s06 s07 np
    -- the kinds
    refine ⟨_, rfl, b0, kinV ks, ks.map (·.1), rfl, .inl e07, by unfold kinV; rw [List.map_map, List.map_map]; rfl, by rw [List.length_map]; omega, fun ys q0 perm srt nq => ⟨q0, rfl, ⟨_, SqL.of upd_same⟩, fun D hD => ?_⟩⟩
    obtain rfl : ys = keysOf ks := sortL_of perm srt
    have w8 := same_upd (o := .lst ((keysOf ks).map V.str)) nq
    have eq0 : (upd H7 q0 (.lst ((keysOf ks).map V.str))) q0 = some (.lst ((keysOf ks).map V.str)) := upd_same
    generalize upd H7 q0 (.lst ((keysOf ks).map V.str)) = G at w8 eq0 hD ⊢
    have knd : (keysOf ks).Nodup := ((sortL_perm _).nodup_iff).mpr kn
    have kin_len : (keysOf ks).length = ks.length := by
      have := (sortL_perm (ks.map (·.1))).length_eq
      rwa [List.length_map] at this
    refine dc_it (walk_list (K := K) (a := q0) (xs := (keysOf ks).map V.str)) (fun i H' => Same G H' ∧ H' D = some (.dK (kinV (((keysOf ks).take i).map fun z => (z, kfOf ks z))))) ⟨same_upd hD, upd_same⟩ (fun i H' _ h => SqL.of (h.1 _ _ eq0)) ?_ ?_
    · rintro i v H' H2 hi ⟨s', e'⟩ ⟨rfl, hvi⟩
      obtain ⟨z, hzi, rfl⟩ : ∃ z, (keysOf ks)[i]? = some z ∧ v = V.str z := by
        rw [List.getElem?_map] at hvi
        cases e : (keysOf ks)[i]? with
        | none => rw [e] at hvi; cases hvi
        | some z => rw [e] at hvi; exact ⟨z, rfl, (Option.some.inj hvi).symm⟩
      have hzk : z ∈ ks.map (·.1) := (sortL_perm _).mem_iff.mp (List.mem_of_getElem? hzi)
      have gz : valV (kinV ks) (Sum.inr z) = some (.str (kfOf ks z)) := by
        rcases (kin_at ks).get z with h | ⟨h, _⟩
        · exact h
        · exfalso
          have := valV_not h
          refine this ?_
          obtain ⟨pz, hp, ez⟩ := List.mem_map.mp hzk
          unfold kinV
          rw [List.map_map]
          exact List.mem_map.mpr ⟨pz, hp, by rw [← ez]; rfl⟩
      have e08 := s' _ _ (w8 _ _ e07)
      refine ⟨rfl, _, rfl, _, rfl, _, rfl, b0, _, rfl, gz ▸ DGet.k (k := Sum.inr z) e08, _, Sum.inr z, rfl, e', ?_, fun c o e => ?_, ?_⟩
      · unfold kinV
        rw [List.length_map, List.length_map, List.length_take]
        exact small60 (by omega)
      · rw [upd_ne (ne_of_none e hD)]
        exact s' c o e
      · rw [upd_same, putK_new, List.take_add_one, hzi]
        · unfold kinV
          rw [← List.map_append.symm]
          simp
        · unfold kinV
          rw [List.map_map, List.map_map]
          intro hm
          obtain ⟨y, hy, ey⟩ := List.mem_map.mp hm
          have : y = z := Sum.inr.inj ey
          subst this
          exact nodup_take knd hzi hy
    · rintro H8 ⟨s8, e8⟩
      rw [List.length_map, List.take_length] at e8
      have hx8 := s8 _ _ (w8 _ _ hx7)
      have k08 : SameX x H H8 := k07.trans (sameX (w8.trans s8))
      have nD : D ≠ x := (ne_of_none (w8 _ _ hx7) hD).symm
      have nDH : H D = none := by
        cases e : H D with
        | none => rfl
        | some o =>
          rw [w8 _ _ (k07 _ _ nD e)] at hD
          cases hD
      refine ⟨_, rfl, x, C, dx, _, rfl, hx8, T.cl, T.n1, by show 0 < 1000; decide, ?_⟩
      have kd8 : (upd H8 x (.ins C dx (putF "_kinds" (.ref D) []))) D = some (.dK (kinV (kinS ks))) := by rw [upd_ne nD]; exact e8
      have hx9 : (upd H8 x (.ins C dx (putF "_kinds" (.ref D) []))) x = some (.ins C dx [("_kinds", .ref D)]) := upd_same
      have k09 : SameX x H (upd H8 x (.ins C dx (putF "_kinds" (.ref D) []))) := fun c o n e => by rw [upd_ne n]; exact k08 c o n e
      generalize upd H8 x (.ins C dx (putF "_kinds" (.ref D) [])) = M1 at kd8 hx9 k09 ⊢
      clear e8 hx8 k08 s8 hD nq eq0 w8 e07 hx7 k07
      -- params
      refine ⟨_, rfl, b1, zs.map V.str, rfl, e1.imp (fun h => k09 _ _ nb1 h) (fun h => k09 _ _ nb1 h), fun N1 pp sN1 epp => ?_⟩
      have npp : pp ≠ x := fun z => by
        have := sN1 _ _ hx9
        rw [z, this] at epp
        cases epp
      refine ⟨_, rfl, x, C, dx, _, rfl, sN1 _ _ hx9, T.cl, T.n2, by show 1 < 1000; decide, ?_⟩
      have hx10 : (upd N1 x (.ins C dx (putF "_params" (.ref pp) [("_kinds", .ref D)]))) x = some (.ins C dx [("_kinds", .ref D), ("_params", .ref pp)]) := upd_same
      have k10 : SameX x M1 (upd N1 x (.ins C dx (putF "_params" (.ref pp) [("_kinds", .ref D)]))) := fun c o n e => by rw [upd_ne n]; exact sN1 c o e
      have epp10 : (upd N1 x (.ins C dx (putF "_params" (.ref pp) [("_kinds", .ref D)]))) pp = some (.tup (zs.map V.str)) := by rw [upd_ne npp]; exact epp
      generalize upd N1 x (.ins C dx (putF "_params" (.ref pp) [("_kinds", .ref D)])) = M2 at hx10 k10 epp10 ⊢
      clear sN1 epp
      have k010 := k09.trans k10
      have kd10 := k10 _ _ nD kd8
      -- results
      refine ⟨_, rfl, b2, rs.map V.str, rfl, e2.imp (fun h => k010 _ _ nb2 h) (fun h => k010 _ _ nb2 h), fun N2 rr sN2 err => ?_⟩
      have nrr : rr ≠ x := fun z => by
        have := sN2 _ _ hx10
        rw [z, this] at err
        cases err
      refine ⟨_, rfl, x, C, dx, _, rfl, sN2 _ _ hx10, T.cl, T.n3, by show 2 < 1000; decide, ?_⟩
      have hx11 : (upd N2 x (.ins C dx (putF "_results" (.ref rr) [("_kinds", .ref D), ("_params", .ref pp)]))) x = some (.ins C dx [("_kinds", .ref D), ("_params", .ref pp), ("_results", .ref rr)]) := upd_same
      have k11 : SameX x M2 (upd N2 x (.ins C dx (putF "_results" (.ref rr) [("_kinds", .ref D), ("_params", .ref pp)]))) := fun c o n e => by rw [upd_ne n]; exact sN2 c o e
      have err11 : (upd N2 x (.ins C dx (putF "_results" (.ref rr) [("_kinds", .ref D), ("_params", .ref pp)]))) rr = some (.tup (rs.map V.str)) := by rw [upd_ne nrr]; exact err
      generalize upd N2 x (.ins C dx (putF "_results" (.ref rr) [("_kinds", .ref D), ("_params", .ref pp)])) = M3 at hx11 k11 err11 ⊢
      clear sN2 err
      have k011 := k010.trans k11
      have kd11 := k11 _ _ nD kd10
      have epp11 := k11 _ _ npp epp10
      clear kd8 hx9 k09 k10 epp10 kd10 hx10 k010 k11
      -- size
      refine ⟨_, rfl, _, rfl, x, C, dx, _, rfl, hx11, T.cl, T.n4, by show 3 < 1000; decide, ?_⟩
      have hx12 : (upd M3 x (.ins C dx (putF "_size" (.int n) [("_kinds", .ref D), ("_params", .ref pp), ("_results", .ref rr)]))) x = some (.ins C dx [("_kinds", .ref D), ("_params", .ref pp), ("_results", .ref rr), ("_size", .int n)]) := upd_same
      have k12 : SameX x M3 (upd M3 x (.ins C dx (putF "_size" (.int n) [("_kinds", .ref D), ("_params", .ref pp), ("_results", .ref rr)]))) := fun c o n e => by rw [upd_ne n]; exact e
      generalize upd M3 x (.ins C dx (putF "_size" (.int n) [("_kinds", .ref D), ("_params", .ref pp), ("_results", .ref rr)])) = M4 at hx12 k12 ⊢
      have k012 := k011.trans k12
      have kd12 := k12 _ _ nD kd11
      have epp12 := k12 _ _ npp epp11
      have err12 := k12 _ _ nrr err11
      clear hx11 k011 k12 kd11 epp11 err11
      -- ways
      obtain ⟨hrow4, hall4⟩ := ways_all hw4
      have g12 : Dq M4 x v4 d4 := g4.mono fun c o n e => k012 c o n e
      obtain ⟨b4, xs4, ds4, rfl, hdd, hrow, hx4⟩ := g12.row_of (K := K) hrow4
      have eit := rows_items hdd
      rw [eit] at hall4 qN qP qK qO
      obtain ⟨hl4, om4⟩ := okM.items o4
      rw [eit] at hl4 om4
      have hlen := hx4.len
      refine ⟨_, rfl, b4, xs4, rfl, hrow, fun J G4 wk hG D4 hD4 => ?_⟩
      have nD4 : D4 ≠ x := (ne_of_none hx12 hD4).symm
      have nD4H : H D4 = none := by
        cases e : H D4 with
        | none => rfl
        | some o =>
          rw [k012 _ _ nD4 e] at hD4
          cases hD4
      refine lc_it wk (fun i H' => Same M4 H' ∧ ∃ ys : List V, H' D4 = some (.lst ys) ∧ DqAll (del H' D4) x ys ((ds4.take i).map wayF)) ⟨same_upd hD4, [], upd_same, .nil⟩ (fun i H' _ h => hG H' h.1) ?_ ?_
      · rintro i v H' H2 hi ⟨s', ys, e', ya⟩ ⟨rfl, hvi⟩
        obtain ⟨e, hdi, hde⟩ := hx4.at_ hvi
        have he := List.mem_of_getElem? hdi
        obtain ⟨i0, j0, st, hre, hie, _, _, hst⟩ := way_shape (hall4 e he)
        have oe := om4.mem e he
        have ost : okM st := by
          have := (okM.items oe).2
          rw [hie] at this
          exact this.2.2.1
        obtain ⟨ae, xe, de, rfl, hde2, hrowe, hxe⟩ := (hde.mono fun c o _ e => s' c o e).row_of (K := K) hre
        have eie := rows_items hde2
        rw [hie] at eie
        subst eie
        obtain ⟨u1, u2, u3, rfl⟩ := three_of hxe.len
        obtain ⟨_, _, _, ee, g5, g6, g7⟩ := hxe.three
        cases ee
        cases g5
        cases g6
        have yl : ys.length ≤ i := by rw [ya.len, List.length_map, List.length_take]; omega
        have hi4 : i < ds4.length := (List.getElem?_eq_some_iff.mp hdi).1
        refine ⟨ae, _, rfl, hrowe, rfl, _, _, rfl, _, _, rfl, _, _, rfl, rfl, rfl, ?_⟩
        refine ⟨_, rfl, _, rfl, _, rfl, x, u3, st, rfl, g7, ost.ok, hst, ⟨_, s' _ _ hx12⟩, fun H3 p3 s3 g8 => ⟨by show 3 ≤ sizeLine; decide, fun t nt => ?_⟩⟩
        have w1 := same_upd (o := .tup [.int i0, .int j0, .ref p3]) nt
        have s03 := s3.trans w1
        have g9 : Dq (del (upd H3 t (.tup [.int i0, .int j0, .ref p3])) D4) x (.ref p3) (frozenD st) :=
          (g8.off (s3 _ _ e') (st_noL (frozen_st hst) (frozen_frozen st))).mono fun c o _ e => sub_upd w1 c o e
        refine ⟨ys, s03 _ _ e', small60 (by omega), fun c o e => ?_, _, upd_same, ?_⟩
        · rw [upd_ne (ne_of_none e hD4)]
          exact s03 _ _ (s' c o e)
        · rw [del_upd, take_map_snoc hdi, wayF_of hie]
          refine DqAll.snoc (.tup (xs := [.int i0, .int j0, .ref p3]) ?_ (ne_of_none (s3 _ _ (s' _ _ hx12)) nt).symm (.cons (.int _) (.cons (.int _) (.cons g9 .nil)))) (ya.mono fun c o _ e => sub_upd s03 c o e)
          rw [del_ne (ne_of_none (s3 _ _ e') nt).symm]
          exact upd_same
      · rintro H9 ⟨s9, ys, e9, ya⟩
        rw [hlen, List.take_length] at ya
        have yq : DqAll H9 x ys (ds4.map wayF) := ya.mono fun c o _ e => del_sub c o e
        refine ⟨_, rfl, x, C, dx, _, rfl, s9 _ _ hx12, T.cl, T.n5, by show 4 < 1000; decide, ?_⟩
        have hx13 : (upd H9 x (.ins C dx (putF "_ways" (.ref D4) [("_kinds", .ref D), ("_params", .ref pp), ("_results", .ref rr), ("_size", .int n)]))) x = some (.ins C dx (flds5 D pp rr n D4)) := upd_same
        have k13 : SameX x H9 (upd H9 x (.ins C dx (putF "_ways" (.ref D4) [("_kinds", .ref D), ("_params", .ref pp), ("_results", .ref rr), ("_size", .int n)]))) := fun c o n e => by rw [upd_ne n]; exact e
        generalize upd H9 x (.ins C dx (putF "_ways" (.ref D4) [("_kinds", .ref D), ("_params", .ref pp), ("_results", .ref rr), ("_size", .int n)])) = M5 at hx13 k13 ⊢
        have k013 : SameX x H M5 := k012.trans ((sameX s9).trans k13)
        have kd13 := k13 _ _ nD (s9 _ _ kd12)
        have epp13 := k13 _ _ npp (s9 _ _ epp12)
        have err13 := k13 _ _ nrr (s9 _ _ err12)
        have ew13 := k13 _ _ nD4 e9
        have yq13 : DqAll M5 x ys (ds4.map wayF) := yq.mono fun c o n e => k13 c o n e
        clear hx12 k012 k13 kd12 epp12 err12 yq ya e9 s9
        have shp : ∀ e ∈ ds4.map wayF, ∃ (i j : Int) (s : PyData), e = .tuple [.int i, .int j, s] ∧ okM s ∧ stD s = true ∧ frozenD s = s := fun e he => by
          obtain ⟨e0, h0, rfl⟩ := List.mem_map.mp he
          obtain ⟨i0, j0, st, _, hie, _, _, hst⟩ := way_shape (hall4 e0 h0)
          have ost : okM st := by
            have := (okM.items (om4.mem e0 h0)).2
            rw [hie] at this
            exact this.2.2.1
          exact ⟨i0, j0, frozenD st, wayF_of hie, frozen_okM ost, frozen_st hst, frozen_frozen st⟩
        have eqm : ((zs ++ rs) ++ ((ds4.map wayF).map fun e => namesOf (stOf e)).flatten).find? (missing (kinV (kinS ks))) = missO ks zs rs (ds4.map wayF) := by
          unfold missO
          rw [← List.flatMap_def]
          congr 1
          funext z
          rw [kin_missing, kinS_kin]
        refine ⟨_, rfl, x, C, dx, _, _, rfl, hx13, T.cl, T.n1, lk1, _, rfl, x, C, dx, _, _, rfl, hx13, T.cl, T.n2, lk2, _, rfl, x, C, dx, _, _, rfl, hx13, T.cl, T.n3, lk3, pp, rr, zs.map V.str, rs.map V.str, rfl, rfl, epp13, err13, ?_, fun M6 pe s6 epe => ?_⟩
        · rw [List.length_map, List.length_map]
          exact Nat.le_trans (Nat.add_le_add zl rl) (by decide)
        have hx14 := s6 _ _ hx13
        have k014 : SameX x H M6 := k013.trans (sameX s6)
        refine ⟨_, rfl, x, C, dx, _, _, rfl, hx14, T.cl, T.n5, lk5, ?_⟩
        refine ⟨x, D, pe, D4, kinV (kinS ks), zs ++ rs, ys, ds4.map wayF, (ds4.map wayF).map fun e => namesOf (stOf e), rfl, ⟨_, hx14⟩, s6 _ _ kd13, by rw [List.map_append]; exact epe, s6 _ _ ew13, yq13.mono fun c o _ e => s6 c o e, ⟨by rw [List.length_map], fun i e hi => ?_⟩, fun hn M7 s7 => ?_, fun z hz N d sN nd => qN z (by rw [← eqm]; exact hz) N d (k014.trans (sameX sN)) nd⟩
        · obtain ⟨i0, j0, st, rfl, om, hst, hfz⟩ := shp e (List.mem_of_getElem? hi)
          have l1 := sets_len hst om
          have l2 := reads_len hst om
          exact ⟨i0, j0, st, namesOf st, rfl, om.ok, hst, by omega, by rw [List.getElem?_map, hi]; rfl, sortL_perm _, sortL_sorted _⟩
        rw [eqm] at hn
        have hx15 := s7 _ _ hx14
        have s67 := s6.trans s7
        have k015 : SameX x H M7 := k014.trans (sameX s7)
        refine ⟨_, rfl, x, C, dx, _, _, rfl, hx15, T.cl, T.n4, lk4, _, rfl, x, C, dx, _, _, rfl, hx15, T.cl, T.n5, lk5, ?_⟩
        refine ⟨x, D4, ys, ds4.map wayF, n, rfl, s67 _ _ ew13, yq13.mono fun c o _ e => s67 c o e, fun e he => ?_, fun hp M8 s8 => ?_, fun z hz N d sN nd => qP hn z hz N d (k015.trans (sameX sN)) nd⟩
        · obtain ⟨i0, j0, st, rfl, _⟩ := shp e he
          exact ⟨i0, j0, st, rfl⟩
        have hx16 := s8 _ _ hx15
        have s68 := s67.trans s8
        have k016 : SameX x H M8 := k015.trans (sameX s8)
        refine ⟨_, rfl, x, C, dx, _, _, rfl, hx16, T.cl, T.n1, lk1, _, rfl, x, C, dx, _, _, rfl, hx16, T.cl, T.n5, lk5, ?_⟩
        have kat : KindsAt (kinV (kinS ks)) (kfOf ks) := by
          have h := kin_at (kinS ks)
          rwa [show kfOf (kinS ks) = kfOf ks from funext (kinS_kf ks)] at h
        refine ⟨x, D, D4, kinV (kinS ks), kfOf ks, ys, ds4.map wayF, rfl, ⟨_, hx16⟩, s68 _ _ kd13, kat, s68 _ _ ew13, yq13.mono fun c o _ e => s68 c o e, fun e he => ?_, fun hk M9 s9 => ?_, fun z hz N d sN nd => qK hn hp z hz N d (k016.trans (sameX sN)) nd⟩
        · obtain ⟨i0, j0, st, rfl, om, hst, hfz⟩ := shp e he
          refine ⟨i0, j0, st, rfl, om.ok, hst, hfz, fun f hf => ?_⟩
          have h := miss_kin hn he (flows_sets hst hf)
          have h2 := kin_missing (kinS ks) f.1
          rw [kinS_kin, h] at h2
          unfold missing at h2
          simpa using h2
        have s69 := s68.trans s9
        exact qO hn hp hk M9 D pp rr D4 ys (k016.trans (sameX s9)) nDH nD4H ⟨s9 _ _ hx16, s69 _ _ kd13, s69 _ _ epp13, s69 _ _ err13, s69 _ _ ew13, yq13.mono fun c o _ e => s69 c o e⟩
end
end Fv


set_option Elab.async false
set_option linter.all false
set_option maxRecDepth 100000
set_option maxHeartbeats 8000000
namespace Fv
open PySem PySem.Spec PyProof.Rows L2
/-! ### in an except suite: isinstance(e, c), e.f, the class told by what is read -/
def rIsQ (K : PySem.W.Frag) (a : Addr) (cls : Value) (d : Option Addr) : List V → Hp → VK → Prop := fun xs H Q => ∃ (D dd : Addr) (fs : List (Str × V)) (c : V) (u : Value) (r : Bool), xs = [.ref a, c] ∧ cls = .ref D ∧ d = some dd ∧ H dd = some (.xd fs) ∧ ExcC K D ∧ ClsV c u ∧ PySem.W.kitOne K (.ref D) u = some r ∧ Q (.bl r) H
def tXfQ (K : PySem.W.Frag) (a : Addr) (cls : Value) (d : Option Addr) (n : Str) (te : TE) : TE := fun σ H Q => te σ H fun x H1 => x = .ref a ∧ ∃ (C dd : Addr) (fs : List (Str × V)) (v : V), cls = .ref C ∧ d = some dd ∧ H1 dd = some (.xd fs) ∧ XfC K C ∧ PySem.W.findIn K (.ref C) n = some none ∧ fs.lookup n = some v ∧ Q v H1
section
variable {X : Cx} {a : Addr} {oe : Obj} {cls : Value} {d : Option Addr}
theorem bears_q {H : Hp} {D dd : Addr} {fs : List (Str × V)} (hz : Zc cls d oe) (hf : ∃ vs, oe.data = .fields vs) (e1 : cls = .ref D) (e2 : d = some dd) (e3 : H dd = some (.xd fs)) : Bears H oe D (some (dd, fs)) := by
  obtain ⟨z1, z2⟩ := hz
  exact ⟨z1.trans e1, hf, z2.trans e2, e3⟩
theorem call_isQ (hp : (a, oe) ∈ X.pn) (hz : Zc cls d oe) (hf : ∃ vs, oe.data = .fields vs) : CallR X (.builtin "isinstance") (rIsQ X.K a cls d) := by
  intro pins s σ H xs us Q I r ⟨D, dd, fs, c, u, b, ex, e1, e2, e3, C, k, e, q⟩
  exact call_isP hp pins s σ H xs us Q I r ⟨D, _, c, u, b, ex, bears_q hz hf e1 e2 e3, C, k, e, q⟩
theorem pe_xfQ {K : PySem.W.Frag} {e : Expr} {n : Str} {i : Nat} {pos : Pos} (hK : X.K = K) (hp : (a, oe) ∈ X.pn) (hz : Zc cls d oe) (hf : ∃ vs, oe.data = .fields vs) (he : PE X e (tVar i)) (hb : attributeBase e n X.env (eval e X.env) = eval e X.env := by rfl) : PE X (.Attribute e n pos) (tXfQ K a cls d n (tVar i)) :=
  hK ▸ pe_imp (pe_xfP (a := a) (oe := oe) hp he hb) fun σ H Q h => by
    obtain ⟨v, hv, ex, C, dd, fs, w, e1, e2, e3, r⟩ := h
    exact ⟨v, hv, ex, C, dd, fs, w, bears_q hz hf e1 e2 e3, r⟩
end
/-- list(x) of a list or a tuple: a new list at none of the first places -/
def rListN : List V → Hp → VK → Prop := fun xs H Q => ∃ p ys, xs = [.ref p] ∧ (H p = some (.lst ys) ∨ H p = some (.tup ys)) ∧ ∀ l, H l = none → l ≠ sysModules → Q (.ref l) (upd H l (.lst ys))
theorem call_listN {X : Cx} : CallR X (.type "list") rListN := by
  intro pins s σ H xs us Q I r h
  obtain ⟨p, ys, ex, hq, q⟩ := h
  subst ex
  obtain ⟨v, ev, rv⟩ := vals1 r
  subst ev
  obtain rfl : v = Value.ref p := rv
  rcases hq with hq | hq
  · obtain ⟨items, ri, pl, room⟩ := I.list (SqL.of hq)
    obtain ⟨ob, hob, hcl, cap, hda⟩ := pl.isList
    have hn := ri.length
    refine call_list_seq p (.inl rfl) hob hcl hda (fun hp cp keep new => ?_) (by simp only [List.size_toArray] <;> omega)
    have J : Inv X pins σ (upd H s.heap.objs.size (.lst ys)) { s with heap := hp } := I.laid (t' := s.toks) keep (Nat.le_refl _) ⟨room, items, cp, ri, new⟩
    exact ⟨.ref _, _, J, rfl, q _ (I.hok.fresh (Nat.le_refl _)) (Nat.ne_of_gt I.big)⟩
  · exact call_listB pins s σ H _ _ Q I r ⟨p, ys, rfl, SqT.of hq, q⟩
/-! ### what is read of a Procedure -/
abbrev sPp : Stmt := inClass (top 34) 1
abbrev sPr : Stmt := inClass (top 34) 2
abbrev sPs : Stmt := inClass (top 34) 3
abbrev sPn : Stmt := inClass (top 34) 4
abbrev sPk : Stmt := inClass (top 34) 6
abbrev sPw : Stmt := inClass (top 34) 9
def spPn (C : Addr) : Sp := fun vs H Q _ => ∃ (x dx : Addr) (ks : List (Str × Str)) (zs rs : List Str) (n : Int) (ws : List PyData), vs = [.ref x] ∧ ProcAt C H x dx ks zs rs n ws ∧ ∀ H' p, Same H H' → H p = none → H' p = some (.lst ((ks.map (·.1)).map V.str)) → Q (.ref p) H'
def spPk (C : Addr) : Sp := fun vs H Q _ => ∃ (x dx : Addr) (ks : List (Str × Str)) (zs rs : List Str) (n : Int) (ws : List PyData) (z : Str), vs = [.ref x, .str z] ∧ ProcAt C H x dx ks zs rs n ws ∧ nameS z = true ∧ kinOf ks z = true ∧ ∀ H', Same H H' → Q (.str (kfOf ks z)) H'
def spPw (C : Addr) : Sp := fun vs H Q _ => ∃ (x dx : Addr) (ks : List (Str × Str)) (zs rs : List Str) (n : Int) (ws : List PyData), vs = [.ref x] ∧ ProcAt C H x dx ks zs rs n ws ∧ ∀ H' p xs, Same H H' → H p = none → p ≠ sysModules → H' p = some (.lst xs) → DqAll H x xs ws → Q (.ref p) H'
section
variable {P : Program} {w : World} {K : PySem.W.Frag} {mg : Str → Option Value} {base : Heap} {C : Addr}
theorem scPp : FnScope ["self"] ["self"] (defScope sPp) := ⟨rfl, rfl, rfl, by decide +kernel, rfl, by decide +kernel, by decide +kernel⟩
theorem ok_pp {f : Addr} {fd : FuncData} (T : ProcC K C) (F : Fun K "params" "Procedure.params" sPp f fd) : FnOk P w K mg base CX0 1 f fd ["self"] (getSp C "_params") := by
  refine F.ok scPp (fun vs H Q E h => ?_) (fun cdv A outer s H vs Q E hr h => ?_)
  · obtain ⟨a, dx, fs, v, rfl, _⟩ := h
    rfl
  · obtain ⟨a, dx, fs, v, rfl, ea, l, q⟩ := h
    exact ⟨_, pss_one (ps_ret (pe_fld (pv 0) rfl)), _, rfl, a, C, dx, fs, v, rfl, ea, T.cl, T.n2, l, q⟩
theorem scPr : FnScope ["self"] ["self"] (defScope sPr) := ⟨rfl, rfl, rfl, by decide +kernel, rfl, by decide +kernel, by decide +kernel⟩
theorem ok_pr {f : Addr} {fd : FuncData} (T : ProcC K C) (F : Fun K "results" "Procedure.results" sPr f fd) : FnOk P w K mg base CX0 1 f fd ["self"] (getSp C "_results") := by
  refine F.ok scPr (fun vs H Q E h => ?_) (fun cdv A outer s H vs Q E hr h => ?_)
  · obtain ⟨a, dx, fs, v, rfl, _⟩ := h
    rfl
  · obtain ⟨a, dx, fs, v, rfl, ea, l, q⟩ := h
    exact ⟨_, pss_one (ps_ret (pe_fld (pv 0) rfl)), _, rfl, a, C, dx, fs, v, rfl, ea, T.cl, T.n3, l, q⟩
theorem scPs : FnScope ["self"] ["self"] (defScope sPs) := ⟨rfl, rfl, rfl, by decide +kernel, rfl, by decide +kernel, by decide +kernel⟩
theorem ok_ps {f : Addr} {fd : FuncData} (T : ProcC K C) (F : Fun K "size" "Procedure.size" sPs f fd) : FnOk P w K mg base CX0 1 f fd ["self"] (getSp C "_size") := by
  refine F.ok scPs (fun vs H Q E h => ?_) (fun cdv A outer s H vs Q E hr h => ?_)
  · obtain ⟨a, dx, fs, v, rfl, _⟩ := h
    rfl
  · obtain ⟨a, dx, fs, v, rfl, ea, l, q⟩ := h
    exact ⟨_, pss_one (ps_ret (pe_fld (pv 0) rfl)), _, rfl, a, C, dx, fs, v, rfl, ea, T.cl, T.n4, l, q⟩
theorem scPn : FnScope ["self"] ["self"] (defScope sPn) := ⟨rfl, rfl, rfl, by decide +kernel, rfl, by decide +kernel, by decide +kernel⟩
theorem ok_pn {f : Addr} {fd : FuncData} (T : ProcC K C) (F : Fun K "names" "Procedure.names" sPn f fd) (ml : mg "list" = none) : FnOk P w K mg base CX0 1 f fd ["self"] (spPn C) := by
  refine F.ok scPn (fun vs H Q E h => ?_) (fun cdv A outer s H vs Q E hr h => ?_)
  · obtain ⟨x, dx, ks, zs, rs, n, ws, rfl, _⟩ := h
    rfl
  · obtain ⟨x, dx, ks, zs, rs, n, ws, rfl, ⟨kd, pp, rr, wv, xs, hx, hk, _⟩, q⟩ := h
    refine ⟨_, pss_one (ps_ret (pe_callTy (call_listD rfl) (by rfl) ml boot_list (pa_cons (pe_fld (pv 0) rfl) pa_nil))), ?_⟩
    refine ⟨_, rfl, x, C, dx, _, _, rfl, hx, T.cl, T.n1, lk1, kd, _, rfl, .inl hk, fun p np => q _ p (same_upd np) np ?_⟩
    rw [upd_same]
    unfold kinV
    rw [List.map_map, List.map_map]
    rfl
theorem scPk : FnScope ["self", "source"] ["self", "source"] (defScope sPk) := ⟨rfl, rfl, rfl, by decide +kernel, rfl, by decide +kernel, by decide +kernel⟩
theorem ok_pk {f fN : Addr} {fd fdN : FuncData} (T : ProcC K C) (F : Fun K "kind" "Procedure.kind" sPk f fd)
    (GN : FnOk P w K mg base CX0 1 fN fdN ["thing"] (spX C nameD)) (bN : Binds K fdN ["thing"] []) (mN : mg "is_name" = some (.ref fN)) (kN : PySem.W.keepIn K (.ref fN) = true) : FnOk P w K mg base CX0 2 f fd ["self", "source"] (spPk C) := by
  refine F.ok scPk (fun vs H Q E h => ?_) (fun cdv A outer s H vs Q E hr h => ?_)
  · obtain ⟨x, dx, ks, zs, rs, n, ws, z, rfl, _⟩ := h
    rfl
  · obtain ⟨x, dx, ks, zs, rs, n, ws, z, rfl, ⟨kd, pp, rr, wv, xs, hx, hk, _⟩, hz, hi, q⟩ := h
    have hu := hu_of hr
    refine ⟨_, pss_cons (ps_if (pt_cmpR op_eq (pv 1) pe_str (nomark _)) (pss_one (ps_ret pe_str)) pss_nil)
      (pss_cons (ps_if (PW.pt (pw_or (pt_not (pt_val (pe_call GN hr (by rfl) mN kN bN .nil pass0 (pa_cons (pv 1) pa_nil)))) (pw_or1 (pt_cmp (pc_dnotin hu (pv 1) (pe_fld (pv 0) rfl)))))) (pss_one ps_never) pss_nil)
      (pss_one (ps_ret (pe_dget hu (pe_fld (pv 0) rfl) (pv 1) (fun _ _ => rfl))))), ?_⟩
    have hne : ¬ z = "" := fun e => by
      subst e
      cases hz
    have asc_ : okD (.str z) := (nm_of hz).ok
    have gz : valV (kinV ks) (Sum.inr z) = some (.str (kfOf ks z)) := by
      rcases (kin_at ks).get z with h | ⟨h, _⟩
      · exact h
      · have m := kin_missing ks z
        unfold missing at m
        rw [h, hi] at m
        cases m
    have eD : ∀ {H1 : Hp}, Same H H1 → DGet H1 kd (.str z) (some (.str (kfOf ks z))) := fun {H1} s => gz ▸ DGet.k (k := Sum.inr z) (s _ _ hk)
    refine ⟨_, rfl, rfl, _, rfl, ?_⟩
    rw [show decide (V.str z = V.str "") = false from by rw [str_dec]; exact decide_eq_false hne]
    refine iteF ⟨_, rfl, x, .str z, .str z, rfl, .str z, asc_, ⟨_, hx⟩, fun H1 s1 => ⟨_, rfl, ?_⟩⟩
    rw [show nameD (.str z) = true from hz]
    refine iteF ⟨_, rfl, _, rfl, x, C, dx, _, _, rfl, s1 _ _ hx, T.cl, T.n1, lk1, kd, _, rfl, eD s1, _, rfl, iteF ?_⟩
    exact ⟨_, rfl, x, C, dx, _, _, rfl, s1 _ _ hx, T.cl, T.n1, lk1, _, rfl, kd, _, rfl, eD s1, q H1 s1⟩
theorem scPw : FnScope ["self"] ["self"] (defScope sPw) := ⟨rfl, rfl, rfl, by decide +kernel, rfl, by decide +kernel, by decide +kernel⟩
theorem ok_pw {f : Addr} {fd : FuncData} (T : ProcC K C) (F : Fun K "ways" "Procedure.ways" sPw f fd) (ml : mg "list" = none) : FnOk P w K mg base CX0 1 f fd ["self"] (spPw C) := by
  refine F.ok scPw (fun vs H Q E h => ?_) (fun cdv A outer s H vs Q E hr h => ?_)
  · obtain ⟨x, dx, ks, zs, rs, n, ws, rfl, _⟩ := h
    rfl
  · obtain ⟨x, dx, ks, zs, rs, n, ws, rfl, ⟨kd, pp, rr, wv, xs, hx, hk, _, _, hw, hq⟩, q⟩ := h
    refine ⟨_, pss_one (ps_ret (pe_callTy (T := "list") (r := rListN) call_listN (by rfl) ml boot_list (pa_cons (pe_fld (pv 0) rfl) pa_nil))), ?_⟩
    exact ⟨_, rfl, x, C, dx, _, _, rfl, hx, T.cl, T.n5, lk5, wv, _, rfl, .inl hw, fun l nl wl => q _ l xs (same_upd nl) nl wl upd_same hq⟩
end
end Fv


set_option Elab.async false
set_option linter.all false
set_option maxRecDepth 100000
set_option maxHeartbeats 4000000
namespace Fv
open PySem PySem.Spec PyProof.Rows L2
/-! ### the law's reading of statements, and the program's -/
theorem used_set {w : Str} {p : PyData} : usedOf (.tuple [.str w, p]) = ((itemsD p).map tgSet).flatMap flat2 := by cases p <;> rfl
theorem used_most {w x : Str} {p : PyData} : usedOf (.tuple [.str w, .str x, p]) = ((itemsD p).map (tgMost w x)).flatMap flat2 := by cases p <;> rfl
theorem mem_insLk {l : List Str} {x z : Str} : z ∈ insL l x ↔ z ∈ l ∨ z = x := by
  unfold insL
  split
  · rename_i h
    exact ⟨.inl, fun k => k.elim id fun e => e ▸ h⟩
  · rw [List.mem_append, List.mem_singleton]
theorem mem_fold : ∀ {l acc : List Str} {z : Str}, z ∈ l.foldl insL acc ↔ z ∈ acc ∨ z ∈ l
  | [], acc, z => by simp
  | x :: l, acc, z => by
    rw [List.foldl_cons, mem_fold, mem_insLk, List.mem_cons, or_assoc]
theorem mem_dedup {l : List Str} {z : Str} : z ∈ dedup l ↔ z ∈ l := by
  unfold dedup
  rw [mem_fold]
  simp
theorem used_len {s : PyData} (h : stD s = true) (m : okM s) : (usedOf s).length < 64 := by
  have two : ∀ l : List PyData, (l.flatMap flat2).length = 2 * l.length := fun l => by
    induction l with
    | nil => rfl
    | cons x l ih =>
      rw [List.flatMap_cons, List.length_append, ih, List.length_cons]
      show 2 + _ = _
      omega
  cases st_shape h with
  | skip => exact (by decide : 0 < 64)
  | @set p hp =>
    rw [used_set, two, List.length_map]
    have := (okM.items (m.2.2.1)).1
    omega
  | @most w x p hw h2 h3 h4 =>
    rw [used_most, two, List.length_map]
    have := (okM.items (m.2.2.2.1)).1
    omega
  | @call x p r h2 h3 h4 =>
    show ((itemsD p).map srcS ++ (itemsD r).map strS).length < 64
    rw [List.length_append, List.length_map, List.length_map]
    have h1 := (okM.items (m.2.2.2.1)).1
    have h2 := (okM.items (m.2.2.2.2.1)).1
    omega
theorem name_ne {z : Str} (h : nameD (.str z) = true) : z ≠ "" := fun e => by
  rw [e] at h
  revert h
  decide +kernel
noncomputable def usedL (s : PyData) : List Str := sortL ((usedOf s).filter neE)
theorem mem_names {s : PyData} {z : Str} : z ∈ namesOf s ↔ z ∈ setsOf s ∨ (z ∈ (partsOf s).map srcS ∧ z ≠ "") := by
  unfold namesOf
  rw [(sortL_perm _).mem_iff, List.mem_append]
  unfold readsOf
  rw [mem_dedup, List.mem_filter]
  unfold neE
  rw [decide_eq_true_iff]
theorem mem_usedL {s : PyData} {z : Str} : z ∈ usedL s ↔ z ∈ usedOf s ∧ z ≠ "" := by
  unfold usedL
  rw [(sortL_perm _).mem_iff, List.mem_filter]
  unfold neE
  rw [decide_eq_true_iff]
theorem used_names {s : PyData} (h : stD s = true) (z : Str) : z ∈ usedL s ↔ z ∈ namesOf s := by
  rw [mem_usedL, mem_names]
  cases st_shape h with
  | skip =>
    show z ∈ ([] : List Str) ∧ z ≠ "" ↔ z ∈ ([] : List Str) ∨ (z ∈ ([] : List Str) ∧ z ≠ "")
    simp
  | @set p hp =>
    have hall := sets_all hp
    rw [used_set]
    show z ∈ ((itemsD p).map tgSet).flatMap flat2 ∧ z ≠ "" ↔ z ∈ (itemsD p).map headS ∨ (z ∈ (itemsD p).map srcS ∧ z ≠ "")
    have e : ((itemsD p).map tgSet).flatMap flat2 = (itemsD p).flatMap fun e => [headS e, srcS e] := by rw [List.flatMap_map]; rfl
    rw [e, List.mem_flatMap, List.mem_map, List.mem_map]
    constructor
    · rintro ⟨⟨a, ha, hz⟩, ne⟩
      rcases List.mem_cons.mp hz with rfl | hz
      · exact .inl ⟨a, ha, rfl⟩
      · obtain rfl := List.mem_singleton.mp hz
        exact .inr ⟨⟨a, ha, rfl⟩, ne⟩
    · rintro (⟨a, ha, rfl⟩ | ⟨⟨a, ha, rfl⟩, ne⟩)
      · refine ⟨⟨a, ha, List.mem_cons_self⟩, ?_⟩
        have ht := List.all_eq_true.mp hall a ha
        obtain ⟨x, y, c, rfl⟩ := trip_shape ht
        have ht : (nameD (.str x) && sourceD (.str y) && intD (.int c)) = true := ht
        rw [Bool.and_eq_true, Bool.and_eq_true] at ht
        exact name_ne ht.1.1
      · exact ⟨⟨a, ha, List.mem_cons_of_mem _ List.mem_cons_self⟩, ne⟩
  | @most w x p hw h2 h3 h4 =>
    rw [used_most]
    show z ∈ ((itemsD p).map (tgMost w x)).flatMap flat2 ∧ z ≠ "" ↔ z ∈ [x] ∨ (z ∈ (itemsD p).map srcS ∧ z ≠ "")
    have e : ((itemsD p).map (tgMost w x)).flatMap flat2 = (itemsD p).flatMap fun e => [x, srcS e] := by rw [List.flatMap_map]; rfl
    rw [e, List.mem_flatMap, List.mem_map, List.mem_singleton]
    constructor
    · rintro ⟨⟨a, ha, hz⟩, ne⟩
      rcases List.mem_cons.mp hz with rfl | hz
      · exact .inl rfl
      · obtain rfl := List.mem_singleton.mp hz
        exact .inr ⟨⟨a, ha, rfl⟩, ne⟩
    · rintro (rfl | ⟨⟨a, ha, rfl⟩, ne⟩)
      · refine ⟨?_, name_ne h2⟩
        cases hi : itemsD p with
        | nil =>
          rw [hi] at h4
          cases h4
        | cons a l => exact ⟨a, List.mem_cons_self, List.mem_cons_self⟩
      · exact ⟨⟨a, ha, List.mem_cons_of_mem _ List.mem_cons_self⟩, ne⟩
  | @call x p r h2 h3 h4 =>
    show z ∈ (itemsD p).map srcS ++ (itemsD r).map strS ∧ z ≠ "" ↔ z ∈ (itemsD r).map strS ∨ (z ∈ (itemsD p).map srcS ∧ z ≠ "")
    rw [List.mem_append]
    constructor
    · rintro ⟨h | h, ne⟩
      · exact .inr ⟨h, ne⟩
      · exact .inl h
    · rintro (h | ⟨h, ne⟩)
      · refine ⟨.inr h, ?_⟩
        obtain ⟨d, hd, rfl⟩ := List.mem_map.mp h
        have hn := List.all_eq_true.mp (row_names h4).2 d hd
        cases d with
        | str y => exact name_ne hn
        | _ => cases hn
      · exact ⟨.inl h, ne⟩
theorem used_find {s : PyData} (h : stD s = true) (q : Str → Bool) : (usedL s).find? q = (namesOf s).find? q :=
  find_same (sortL_pw _) (sortL_pw _) (used_names h)
theorem miss_eq {ks : List (Str × Str)} {zs rs : List Str} {ws : List PyData} (h : ∀ e ∈ ws, stD (stOf e) = true) : missO ks zs rs ws = (zs ++ rs ++ ws.flatMap fun e => usedL (stOf e)).find? fun z => !kinOf ks z := by
  unfold missO
  rw [List.find?_append, List.find?_append (xs := zs ++ rs)]
  congr 1
  exact find_flat_same fun e he => (used_find (h e he) _).symm
/-! ### targets -/
def kindT (w : Str) : Str := if w = "most" then "high" else if w = "least" then "low" else ""
def tgF (w : Str) (f : Str × Str) : PyData := .tuple [.str f.1, .str f.2, .str (kindT w)]
theorem tg_flows {s : PyData} (h : stD s = true) : targetsOf s = (flowsOf s).map (tgF (wordOf s)) := by
  cases st_shape h with
  | skip => rfl
  | @set p hp =>
    show (itemsD p).map tgSet = ((itemsD p).map fun e => (headS e, srcS e)).map (tgF "set")
    rw [List.map_map]
    refine List.map_congr_left fun e _ => ?_
    show PyData.tuple [.str (headS e), .str (srcS e), .str ""] = .tuple [.str (headS e), .str (srcS e), .str (kindT "set")]
    rw [show kindT "set" = "" by decide +kernel]
  | @most w x p hw h2 h3 h4 =>
    show (itemsD p).map (tgMost w x) = ((itemsD p).map fun e => (x, srcS e)).map (tgF w)
    rw [List.map_map]
    refine List.map_congr_left fun e _ => ?_
    show PyData.tuple [.str x, .str (srcS e), .str (kindW w)] = .tuple [.str x, .str (srcS e), .str (kindT w)]
    have : kindW w = kindT w := by rcases hw with rfl | rfl <;> decide +kernel
    rw [this]
  | @call x p r h2 h3 h4 => rfl
/-- by the law: does y not fit x, or has x not the kind k -/
def badT (kf : Str → Str) (x y k : Str) : Bool := (decide (k ≠ "") && decide (kf x ≠ k)) || !(decide (kf y = "plain") || decide (kf y = kf x))
theorem bad_word {kf : Str → Str} {w x y : Str} : badT kf x y (kindT w) = badF kf (w, x, y) := by
  unfold badT badF fitS kindT wantW
  have e : ∀ a b : Str, decide (V.str a = V.str b) = decide (a = b) := fun a b => by rw [str_dec]
  rw [e, e]
  congr 1
  by_cases h1 : w = "most"
  · rw [if_pos h1, if_pos h1]
    have : decide (("high" : Str) ≠ "") = true := by decide +kernel
    rw [this, Bool.true_and]
  · rw [if_neg h1, if_neg h1]
    by_cases h2 : w = "least"
    · rw [if_pos h2, if_pos h2]
      have : decide (("low" : Str) ≠ "") = true := by decide +kernel
      rw [this, Bool.true_and]
    · rw [if_neg h2, if_neg h2]
      have h3 : decide (("" : Str) ≠ "") = false := by decide +kernel
      rw [h3, Bool.false_and]
      simp
/-! ### lists gone through until the first -/
theorem flat_le {α β : Type} {F : α → List β} {k : Nat} : ∀ {l : List α}, (∀ e ∈ l, (F e).length ≤ k) → (l.flatMap F).length ≤ l.length * k
  | [], _ => Nat.zero_le _
  | x :: l, h => by
    have h1 := h x List.mem_cons_self
    have h2 := flat_le (l := l) fun e he => h e (List.mem_cons_of_mem _ he)
    rw [List.flatMap_cons, List.length_append, List.length_cons, Nat.add_mul, Nat.one_mul]
    omega
theorem find_here {α : Type} {p : α → Bool} : ∀ {l : List α} {i : Nat} {z : α}, l[i]? = some z → (l.take i).find? p = none → p z = true → l.find? p = some z
  | x :: l, 0, z, h, _, hz => by
    cases h
    rw [List.find?_cons, hz]
  | x :: l, i + 1, z, h, hn, hz => by
    rw [List.take_succ_cons, List.find?_cons] at hn
    rw [List.find?_cons]
    cases e : p x with
    | true => rw [e] at hn; cases hn
    | false =>
      rw [e] at hn
      exact find_here (l := l) h hn hz
theorem find_next {α : Type} {p : α → Bool} {l : List α} {i : Nat} {z : α} (h : l[i]? = some z) (hn : (l.take i).find? p = none) (hz : p z = false) : (l.take (i + 1)).find? p = none := by
  rw [List.take_add_one, h]
  show (l.take i ++ [z]).find? p = none
  rw [List.find?_append, hn, Option.none_or]
  show (match p z with | true => some z | false => none) = none
  rw [hz]
theorem flows_used {s : PyData} (h : stD s = true) {f : Str × Str} (hf : f ∈ flowsOf s) : f.1 ∈ usedOf s ∧ f.2 ∈ usedOf s := by
  cases st_shape h with
  | skip => cases hf
  | @set p hp =>
    obtain ⟨e, he, rfl⟩ := List.mem_map.mp (show f ∈ (itemsD p).map fun e => (headS e, srcS e) from hf)
    rw [used_set]
    exact ⟨List.mem_flatMap.mpr ⟨tgSet e, List.mem_map.mpr ⟨e, he, rfl⟩, List.mem_cons_self⟩, List.mem_flatMap.mpr ⟨tgSet e, List.mem_map.mpr ⟨e, he, rfl⟩, List.mem_cons_of_mem _ List.mem_cons_self⟩⟩
  | @most w x p hw h2 h3 h4 =>
    obtain ⟨e, he, rfl⟩ := List.mem_map.mp (show f ∈ (itemsD p).map fun e => (x, srcS e) from hf)
    rw [used_most]
    exact ⟨List.mem_flatMap.mpr ⟨tgMost w x e, List.mem_map.mpr ⟨e, he, rfl⟩, List.mem_cons_self⟩, List.mem_flatMap.mpr ⟨tgMost w x e, List.mem_map.mpr ⟨e, he, rfl⟩, List.mem_cons_of_mem _ List.mem_cons_self⟩⟩
  | @call x p r h2 h3 h4 => cases hf
theorem kin_some {ks : List (Str × Str)} {z : Str} (h : kinOf ks z = true) : valV (kinV ks) (Sum.inr z) = some (.str (kfOf ks z)) := by
  rw [kin_val]
  unfold kinOf at h
  unfold kfOf
  cases e : ks.find? fun p => decide (p.1 = z) with
  | none => rw [e] at h; cases h
  | some p => rfl
theorem kf_empty {ks : List (Str × Str)} (h : ∀ p ∈ ks, nameS p.1 = true) : kfOf ks "" = "plain" := by
  unfold kfOf
  have : (ks.find? fun p => decide (p.1 = ("" : Str))) = none := by
    rw [List.find?_eq_none]
    intro p hp hz
    exact name_ne (show nameD (.str p.1) = true from h p hp) (of_decide_eq_true hz)
  rw [this]
  rfl
/-- names that are not missed are in the kinds -/
theorem miss_mem {ks : List (Str × Str)} {zs rs : List Str} {ws : List PyData} (h : ∀ e ∈ ws, stD (stOf e) = true) (hm : missO ks zs rs ws = none) {e : PyData} (he : e ∈ ws) {z : Str} (hz : z ∈ usedOf (stOf e)) (ne : z ≠ "") : kinOf ks z = true := by
  rw [miss_eq h, List.find?_eq_none] at hm
  have := hm z (List.mem_append_right _ (List.mem_flatMap.mpr ⟨e, he, mem_usedL.mpr ⟨hz, ne⟩⟩))
  simpa using this
theorem flow_name {s : PyData} (h : stD s = true) {f : Str × Str} (hf : f ∈ flowsOf s) : f.1 ≠ "" := by
  have := (mem_names (s := s) (z := f.1)).mpr (.inl (flows_sets h hf))
  exact (mem_usedL.mp ((used_names h f.1).mpr this)).2
end Fv


set_option Elab.async false
set_option linter.all false
set_option maxRecDepth 100000
set_option maxHeartbeats 4000000
namespace Fv
open PySem PySem.Spec PyProof.Rows L2
/-! ### how long a datum is at most when it is shown -/
mutual
def sz : PyData → Nat
  | .list ds => szs ds + 3
  | .tuple ds => szs ds + 3
  | .dict ps => szk ps + 3
  | d => d.shown.length
def szs : List PyData → Nat
  | [] => 0
  | d :: ds => sz d + 2 + szs ds
def szk : List (PyData × PyData) → Nat
  | [] => 0
  | (a, c) :: ps => sz a + sz c + 4 + szk ps
end
mutual
theorem sz_le : ∀ d : PyData, d.shown.length ≤ sz d
  | .none => Nat.le_refl _
  | .bool _ => Nat.le_refl _
  | .int _ => Nat.le_refl _
  | .str _ => Nat.le_refl _
  | .list ds => by
    rw [PyData.shown, sz]
    have := listText_len_le (PyData.shownAll ds)
    have h2 := szs_le ds
    rw [PyData.shownAll_length] at this
    omega
  | .tuple ds => by
    rw [PyData.shown, sz]
    have := tupleText_len_le (PyData.shownAll ds)
    have h2 := szs_le ds
    rw [PyData.shownAll_length] at this
    omega
  | .dict ps => by
    rw [PyData.shown, sz]
    have := dictText_len_le (PyData.shownKv ps)
    have h2 := szk_le ps
    rw [PyData.shownKv_length] at this
    omega
theorem szs_le : ∀ ds : List PyData, ((PyData.shownAll ds).map (·.length)).sum + 2 * ds.length ≤ szs ds
  | [] => by simp [PyData.shownAll, szs]
  | d :: ds => by
    have h1 := sz_le d
    have h2 := szs_le ds
    simp only [PyData.shownAll, List.map_cons, List.sum_cons, List.length_cons, szs]
    omega
theorem szk_le : ∀ ps : List (PyData × PyData), ((PyData.shownKv ps).map (·.length)).sum + 2 * ps.length ≤ szk ps
  | [] => by simp [PyData.shownKv, szk]
  | (a, c) :: ps => by
    have l1 := sz_le a
    have l2 := sz_le c
    have l3 := szk_le ps
    have e2 : (a.shown ++ ": " ++ c.shown).length = a.shown.length + 2 + c.shown.length := by
      rw [strLen_append, strLen_append]; rfl
    simp only [PyData.shownKv, List.map_cons, List.sum_cons, List.length_cons, szk]
    omega
end
structure Rp (n W : Nat) (d : PyData) : Prop where
  sh : d.showable = true
  len : sz d ≤ W
  dp : d.depth ≤ n
structure RpS (n S : Nat) (es : List PyData) : Prop where
  sh : PyData.showableAll es = true
  len : szs es ≤ S
  dp : PyData.depthAll es ≤ n
theorem Rp.mono {n W m V : Nat} {d : PyData} (h : Rp n W d) (hn : n ≤ m) (hw : W ≤ V) : Rp m V d := ⟨h.sh, Nat.le_trans h.len hw, Nat.le_trans h.dp hn⟩
theorem RpS.mono {n W m V : Nat} {d : List PyData} (h : RpS n W d) (hn : n ≤ m) (hw : W ≤ V) : RpS m V d := ⟨h.sh, Nat.le_trans h.len hw, Nat.le_trans h.dp hn⟩
theorem RpS.nil {n : Nat} : RpS n 0 [] := ⟨by simp [PyData.showableAll], by simp [szs], by simp [PyData.depthAll]⟩
theorem RpS.cons {n W S : Nat} {e : PyData} {es : List PyData} (h : Rp n W e) (k : RpS n S es) : RpS n (W + 2 + S) (e :: es) := by
  refine ⟨by rw [PyData.showableAll, h.sh, k.sh]; rfl, ?_, by rw [PyData.depthAll]; exact Nat.max_le.mpr ⟨h.dp, k.dp⟩⟩
  have h1 := h.len
  have h2 := k.len
  rw [szs]
  omega
theorem RpS.all {n W : Nat} : ∀ {es : List PyData}, (∀ e ∈ es, Rp n W e) → RpS n (es.length * (W + 2)) es
  | [], _ => (RpS.nil).mono (Nat.le_refl _) (Nat.zero_le _)
  | e :: es, h => by
    have := RpS.cons (h e List.mem_cons_self) (RpS.all fun x hx => h x (List.mem_cons_of_mem _ hx))
    refine this.mono (Nat.le_refl _) ?_
    rw [List.length_cons, Nat.add_mul]
    omega
theorem RpS.upTo {n W L : Nat} {es : List PyData} (h : ∀ e ∈ es, Rp n W e) (hl : es.length ≤ L) : RpS n (L * (W + 2)) es := (RpS.all h).mono (Nat.le_refl _) (Nat.mul_le_mul_right _ hl)
theorem RpS.tup {n S : Nat} {es : List PyData} (h : RpS n S es) : Rp (n + 1) (S + 3) (.tuple es) := by
  refine ⟨by rw [PyData.showable]; exact h.sh, ?_, by rw [PyData.depth]; exact Nat.succ_le_succ h.dp⟩
  rw [sz]
  have h2 := h.len
  omega
theorem RpS.lst {n S : Nat} {es : List PyData} (h : RpS n S es) : Rp (n + 1) (S + 3) (.list es) := by
  refine ⟨by rw [PyData.showable]; exact h.sh, ?_, by rw [PyData.depth]; exact Nat.succ_le_succ h.dp⟩
  rw [sz]
  have h2 := h.len
  omega
structure RpK (n S : Nat) (ps : List (PyData × PyData)) : Prop where
  sh : PyData.showableKv ps = true
  len : szk ps ≤ S
  dp : PyData.depthKv ps ≤ n
theorem RpK.all {n W : Nat} : ∀ {ps : List (PyData × PyData)}, (∀ p ∈ ps, Rp n W p.1 ∧ Rp n W p.2) → RpK n (ps.length * (2 * W + 4)) ps
  | [], _ => ⟨by simp [PyData.showableKv], by simp [szk], by simp [PyData.depthKv]⟩
  | (a, c) :: ps, h => by
    have h1 := h _ List.mem_cons_self
    have k := RpK.all (ps := ps) fun x hx => h x (List.mem_cons_of_mem _ hx)
    refine ⟨by rw [PyData.showableKv, h1.1.sh, h1.2.sh, k.sh]; rfl, ?_, by rw [PyData.depthKv]; exact Nat.max_le.mpr ⟨Nat.max_le.mpr ⟨h1.1.dp, h1.2.dp⟩, k.dp⟩⟩
    have l1 : sz a ≤ W := h1.1.len
    have l2 : sz c ≤ W := h1.2.len
    have l3 := k.len
    rw [szk, List.length_cons, Nat.add_mul]
    omega
theorem RpK.dct {n S : Nat} {ps : List (PyData × PyData)} (h : RpK n S ps) : Rp (n + 1) (S + 3) (.dict ps) := by
  refine ⟨by rw [PyData.showable]; exact h.sh, ?_, by rw [PyData.depth]; exact Nat.succ_le_succ h.dp⟩
  rw [sz]
  have h2 := h.len
  omega
/-! a part of a datum; a list put as a tuple -/
theorem RpS.mem {n S : Nat} : ∀ {es : List PyData}, RpS n S es → ∀ e ∈ es, Rp n S e
  | d :: ds, h, e, he => by
    obtain ⟨h1, h2, h3⟩ := h
    rw [PyData.showableAll, Bool.and_eq_true] at h1
    rw [szs] at h2
    rw [PyData.depthAll] at h3
    rcases List.mem_cons.mp he with rfl | he
    · exact ⟨h1.1, by omega, Nat.le_trans (Nat.le_max_left _ _) h3⟩
    · exact RpS.mem (es := ds) ⟨h1.2, by omega, Nat.le_trans (Nat.le_max_right _ _) h3⟩ e he
theorem Rp.items {n W : Nat} {d : PyData} (h : Rp n W d) : RpS n W (itemsD d) := by
  obtain ⟨h1, h2, h3⟩ := h
  cases d with
  | list ds =>
    rw [PyData.showable] at h1
    rw [sz] at h2
    rw [PyData.depth] at h3
    exact ⟨h1, by show szs ds ≤ _; omega, by show PyData.depthAll ds ≤ _; omega⟩
  | tuple ds =>
    rw [PyData.showable] at h1
    rw [sz] at h2
    rw [PyData.depth] at h3
    exact ⟨h1, by show szs ds ≤ _; omega, by show PyData.depthAll ds ≤ _; omega⟩
  | _ => exact RpS.nil.mono (Nat.le_refl _) (Nat.zero_le _)
theorem Rp.fz {n W : Nat} {d : PyData} (h : Rp n W d) : Rp n W (fz d) := by
  obtain ⟨h1, h2, h3⟩ := h
  cases d with
  | list ds =>
    rw [PyData.showable] at h1
    rw [sz] at h2
    rw [PyData.depth] at h3
    refine ⟨?_, ?_, ?_⟩
    · show (PyData.tuple ds).showable = true
      rw [PyData.showable]
      exact h1
    · show sz (.tuple ds) ≤ W
      rw [sz]
      exact h2
    · show (PyData.tuple ds).depth ≤ n
      rw [PyData.depth]
      exact h3
  | _ => exact ⟨h1, h2, h3⟩
theorem RpS.fz {n S : Nat} : ∀ {es : List PyData}, RpS n S es → RpS n S (es.map Fv.fz)
  | [], h => h
  | d :: ds, h => by
    obtain ⟨h1, h2, h3⟩ := h
    rw [PyData.showableAll, Bool.and_eq_true] at h1
    rw [szs] at h2
    rw [PyData.depthAll] at h3
    have a : Rp n (sz d) d := ⟨h1.1, Nat.le_refl _, Nat.le_trans (Nat.le_max_left _ _) h3⟩
    have t : RpS n (szs ds) ds := ⟨h1.2, Nat.le_refl _, Nat.le_trans (Nat.le_max_right _ _) h3⟩
    exact (RpS.cons a.fz (RpS.fz t)).mono (Nat.le_refl _) h2
theorem Rp.frozen {n W : Nat} {d : PyData} (h : Rp n W d) : Rp n W (frozenD d) := by
  cases d with
  | tuple ds =>
    have hs := h.items
    have h2 := h.len
    have h3 := h.dp
    have h1 := h.sh
    rw [sz] at h2
    rw [PyData.depth] at h3
    rw [PyData.showable] at h1
    have t : RpS (n - 1) (szs ds) ds := ⟨h1, Nat.le_refl _, by omega⟩
    exact (t.fz.tup).mono (by omega) h2
  | _ => exact h
theorem rp_dec {d : PyData} {n W : Nat} (h : (d.showable && decide (sz d ≤ W) && decide (d.depth ≤ n)) = true) : Rp n W d := by
  simp only [Bool.and_eq_true, decide_eq_true_eq] at h
  exact ⟨h.1.1, h.1.2, h.2⟩
theorem rp_str {z : Str} (h : z.length ≤ 9) (k : ∀ c ∈ z.cps.toList, c < 128) : Rp 0 92 (.str z) := by
  refine ⟨by simp [PyData.showable], ?_, by simp [PyData.depth]⟩
  show (PyData.str z).shown.length ≤ 92
  rw [PyData.shown]
  have := StrLaws.reprText_len z fun c hc => Nat.lt_of_lt_of_le (k c hc) (by decide)
  omega
theorem rp_ten : ∀ n : Nat, n < 40 → ((PyData.int (ten n)).showable && decide (sz (PyData.int (ten n)) ≤ 41) && decide ((PyData.int (ten n)).depth ≤ 0)) = true ∧ ((PyData.int (-(ten n))).showable && decide (sz (PyData.int (-(ten n))) ≤ 42) && decide ((PyData.int (-(ten n))).depth ≤ 0)) = true := by decide +kernel
theorem asc_128 {c : Nat} (h : c ∈ abc.cps.toList) : c < 128 := by
  have : ∀ c ∈ abc.cps.toList, c < 128 := by decide +kernel
  exact this c h
/-! ### the odd value -/
structure OddG (nm : Str) (d : PyData) : Prop where
  m : okM d
  rp : Rp 3 200 d
  k : dictD d = false ∨ d = .dict [] ∨ d = .dict [(.str nm, .int 1)]
theorem odd_str {nm z : Str} (h : z.length ≤ 9) (k : ∀ c ∈ z.cps.toList, c < 128) : OddG nm (.str z) := ⟨⟨by omega, k⟩, (rp_str h k).mono (by decide) (by decide), .inl rfl⟩
def ok9 (z : Str) : Bool := decide (z.length ≤ 9) && z.cps.toList.all fun c => decide (c < 128)
theorem odd_lit {nm z : Str} (h : ok9 z = true) : OddG nm (.str z) := by
  unfold ok9 at h
  simp only [Bool.and_eq_true, decide_eq_true_eq, List.all_eq_true] at h
  exact odd_str h.1 h.2
theorem odd_good {n : Nat} {nm : Str} (hn : n < 40) (h : NmOk nm) : ∀ d ∈ oddD n nm, OddG nm d := by
  obtain ⟨t1, t2⟩ := rp_ten n hn
  have hn8 : nm.length ≤ 9 := Nat.le_succ_of_le h.2.1
  have ha : ∀ c ∈ nm.cps.toList, c < 128 := fun c hc => asc_128 (h.2.2 c hc)
  have rn := rp_str hn8 ha
  have on : okM (.str nm) := ⟨by omega, ha⟩
  intro d hd
  unfold oddD at hd
  simp only [List.mem_cons, List.not_mem_nil, or_false] at hd
  rcases hd with rfl | rfl | rfl | rfl | rfl | rfl | rfl | rfl | rfl | rfl | rfl | rfl | rfl | rfl | rfl | rfl | rfl | rfl | rfl | rfl | rfl | rfl | rfl | rfl | rfl | rfl | rfl | rfl | rfl | rfl
  · exact ⟨True.intro, rp_dec (by decide +kernel), .inl rfl⟩
  · exact ⟨True.intro, rp_dec (by decide +kernel), .inl rfl⟩
  · exact ⟨True.intro, rp_dec (by decide +kernel), .inl rfl⟩
  · exact ⟨True.intro, (rp_dec t1).mono (by decide) (by decide), .inl rfl⟩
  · exact ⟨True.intro, (rp_dec t2).mono (by decide) (by decide), .inl rfl⟩
  · exact ⟨True.intro, rp_dec (by decide +kernel), .inl rfl⟩
  · exact ⟨True.intro, rp_dec (by decide +kernel), .inl rfl⟩
  · exact ⟨True.intro, rp_dec (by decide +kernel), .inl rfl⟩
  · exact odd_lit (by decide +kernel)
  · exact odd_lit (by decide +kernel)
  · exact odd_str hn8 ha
  · refine odd_str ?_ ?_
    · have e : ("z" : Str).length = 1 := by decide +kernel
      rw [strLen_append, e]
      have := h.2.1
      omega
    · intro c hc
      have e : (nm ++ "z" : Str).cps.toList = nm.cps.toList ++ ("z" : Str).cps.toList := by
        show (nm.cps ++ _).toList = _
        simp
      rw [e] at hc
      rcases List.mem_append.mp hc with q | q
      · exact ha c q
      · have : ∀ c ∈ ("z" : Str).cps.toList, c < 128 := by decide +kernel
        exact this c q
  · exact odd_lit (by decide +kernel)
  · exact odd_lit (by decide +kernel)
  · exact odd_lit (by decide +kernel)
  · exact odd_lit (by decide +kernel)
  · exact odd_lit (by decide +kernel)
  · exact odd_lit (by decide +kernel)
  · exact odd_lit (by decide +kernel)
  · exact odd_lit (by decide +kernel)
  · exact odd_lit (by decide +kernel)
  · exact ⟨⟨by decide, True.intro⟩, rp_dec (by decide +kernel), .inl rfl⟩
  · exact ⟨⟨by decide, True.intro⟩, rp_dec (by decide +kernel), .inl rfl⟩
  · exact ⟨True.intro, rp_dec (by decide +kernel), .inr (.inl rfl)⟩
  · exact ⟨⟨by decide, True.intro, True.intro⟩, rp_dec (by decide +kernel), .inl rfl⟩
  · exact ⟨⟨by decide, True.intro, True.intro⟩, rp_dec (by decide +kernel), .inl rfl⟩
  · exact ⟨⟨by show 1 ≤ 24; decide, on, True.intro⟩, (RpS.tup (RpS.cons rn .nil)).mono (by decide) (by decide), .inl rfl⟩
  · refine ⟨True.intro, (RpK.dct (RpK.all (n := 0) (W := 92) fun p hp => ?_)).mono (by decide) (by show 1 * (2 * 92 + 4) + 3 ≤ 200; decide), .inr (.inr rfl)⟩
    obtain rfl := List.mem_singleton.mp hp
    exact ⟨rn, (rp_dec (by decide +kernel) : Rp 0 92 (PyData.int 1))⟩
  · exact ⟨⟨by show 1 ≤ 24; decide, on, True.intro⟩, (RpS.lst (RpS.cons rn .nil)).mono (by decide) (by decide), .inl rfl⟩
  · exact ⟨⟨by decide, ⟨by decide +kernel, by decide +kernel⟩, ⟨by decide +kernel, by decide +kernel⟩, True.intro, True.intro⟩, rp_dec (by decide +kernel), .inl rfl⟩
/-- a heap without two places -/
def msk (a1 a2 : Addr) (H : Hp) : Hp := del (del H a1) a2
theorem mskS {a1 a2 : Addr} {H : Hp} {c : Addr} {o : HO} (e : msk a1 a2 H c = some o) : H c = some o := del_sub _ _ (del_sub _ _ e)
theorem mskI {a1 a2 : Addr} {H : Hp} {c : Addr} {o : HO} (n : c ≠ a1 ∧ c ≠ a2) (e : H c = some o) : msk a1 a2 H c = some o := by
  unfold msk
  rw [del_ne n.2, del_ne n.1]
  exact e
theorem mskN {a1 a2 : Addr} {H : Hp} {c : Addr} {o : HO} (e : msk a1 a2 H c = some o) : c ≠ a1 ∧ c ≠ a2 := by
  unfold msk at e
  refine ⟨fun z => ?_, fun z => ?_⟩
  · have := del_sub _ _ e
    rw [z, del_same] at this
    cases this
  · rw [z, del_same] at e
    cases e
theorem mskK {a1 a2 b : Addr} {H H' : Hp} (k : Keep b H H') : ∀ c o, c ≠ b → msk a1 a2 H c = some o → msk a1 a2 H' c = some o := fun c o n e => mskI (mskN e) (k c o n (mskS e))
theorem m_upd {a1 a2 P : Addr} {H : Hp} {o : HO} : del (msk a1 a2 (upd H P o)) P = del (msk a1 a2 H) P := by
  funext c
  by_cases h : c = P
  · rw [h, del_same, del_same]
  · rw [del_ne h, del_ne h]
    unfold msk
    by_cases h2 : c = a2
    · rw [h2, del_same, del_same]
    · rw [del_ne h2, del_ne h2]
      by_cases h1 : c = a1
      · rw [h1, del_same, del_same]
      · rw [del_ne h1, del_ne h1, upd_ne h]
section
variable {P : Program} {w : World} {K : PySem.W.Frag} {mg : Str → Option Value} {base : Heap}
end
end Fv


set_option Elab.async false
set_option linter.all false
set_option maxRecDepth 100000
set_option maxHeartbeats 8000000
namespace Fv
open PySem PySem.Spec PyProof.Rows L2
abbrev sTold : Stmt := top 9999
abbrev nTo : List Str := ["_law_five", "_law_made", "e", "_law_kinds_here", "_law_name_here"]
/-! ### data seen from another place -/
mutual
theorem Dx.away {C : Addr} {H H' : Hp} {b x : Addr} (k : Same H H') (n : H x = none) : ∀ {v : V} {d : PyData}, Dx C H b v d → Dx C H' x v d
  | _, _, .non => .non
  | _, _, .bl x => .bl x
  | _, _, .int i => .int i
  | _, _, .str x => .str x
  | _, _, .obj e _ => .obj (k _ _ e) (ne_of_none e n)
  | _, _, .lst e _ h => .lst (k _ _ e) (ne_of_none e n) (DxAll.away k n h)
  | _, _, .tup e _ h => .tup (k _ _ e) (ne_of_none e n) (DxAll.away k n h)
  | _, _, .dct e _ => .dct (k _ _ e) (ne_of_none e n)
theorem DxAll.away {C : Addr} {H H' : Hp} {b x : Addr} (k : Same H H') (n : H x = none) : ∀ {v : List V} {d : List PyData}, DxAll C H b v d → DxAll C H' x v d
  | _, _, .nil => .nil
  | _, _, .cons h t => .cons (Dx.away k n h) (DxAll.away k n t)
end
mutual
theorem Dq.away {H H' : Hp} {b x : Addr} (k : Same H H') (n : H x = none) : ∀ {v : V} {d : PyData}, Dq H b v d → Dq H' x v d
  | _, _, .non => .non
  | _, _, .bl x => .bl x
  | _, _, .int i => .int i
  | _, _, .str x => .str x
  | _, _, .lst e _ m h => .lst (k _ _ e) (ne_of_none e n) m (DqAll.away k n h)
  | _, _, .tup e _ h => .tup (k _ _ e) (ne_of_none e n) (DqAll.away k n h)
  | _, _, .dct e _ h h' => .dct (k _ _ e) (ne_of_none e n) (DqAll.away k n h) (DqAll.away k n h')
theorem DqAll.away {H H' : Hp} {b x : Addr} (k : Same H H') (n : H x = none) : ∀ {v : List V} {d : List PyData}, DqAll H b v d → DqAll H' x v d
  | _, _, .nil => .nil
  | _, _, .cons h t => .cons (Dq.away k n h) (DqAll.away k n t)
end
theorem del_same2 {H H' : Hp} {a : Addr} (k : Same H H') : Same (del H a) (del H' a) := fun c o e => by
  have nc : c ≠ a := fun z => by
    rw [z, del_same] at e
    cases e
  rw [del_ne nc]
  exact k c o (del_sub c o e)
theorem del_none {H : Hp} {a x : Addr} (n : H x = none) : (del H a) x = none := by
  by_cases h : x = a
  · rw [h, del_same]
  · rw [del_ne h]
    exact n
theorem KvAll.away {C : Addr} {H H' : Hp} {b x : Addr} (k : Same H H') (n : H x = none) : ∀ {kvs : List (Key × V)} {ps : List (PyData × PyData)}, KvAll C H b kvs ps → KvAll C H' x kvs ps
  | _, _, .nil => .nil
  | _, _, .cons h g o t => .cons h (g.away k n) o (KvAll.away k n t)
theorem KOk.away {C : Addr} {H H' : Hp} {b x : Addr} (k : Same H H') (n : H x = none) {v : V} {d : PyData} (h : KOk C H b v d) : KOk C H' x v d := by
  rcases h with ⟨h1, h2⟩ | ⟨a, kvs, ps, rfl, rfl, e, _, hl, hk⟩
  · exact .inl ⟨h1, h2.away k n⟩
  · exact .inr ⟨a, kvs, ps, rfl, rfl, k _ _ e, ne_of_none e n, hl, hk.away (del_same2 k) (del_none n)⟩
theorem ArgN.away {C : Addr} {H H' : Hp} {b x : Addr} (k : Same H H') (n : H x = none) {g : PyData → Bool} {v : V} {r : Bool} (h : ArgN C H b g v r) : ArgN C H' x g v r := by
  rcases h with ⟨d, h1, h2, h3⟩ | ⟨h1, h2⟩
  · exact .inl ⟨d, h1.away k n, h2, h3⟩
  · exact .inr ⟨h1.same k, h2⟩
theorem FiveV.away {H H' : Hp} {b x : Addr} (k : Same H H') (n : H x = none) {v0 v1 v2 v3 v4 : V} {ks : List (Str × Str)} {zs rs : List Str} {m : Int} {d4 : PyData} (h : FiveV H b v0 v1 v2 v3 v4 ks zs rs m d4) : FiveV H' x v0 v1 v2 v3 v4 ks zs rs m d4 := by
  obtain ⟨⟨a, e0, _, h0⟩, kn, kl, ⟨a1, e1, _, h1⟩, ⟨a2, e2, _, h2⟩, zl, rl, e3, g4, o4, w4⟩ := h
  refine ⟨⟨a, e0, ne_of_none h0 n, k _ _ h0⟩, kn, kl, ⟨a1, e1, ?_, h1.imp (k _ _) (k _ _)⟩, ⟨a2, e2, ?_, h2.imp (k _ _) (k _ _)⟩, zl, rl, e3, g4.away k n, o4, w4⟩
  · exact h1.elim (fun h => ne_of_none h n) fun h => ne_of_none h n
  · exact h2.elim (fun h => ne_of_none h n) fun h => ne_of_none h n
mutual
/-- where no list is: away from any list -/
theorem Dq.offB {H : Hp} {x b : Addr} {bs : List V} (hb : H b = some (.lst bs)) : ∀ {v : V} {d : PyData}, Dq H x v d → noL d → Dq H b v d
  | _, _, .non, _ => .non
  | _, _, .bl x, _ => .bl x
  | _, _, .int i, _ => .int i
  | _, _, .str x, _ => .str x
  | _, _, .lst _ _ _ _, k => k.elim
  | _, _, .dct _ _ _ _, k => k.elim
  | _, _, .tup e _ h, k => .tup e (fun z => by
      rw [z, hb] at e
      cases e) (DqAll.offB hb h k)
theorem DqAll.offB {H : Hp} {x b : Addr} {bs : List V} (hb : H b = some (.lst bs)) : ∀ {v : List V} {d : List PyData}, DqAll H x v d → noLs d → DqAll H b v d
  | _, _, .nil, _ => .nil
  | _, _, .cons h t, k => .cons (Dq.offB hb h k.1) (DqAll.offB hb t k.2)
end
theorem dq_strs {H : Hp} {b : Addr} : ∀ zs : List Str, DqAll H b (zs.map V.str) (zs.map PyData.str)
  | [] => .nil
  | z :: zs => .cons (.str z) (dq_strs zs)
theorem dq_kin {H : Hp} {b a : Addr} {ks : List (Str × Str)} (e : H a = some (.dK (kinV ks))) (n : a ≠ b) : Dq H b (.ref a) (.dict (ks.map fun p => (.str p.1, .str p.2))) := by
  refine .dct e n ?_ ?_
  · unfold kinV
    rw [List.map_map, List.map_map]
    have := dq_strs (H := H) (b := b) (ks.map (·.1))
    rw [List.map_map, List.map_map] at this
    exact this
  · unfold kinV
    rw [List.map_map, List.map_map]
    have := dq_strs (H := H) (b := b) (ks.map (·.2))
    rw [List.map_map, List.map_map] at this
    exact this
theorem merge_app : ∀ (kvs acc : List (Key × V)), ((acc ++ kvs).map (·.1)).Nodup → mergeK acc kvs = acc ++ kvs
  | [], acc, _ => by
    rw [List.append_nil]
    rfl
  | (k, v) :: kvs, acc, h => by
    have hk : k ∉ acc.map (·.1) := by
      intro hm
      rw [List.map_append, List.nodup_append] at h
      exact h.2.2 k hm k List.mem_cons_self rfl
    show mergeK (putK acc k v) kvs = _
    rw [putK_new hk, merge_app kvs (acc ++ [(k, v)]) (by rw [List.append_assoc]; exact h), List.append_assoc]
    rfl
theorem merge_same {kvs : List (Key × V)} (h : (kvs.map (·.1)).Nodup) : mergeK [] kvs = kvs := merge_app kvs [] h
theorem Paired.snoc' {α β : Type} {R : α → β → Prop} {x : α} {y : β} (h : R x y) : ∀ {xs : List α} {ys : List β}, Paired R xs ys → Paired R (xs ++ [x]) (ys ++ [y])
  | _, _, .nil => .cons h .nil
  | _, _, .cons a t => .cons a (Paired.snoc' h t)
theorem Paired.imp' {α β : Type} {R S : α → β → Prop} (k : ∀ x y, R x y → S x y) : ∀ {xs : List α} {ys : List β}, Paired R xs ys → Paired S xs ys
  | _, _, .nil => .nil
  | _, _, .cons a t => .cons (k _ _ a) (Paired.imp' k t)
/-- the four errors -/
structure Errs4 (K : PySem.W.Frag) (mg : Str → Option Value) (CW CN CP CK AE : Addr) : Prop where
  gA : mg "ApartError" = some (.ref AE)
  gW : mg "Wrong" = some (.ref CW)
  gN : mg "NoName" = some (.ref CN)
  gP : mg "NoPlace" = some (.ref CP)
  gK : mg "BadKind" = some (.ref CK)
  eW : ExcC K CW
  eN : ExcC K CN
  eP : ExcC K CP
  eK : ExcC K CK
  nW : PySem.W.findIn K (.ref CW) "place" = some none
  nN : PySem.W.findIn K (.ref CN) "name" = some none
  nP : PySem.W.findIn K (.ref CP) "place" = some none
  nK : PySem.W.findIn K (.ref CK) "name" = some none
  mW : PySem.W.exmOne K (.ref CW) (.ref AE) = some true
  mN : PySem.W.exmOne K (.ref CN) (.ref AE) = some true
  mP : PySem.W.exmOne K (.ref CP) (.ref AE) = some true
  mK : PySem.W.exmOne K (.ref CK) (.ref AE) = some true
  ww : PySem.W.kitOne K (.ref CW) (.ref CW) = some true
  nw : PySem.W.kitOne K (.ref CN) (.ref CW) = some false
  nn : PySem.W.kitOne K (.ref CN) (.ref CN) = some true
  pw : PySem.W.kitOne K (.ref CP) (.ref CW) = some false
  pn : PySem.W.kitOne K (.ref CP) (.ref CN) = some false
  pp : PySem.W.kitOne K (.ref CP) (.ref CP) = some true
  kw : PySem.W.kitOne K (.ref CK) (.ref CW) = some false
  kn : PySem.W.kitOne K (.ref CK) (.ref CN) = some false
  kp : PySem.W.kitOne K (.ref CK) (.ref CP) = some false
  kk : PySem.W.kitOne K (.ref CK) (.ref CK) = some true
/-- what is told of five arguments -/
noncomputable def outD (bs : List Bool) (ks : List (Str × Str)) (zs rs : List Str) (n : Int) (ws : List PyData) : PyData :=
  match bs.findIdx? (fun t => !t) with
  | some m => .tuple [.str "wrong", .int m]
  | none => match missO ks zs rs ws with
    | some z => .tuple [.str "name", .str z]
    | none => match placeO n ws with
      | some z => .tuple [.str "place", .int z]
      | none => match badO ks ws with
        | some z => .tuple [.str "kind", .str z.2.1]
        | none => .tuple [.str "told", .dict ((kinS ks).map fun p => (.str p.1, .str p.2)), .tuple (zs.map .str), .tuple (rs.map .str), .int n, .list ws]
theorem first_idx {bs : List Bool} {m : Nat} (h : FirstNo bs m) : bs.findIdx? (fun t => !t) = some m := by
  obtain ⟨h1, h2⟩ := h
  have hm := (List.getElem?_eq_some_iff.mp h1).1
  have em := (List.getElem?_eq_some_iff.mp h1).2
  rw [List.findIdx?_eq_some_iff_getElem]
  refine ⟨hm, by rw [em]; rfl, fun j hj => ?_⟩
  have := h2 j hj
  have ej := (List.getElem?_eq_some_iff.mp this).2
  rw [ej]
  decide
theorem all_idx {bs : List Bool} (h : bs.all id = true) : bs.findIdx? (fun t => !t) = none := by
  rw [List.findIdx?_eq_none_iff]
  intro t ht
  have := List.all_eq_true.mp h t ht
  have e : t = true := this
  rw [e]
  rfl
theorem ways_noL {d4 : PyData} (h : waysD d4 = true) : noLs ((itemsD d4).map wayF) := by
  refine noLs_all fun e he => ?_
  obtain ⟨e0, h0, rfl⟩ := List.mem_map.mp he
  obtain ⟨i, j, s, _, hie, _, _, hst⟩ := way_shape ((ways_all h).2 e0 h0)
  rw [wayF_of hie]
  exact ⟨True.intro, True.intro, st_noL (frozen_st hst) (frozen_frozen s), True.intro⟩
def spTold (C : Addr) : Sp := fun vs H Q _ => ∃ (f b : Addr) (bs : List V) (v0 v1 v2 v3 v4 : V) (d0 : PyData) (r1 r2 r3 r4 : Bool) (ks : List (Str × Str)) (zs rs : List Str) (n : Int) (d4 : PyData), vs = [.ref f] ∧ H b = some (.lst bs) ∧ H f = some (.lst [v0, v1, v2, v3, v4]) ∧
  KOk C H b v0 d0 ∧ ArgN C H b namesD v1 r1 ∧ ArgN C H b namesD v2 r2 ∧ ArgN C H b posD v3 r3 ∧ ArgN C H b waysD v4 r4 ∧ ([kindsD d0, r1, r2, r3, r4].all id = true → FiveV H b v0 v1 v2 v3 v4 ks zs rs n d4 ∧ ∀ p ∈ ks, nameS p.1 = true) ∧
  ∀ H' p, Same H H' → Dq H' b (.ref p) (outD [kindsD d0, r1, r2, r3, r4] ks zs rs n ((itemsD d4).map wayF)) → Q (.ref p) H'
end Fv


set_option Elab.async false
set_option linter.all false
set_option maxRecDepth 100000
set_option maxHeartbeats 1000000
/-! own rule: for (x, y), c in d.items() over a dict whose keys are tuples (locked) -/
namespace Fv
open PySem PySem.Spec PyProof.Rows L2
/-- at each turn a new pair of the key's own tuple and the value -/
def Itit (d : Addr) (o : Obj) (kvs : List (List Key × V)) : It where
  go i G := G d = some (.frz o (.dT kvs)) ∧ i < kvs.length
  yld i G u G2 := ∃ (N kq : Addr) (kk : List Key) (val : V), kvs[i]? = some (kk, val) ∧ u = .ref N ∧ G N = none ∧ G kq = some (.tup (kk.map kV)) ∧ G2 = upd G N (.tup [.ref kq, val])
  stop i G := G d = some (.frz o (.dT kvs)) ∧ kvs.length ≤ i
section
variable {X : Cx} {pins : List (Addr × Obj)} {σ : L2.St} {H : Hp} {s : Shared} {d : Addr} {o : Obj}
theorem frzV {kvs : List (List Key × V)} (I : Inv X pins σ H s) (h : H d = some (.frz o (.dT kvs))) :
    (d == sysModules) = false ∧ ∃ (es : Array DictEntry) (ep : Nat), o.data = .dict es ep ∧ s.heap.DictRaw d es ep ∧ es.size = kvs.length ∧
      ∀ (i : Nat) (k : List Key) (v : V), kvs[i]? = some (k, v) → ∃ (en : DictEntry) (q : Addr), es[i]? = some en ∧ en.key = .ref q ∧ H q = some (.tup (k.map kV)) ∧ RelV v en.val := by
  obtain ⟨atd, _, notsys, rows, pairs, ob, es, ep, get, exact_, dat, ents, _⟩ := I.hok d _ h
  rw [atd] at get
  cases get
  refine ⟨notsys, es, ep, dat, ⟨_, atd, exact_, dat⟩, ?_, fun i k v e => ?_⟩
  · have a1 : es.size = rows.length := size_of_entries ents
    have a2 : kvs.length = rows.length := Paired.length pairs
    omega
  · obtain ⟨row, hrow, r1, r2, r3⟩ := L2.paired_get pairs e
    have at_i := entry_at ents i
    rw [hrow] at at_i
    exact ⟨_, row.2.1, at_i, rfl, r2, r3⟩
end
section
variable {P : Program} {w : World} {K : PySem.W.Frag} {d : Addr} {o : Obj} {es : Array DictEntry} {ep : Nat}
theorem turn_itemsT {kvs : List (List Key × V)} {parts : List Expr} {ctx : Nat} {at_ : Pos} (it : Addr) (hod : o.data = .dict es ep) :
    Turn P w K (.Tuple parts ctx at_) (Itit d o kvs) [it] it (fun i h => ∃ u v, IsItemIter h it d i kvs.length ep u v) where
  mem := by simp
  obj := fun i h st c hc => by
    obtain rfl : c = it := by simpa using hc
    obtain ⟨u, v, e⟩ := st
    exact ⟨_, e, fun _ z => nomatch z⟩
  keep := fun i h h' st k => by
    obtain ⟨u, v, e⟩ := st
    exact ⟨u, v, k it (by simp) _ e⟩
  item := by
    rintro X rfl rfl rfl calm i pins s σ H E I hf st ⟨atd, lt⟩
    obtain ⟨notsys, es2, ep2, dat, raw, size, ent⟩ := frzV I atd
    obtain ⟨rfl, rfl⟩ := dict_ep hod dat
    obtain ⟨⟨k, v⟩, hkv⟩ : ∃ e, kvs[i]? = some e := ⟨kvs[i], List.getElem?_eq_getElem lt⟩
    obtain ⟨en, q, hen, hkey, hq, hv⟩ := ent i k v hkv
    obtain ⟨u0, v0, he⟩ := st
    rw [← size] at he
    have small : it < s.heap.objs.size := Heap.lt_size he
    obtain ⟨hi, een⟩ := Array.getElem?_eq_some_iff.mp hen
    refine wpAny_pyNext_items_item_raw he raw hi fun h1 out tup sz old => ?_
    rw [een] at out tup
    rw [hkey] at out tup
    refine ⟨_, rfl, wpAny_letOwnedTupleGo_items (s := { s with heap := h1 }) out fun h2 inn but => ?_⟩
    have tup2 := (but.2 _ (Nat.ne_of_gt small)).trans tup
    have fresh : H s.heap.objs.size = none := I.hok.fresh (Nat.le_refl _)
    have obj_ : ObjOk X.prog X.w (upd H s.heap.objs.size (.tup [.ref q, v])) h2 s.heap.objs.size (.tup [.ref q, v]) :=
      ⟨by show 2 ≤ sizeLine; decide, [.ref q, en.val], .cons rfl (.cons hv .nil), ⟨_, tup2, rfl, _, rfl⟩⟩
    have inv2 : Inv X pins σ (upd H s.heap.objs.size (.tup [.ref q, v])) { s with heap := h2 } :=
      I.turnedNew (t' := s.toks) (ch := [it]) (fun c ob hc e => (but.2 c (by simpa using hc)).trans (old c ob (by simpa using hc) e)) hf (Nat.le_refl _) obj_
    refine ⟨.ref s.heap.objs.size, _, inv2, rfl, ⟨_, q, k, v, hkv, rfl, fresh, hq, rfl⟩, ⟨_, _, by rw [← size]; exact inn⟩, fun c hc => ?_⟩
    obtain rfl : c = it := by simpa using hc
    rw [upd_ne (Nat.ne_of_lt small)]
    exact (hf c (by simp)).1
  done := by
    rintro X rfl rfl rfl calm i pins s σ H E I hf st ⟨atd, le⟩
    obtain ⟨f0, f1, f2, f3, f4, f5⟩ := hf it (by simp)
    obtain ⟨notsys, es2, ep2, dat, raw, size, ent⟩ := frzV I atd
    obtain ⟨rfl, rfl⟩ := dict_ep hod dat
    obtain ⟨u0, v0, he⟩ := st
    rw [← size] at he
    exact wpAny_pyNext_items_end_raw (I.ok.hd calm) he raw (by omega) fun h1 eb => ⟨rfl, I.turned (t' := s.toks) (fun c ob hc e => eb c ob hc e) f0 f1 f3 f4 f5⟩
  self := fun A i s Q E st h => by
    obtain ⟨_, _, e⟩ := st
    exact PySem.W.kcp_self e h
end
def iItemsT (td : TE) : TI := fun σ H R => td σ H fun u G => ∃ d o kvs, u = .ref d ∧ G d = some (.frz o (.dT kvs)) ∧ R (Itit d o kvs) G
section
variable {X : Cx} {dict : Expr} {td : TE} {pa pc : Pos}
theorem pi_itemsT {parts : List Expr} {ctx : Nat} {at_ : Pos} (he : PE X dict td) (base : attributeBase dict "items" X.env (eval dict X.env) = eval dict X.env := by rfl) (line : (pa.endLine == pc.line) = true := by rfl) :
    PI X (.Tuple parts ctx at_) (.Call (.Attribute dict "items" pa) [] [] pc) (iItemsT td) := by
  constructor
  intro pins s σ H R I h
  refine wpAny_Call_method base rfl line F.plainAttrs_dict F.slot_dict_items F.type_dict_items (thn (he.run pins s σ H _ I h) ?_)
  rintro u s1 ⟨x, G, I1, rel, d, o, kvs, rfl, atd, more⟩
  obtain rfl : u = Value.ref d := rel
  obtain ⟨notsys, es, ep, dat, raw, size, ent⟩ := frzV I1 atd
  obtain ⟨ty_, nodict, _⟩ := isD_at I1 (.inr ⟨kvs, .inr ⟨o, atd⟩⟩)
  refine ⟨ty_, nodict, ?_⟩
  have up : ∀ (c : Addr) ob, s1.heap.get? c = some ob → (s1.heap.push { cls := .type "dict_items", data := .fields #[.ref d] }).get? c = some ob := fun c ob e => Heap.get?_push_of_some _ e
  have I2 : Inv X pins σ G { s1 with heap := s1.heap.push { cls := .type "dict_items", data := .fields #[.ref d] } } := I1.kept (t' := s1.toks) up
  have last : wpAny (model X.prog X.w) X.A (pyIter (.ref s1.heap.objs.size)) (PIE X pins σ (.Tuple parts ctx at_) R) X.xe { s1 with heap := s1.heap.push { cls := .type "dict_items", data := .fields #[.ref d] } } := by
    refine wpAny_pyIter_items_raw (d := d) (es := es) (ep := ep) ⟨_, Heap.get?_push_size _ rfl, rfl, rfl⟩ (raw.at (up d)) (pi_one (tk := s1.toks) I2 _ (turn_itemsT _ dat) ⟨.none, .none, ?_⟩ more)
    rw [← size]
    exact Heap.get?_push_size _ rfl
  show wpAny _ _ (callWith pc (.builtin "dict.items") [.ref d] [] []) _ X.xe s1
  exact method_meetsIn F.slot_dict_items F.entry_dict_items rfl (PySem.evalArgs_none ⟨rfl, ty_, F.args_dict_items_1 _, _, meets_dict_items_raw d notsys, ⟨es, ep, raw⟩, last⟩)
theorem walk_itemsT {d : Addr} {o : Obj} {kvs : List (List Key × V)} : Walk (Itit d o kvs) kvs.length (fun G => G d = some (.frz o (.dT kvs)))
    (fun i G u G2 => ∃ (N kq : Addr) (kk : List Key) (val : V), kvs[i]? = some (kk, val) ∧ u = .ref N ∧ G N = none ∧ G kq = some (.tup (kk.map kV)) ∧ G2 = upd G N (.tup [.ref kq, val])) :=
  ⟨fun _ _ lt e => ⟨e, lt⟩, fun _ e => ⟨e, Nat.le_refl _⟩, fun _ _ _ _ _ _ e => e⟩
end
end Fv


set_option Elab.async false
set_option linter.all false
set_option maxRecDepth 100000
set_option maxHeartbeats 2000000
/-! & of two sets of texts -/
namespace Fv
open PySem PySem.Spec PyProof.Rows L2
section
variable {P : Program} {w : World} {A : Around} {E : Value → Shared → Prop} {s : Shared}
theorem quiet_ok {sets : List Addr} {Q : Bool → Shared → Prop} (h : ∀ a ∈ sets, ∃ L, TxtS P w s.heap a L) (q : Q true s) : wpAny (model P w) A (setsQuiet sets) Q E s := by
  unfold setsQuiet
  refine wpAny_bind (wpAny_forIn_list _ (fun rest b s' => b = (none, ()) ∧ s' = s ∧ ∀ a ∈ rest, ∃ L, TxtS P w s.heap a L) _ ?_ ?_ _ _ ⟨rfl, rfl, h⟩)
  · rintro a rest b s' ⟨rfl, rfl, hr⟩
    obtain ⟨L, o, es, ep, t, T⟩ := hr a List.mem_cons_self
    unfold setEntries
    refine wpAny_bind (wpAny_bind (wpAny_setState_of T.get T.data T.fit (wpAny_pure ?_)))
    dsimp only
    refine wpAny_bind (wpAny_forIn_array' _ (fun rest b s2 => b = (none, ()) ∧ s2 = s' ∧ ∀ e ∈ rest, TxE P w e) _ ?_ ?_ _ _ ⟨rfl, rfl, T.good⟩)
    · rintro ⟨n, x⟩ rest2 b s2 ⟨rfl, rfl, he⟩
      obtain ⟨k, tk, hx, _⟩ := he _ List.mem_cons_self
      dsimp only at hx
      subst hx
      exact wpAny_pure ⟨rfl, rfl, fun e m => he e (List.mem_cons_of_mem _ m)⟩
    · rintro b s2 ⟨rfl, rfl, _⟩
      exact wpAny_pure ⟨rfl, rfl, fun c m => hr c (List.mem_cons_of_mem _ m)⟩
  · rintro b s' ⟨rfl, rfl, _⟩
    exact wpAny_pure q
/-- a walk that is not drawn -/
theorem tx_walk {a : Addr} {L : List Str} {o : Obj} {es : Array (Int × Value)} {ep : Nat} {t : SetTable} {Q : Array (Int × Value) → Shared → Prop} (T : TxS P w s.heap a L o es ep t)
    (hd : w.params.followText "set-order" = true ∨ t.plain = true ∨ es.size ≤ 1) (q : ∀ fs, fs.toList.Perm es.toList → Q fs s) : wpAny (model P w) A (setWalk a) Q E s := by
  unfold setWalk
  refine wpAny_bind (wpAny_setState_of T.get T.data T.fit ?_)
  dsimp only
  refine wpAny_bind (wpAny_byText ?_)
  cases hb : w.params.followText "set-order" with
  | true =>
    refine wp_if_pos rfl (wpAny_bind (wpAny_askSetting (wpAny_pure ?_)))
    exact q _ (pick_perm (w.params.setOrder a ep) es)
  | false =>
    rw [hb] at hd
    have hd2 := hd.resolve_left (by simp)
    have led := T.led.resolve_left (by rw [hb]; simp)
    refine wp_if_neg Bool.false_ne_true ?_
    try refine wpAny_bind (wpAny_pure ?_)
    refine wp_if_neg (by
      show ¬ ((!t.plain && decide (es.size > 1)) = true)
      rcases hd2 with h | h
      · simp [h]
      · simp; intro _; omega) ?_
    try refine wpAny_bind (wpAny_pure ?_)
    refine wpAny_bind (wpAny_of_eq (a := ()) (by show (if (!t.led && decide (es.size > 1)) = true then unsupported _ else pure ()) = pure (); simp [led]) ?_)
    exact wpAny_pure (q es (List.Perm.refl _))
theorem tx_unseen {a b r : Addr} {L M : List Str} {N : List Str} {o : Obj} {es : Array (Int × Value)} {ep : Nat} {t : SetTable} {Q : Array (Int × Value) → Shared → Prop} (T : TxS P w s.heap a L o es ep t) (Rb : TxtS P w s.heap b M) (Rr : TxtS P w s.heap r N)
    (q : ∀ fs h', fs.toList.Perm es.toList → Heap.SameBut r s.heap h' → TxtS P w h' r N → Q fs { s with heap := h' }) : wpAny (model P w) A (setWalkUnseen a [b, r] (some r)) Q E s := by
  have q0 : ∀ fs, fs.toList.Perm es.toList → Q fs s := fun fs hp => q fs s.heap hp (Heap.SameBut.refl _ _) Rr
  unfold setWalkUnseen
  refine wpAny_bind (wpAny_setState_of T.get T.data T.fit ?_)
  dsimp only
  refine wpAny_bind (wpAny_byText ?_)
  by_cases hc : (w.params.followText "set-order" || t.led && t.plain || decide (es.size ≤ 1)) = true
  · rw [if_pos hc]
    refine tx_walk T ?_ q0
    simp only [Bool.or_eq_true, Bool.and_eq_true, decide_eq_true_eq] at hc
    rcases hc with (h | h) | h
    · exact .inl h
    · exact .inr (.inl h.2)
    · exact .inr (.inr h)
  · rw [if_neg hc]
    refine wpAny_bind (quiet_ok (fun c m => ?_) ?_)
    · simp only [List.mem_cons, List.not_mem_nil, or_false] at m
      rcases m with rfl | rfl | rfl
      · exact ⟨L, o, es, ep, t, T⟩
      · exact ⟨M, Rb⟩
      · exact ⟨N, Rr⟩
    have nb : w.params.followText "set-order" = false := by
      cases h : w.params.followText "set-order"
      · rfl
      · simp [h] at hc
    have led : t.led = true := T.led.resolve_left (by rw [nb]; simp)
    refine wp_if_neg (by simp) ?_
    refine wpAny_bind (wpAny_rule ?_)
    obtain ⟨o2, es2, ep2, t2, T2⟩ := id Rr
    refine wpAny_bind (wpAny_setState_of T2.get T2.data T2.fit ?_)
    dsimp only
    by_cases hd : (t2.led && !t.led || t2.plain && !t.plain) = true
    · rw [if_pos hd]
      have T3 := TxS.stored (P := P) (t' := { t2 with led := t2.led && t.led, plain := t2.plain && t.plain }) T2.get T2.ex T2.data T2.good T2.perm T2.nodup T2.few (by have := T2.fit; exact this) (by have := T2.ris; exact this) (.inr (by
        show (t2.led && t.led) = true
        rw [led, T2.led.resolve_left (by rw [nb]; simp)]
        rfl))
      exact wpAny_bind (wpAny_storeSet_of T2.get T2.data (wpAny_pure (q es _ (List.Perm.refl _) (Heap.SameBut.update _ _ _) ⟨_, _, _, _, T3⟩)) (fits_of_scanBound T2.few))
    · rw [if_neg hd]
      exact wpAny_pure (q0 es (List.Perm.refl _))
theorem TxtS.nodup {h : Heap} {a : Addr} {L : List Str} (R : TxtS P w h a L) : L.Nodup := by
  obtain ⟨o, es, ep, t, T⟩ := R
  exact T.nodup
theorem mem_insL {L : List Str} {k x : Str} : x ∈ insL L k ↔ x ∈ L ∨ x = k := by
  unfold insL
  split
  · rename_i h
    exact ⟨.inl, fun z => z.elim id fun e => e ▸ h⟩
  · rw [List.mem_append, List.mem_singleton]
theorem insL_le (L : List Str) (k : Str) : (insL L k).length ≤ L.length + 1 := by
  unfold insL
  split
  · omega
  · rw [List.length_append]
    exact Nat.le_refl _
/-- the turns -/
theorem meet_loop {id : String} {x y r : Addr} {W V : List Str} {o : Obj} {es fs : Array (Int × Value)} {ep : Nat} {t : SetTable} {Q : PUnit → Shared → Prop} (hx : x ≠ r) (hy : y ≠ r) (T : TxS P w s.heap x W o es ep t) (Ry : TxtS P w s.heap y V) (Rr : TxtS P w s.heap r [])
    (hp : fs.toList.Perm es.toList) (q : ∀ h' N, Heap.SameBut r s.heap h' → (∀ k, k ∈ N ↔ k ∈ V ∧ k ∈ W) → TxtS P w h' r N → Q ⟨⟩ { s with heap := h' }) :
    wpAny (model P w) A (forIn fs PUnit.unit fun z (_ : PUnit) =>
      match z with
      | (h, v) => do
        holding [v] do
            let f ← setFind y v h
            if f.isSome = true then do
                let _ ← setAddHashed r v h
                pure ()
              else pure ()
        Builtin.Frozenset.unchanged id x ep
        pure (ForInStep.yield PUnit.unit)) Q E s := by
  have good : ∀ e ∈ fs.toList, TxE P w e := fun e he => T.good e (hp.mem_iff.mp he)
  have pW : (fs.toList.map txtOf).Perm W := (hp.map txtOf).trans T.perm
  have few : fs.toList.length < scanBound := by rw [hp.length_eq, Array.length_toList]; exact T.few
  refine wpAny_forIn_array' _ (fun rest _ s' => ∃ (dn : List (Int × Value)) (N : List Str) (h' : Heap), dn ++ rest = fs.toList ∧ s' = { s with heap := h' } ∧ Heap.SameBut r s.heap h' ∧ TxtS P w h' r N ∧ N.length ≤ dn.length ∧ ∀ k, k ∈ N ↔ k ∈ V ∧ k ∈ dn.map txtOf) _ ?_ ?_ _ _
    ⟨[], [], s.heap, rfl, rfl, Heap.SameBut.refl _ _, Rr, Nat.le_refl _, fun k => by simp⟩
  · rintro ⟨h, v⟩ rest _ s' ⟨dn, N, h', e, rfl, sb, R, hl, hm⟩
    have hmem : (h, v) ∈ fs.toList := by rw [← e]; simp
    obtain ⟨k, tk, hv, hh⟩ := good _ hmem
    dsimp only at hv hh
    subst hv
    subst hh
    have Ry' : TxtS P w h' y V := Ry.at fun o e => (sb.2 y hy).trans e
    have Tx' : h'.get? x = some o := (sb.2 x hx).trans T.get
    have et : txtOf ((strKind P w).hash k, Value.str k tk) = k := rfl
    have hlen : dn.length + (rest.length + 1) = fs.toList.length := by rw [← e, List.length_append, List.length_cons]
    dsimp only
    have fin : ∀ {s2 : Shared} {N' : List Str} {h2 : Heap} {Post : ForInStep PUnit → Shared → Prop}, s2 = { s with heap := h2 } → Heap.SameBut r s.heap h2 → TxtS P w h2 r N' → N'.length ≤ dn.length + 1 → (∀ z, z ∈ N' ↔ z ∈ V ∧ (z ∈ dn.map txtOf ∨ z = k)) →
        ((∃ (dn : List (Int × Value)) (N : List Str) (h' : Heap), dn ++ rest = fs.toList ∧ s2 = { s with heap := h' } ∧ Heap.SameBut r s.heap h' ∧ TxtS P w h' r N ∧ N.length ≤ dn.length ∧ ∀ k, k ∈ N ↔ k ∈ V ∧ k ∈ dn.map txtOf) → Post (.yield PUnit.unit) s2) →
        wpAny (model P w) A (do
          Builtin.Frozenset.unchanged id x ep
          pure (ForInStep.yield PUnit.unit)) Post E s2 := fun {s2 N' h2 Post} e2 sb2 R2 l2 m2 post => by
      subst e2
      unfold Builtin.Frozenset.unchanged
      refine wpAny_bind (wpAny_bind (wpAny_setEpoch_of ((sb2.2 x hx).trans T.get) T.data T.fit ?_))
      refine wp_if_neg (by simp) (wpAny_pure (wpAny_pure (post ?_)))
      refine ⟨dn ++ [((strKind P w).hash k, Value.str k tk)], N', h2, by rw [← e, List.append_assoc]; rfl, rfl, sb2, R2, by rw [List.length_append]; exact l2, fun z => ?_⟩
      rw [m2, List.map_append, List.mem_append, List.map_cons, List.map_nil, List.mem_singleton, et]
    refine wpAny_bind (wpAny_holding (wpAny_bind (wpAny_setFind_of (knd := strKind P w) (k := k) (strKind_is _ _ _ _) rfl Ry'.setOf fun f hf => ?_)))
    by_cases hk : k ∈ V
    · have f1 : f.isSome = true := by rw [hf, decide_eq_true hk]
      rw [if_pos f1]
      refine wpAny_bind (tx_hashed (s := { s with heap := h' }) R (by omega) fun h2 sb2 R2 => wpAny_pure ?_)
      refine fin rfl (sb.trans sb2) R2 (Nat.le_trans (insL_le _ _) (by omega)) (fun z => ?_) fun q => q
      rw [mem_insL, hm]
      constructor
      · rintro (⟨a1, a2⟩ | rfl)
        · exact ⟨a1, .inl a2⟩
        · exact ⟨hk, .inr rfl⟩
      · rintro ⟨a1, a2 | rfl⟩
        · exact .inl ⟨a1, a2⟩
        · exact .inr rfl
    · have f1 : ¬ f.isSome = true := by rw [hf, decide_eq_false hk]; simp
      rw [if_neg f1]
      refine wpAny_pure (fin rfl sb R (by omega) (fun z => ?_) fun q => q)
      rw [hm]
      constructor
      · rintro ⟨a1, a2⟩
        exact ⟨a1, .inl a2⟩
      · rintro ⟨a1, a2 | rfl⟩
        · exact ⟨a1, a2⟩
        · exact absurd a1 hk
  · rintro _ s' ⟨dn, N, h', e, rfl, sb, R, hl, hm⟩
    rw [List.append_nil] at e
    subst e
    exact q h' N sb (fun k => by rw [hm, pW.mem_iff]) R
/-- what is in both -/
theorem tx_meetL {a b : Addr} {L M : List Str} {Q : Value → Shared → Prop} (hne : a ≠ b) (Ra : TxtS P w s.heap a L) (Rb : TxtS P w s.heap b M)
    (hQ : ∀ h' N, N.Nodup → (∀ k, k ∈ N ↔ k ∈ L ∧ k ∈ M) → TxtS P w h' s.heap.objs.size N → (∀ c u, s.heap.get? c = some u → h'.get? c = some u) → Q (.ref s.heap.objs.size) { s with heap := h' }) :
    wpAny (model P w) A (binaryOp .BitAnd (.ref a) (.ref b)) Q E s := by
  obtain ⟨oa, ea, pa, ta, Ta⟩ := Ra
  obtain ⟨ob, eb, pb, tb, Tb⟩ := Rb
  have ya : s.TypeIs (.ref a) "set" := ⟨oa, Ta.get, Ta.ex.1⟩
  have yb : s.TypeIs (.ref b) "set" := ⟨ob, Tb.get, Tb.ex.1⟩
  refine wpAny_binaryOp_same ya yb F.fills_set_and F.slot_set_and (wpAny_call_entry F.slot_set_and ya entry_set_meet ?_ (F.args_set_and_2 _ _))
  show wpAny (model P w) A.in1 (do
    let (self, other) ← Builtin.Frozenset.slot1 "__and__" _
    let (l, r) := if false then (other, self) else (self, other)
    if !(← (Builtin.Frozenset.isAnySet l <&&> Builtin.Frozenset.isAnySet r)) then rule _; return ← ret .notImplemented
    ret (← Builtin.Frozenset.intersection _ (← Builtin.Frozenset.addrOf l) r)) _ _ s
  refine wpAny_bind (m := Builtin.Frozenset.slot1 _ _) (wpAny_of_eq (a := (Value.ref a, Value.ref b)) (by rfl) ?_)
  dsimp only
  refine wpAny_bind (wpAny_bind (any_set ya (any_set yb ?_)))
  refine wp_if_neg (by simp) ?_
  try refine wpAny_bind (wpAny_pure ?_)
  show wpAny (model P w) A.in1 (Builtin.Frozenset.intersection _ a (.ref b) >>= fun v => ret v) _ _ s
  refine wpAny_bind ?_
  unfold Builtin.Frozenset.intersection
  refine wp_if_neg (by simp [Ne.symm hne]) ?_
  try refine wpAny_bind (wpAny_pure ?_)
  unfold Builtin.Frozenset.baseOf
  refine wpAny_bind (wpAny_bind (wpAny_isInstance (b := true) ya sub_set_self (wpAny_pure ?_)))
  refine wpAny_bind (PpSet.newSet_ok ?_)
  have nw := tx_fresh (P := P) (w := w) (h := s.heap)
  have kp : ∀ c u, s.heap.get? c = some u → (s.heap.push { cls := .type "set", dict := none, data := .set #[] 0 (.fresh 0 0 (!w.params.followText "set-order")) }).get? c = some u := fun c u e => Heap.get?_push_of_some _ e
  have Ta' := { Ta with get := kp _ _ Ta.get }
  have Tb' := { Tb with get := kp _ _ Tb.get }
  have aN : a ≠ s.heap.objs.size := Nat.ne_of_lt (Heap.lt_size Ta.get)
  have bN : b ≠ s.heap.objs.size := Nat.ne_of_lt (Heap.lt_size Tb.get)
  unfold Builtin.Frozenset.addrOf
  refine wpAny_bind (wpAny_pure (wpAny_bind (wpAny_holding (wpAny_bind (any_set (a := b) ⟨ob, Tb'.get, Tb.ex.1⟩ (wp_if_pos rfl (wpAny_bind (wpAny_pure ?_))))))))
  unfold Builtin.Frozenset.sizeOf
  refine wpAny_bind (wpAny_bind (wpAny_setEntries_of Tb'.get Tb.data Tb.fit (wpAny_pure ?_)))
  refine wpAny_bind (wpAny_bind (wpAny_setEntries_of Ta'.get Ta.data Ta.fit (wpAny_pure ?_)))
  have go : ∀ {x y : Addr} {W V : List Str} {o : Obj} {es : Array (Int × Value)} {ep : Nat} {t : SetTable} {h0 : Heap} {s0 : Shared}, s0 = { s with heap := h0 } → (∀ c u, s.heap.get? c = some u → h0.get? c = some u) → x ≠ s.heap.objs.size → y ≠ s.heap.objs.size → TxS P w h0 x W o es ep t → TxtS P w h0 y V → TxtS P w h0 s.heap.objs.size [] →
      (∀ k, k ∈ W ∧ k ∈ V ↔ k ∈ L ∧ k ∈ M) → wpAny (model P w) A.in1 (do
      let was ← setEpoch x
      let fs ← setWalkUnseen x [y, s.heap.objs.size] (some s.heap.objs.size)
      forIn fs PUnit.unit fun z (_ : PUnit) =>
        match z with
        | (h, v) => do
          holding [v] do
              let f ← setFind y v h
              if f.isSome = true then do
                  let _ ← setAddHashed s.heap.objs.size v h
                  pure ()
                else pure ()
          Builtin.Frozenset.unchanged (toString "frozenset." ++ toString "__and__") x was
          pure (ForInStep.yield PUnit.unit)
      pure ()) (fun a s' =>
      wpAny (model P w) A.in1 (pure (Value.ref s.heap.objs.size))
        (fun a s' =>
          wpAny (model P w) A.in1 (ret a)
            (fun fin s' => ∃ v, fin = Fin.done (Flow.ret v) ∧ v ≠ Value.notImplemented ∧ Q v s') E s')
        E s')
    E s0 := fun {x y W V o es ep t h0 s0} es0 kp hx hy T Ry Rr hWV => by
    subst es0
    refine wpAny_bind (wpAny_setEpoch_of T.get T.data T.fit (wpAny_bind (tx_unseen T Ry Rr fun fs h1 hp sb R1 => ?_)))
    refine wpAny_bind (meet_loop (s := { s with heap := h1 }) hx hy { T with get := (sb.2 x hx).trans T.get } (Ry.at fun o e => (sb.2 y hy).trans e) R1 hp fun h2 N sb2 hN R2 => ?_)
    refine wpAny_pure (wpAny_pure (wpAny_pure ⟨_, rfl, by simp, hQ h2 N R2.nodup (fun k => by rw [hN, and_comm, hWV]) R2 fun c u e => ?_⟩))
    have cn : c ≠ s.heap.objs.size := Nat.ne_of_lt (Heap.lt_size e)
    exact (sb2.2 c cn).trans ((sb.2 c cn).trans (kp c u e))
  by_cases hz : eb.size > ea.size
  · rw [if_pos hz]
    exact go rfl kp aN bN Ta' ⟨_, _, _, _, Tb'⟩ nw fun k => Iff.rfl
  · rw [if_neg hz]
    exact go rfl kp bN aN Tb' ⟨_, _, _, _, Ta'⟩ nw fun k => and_comm
end
/-- & of two sets of texts: a new one, of what is in both -/
def rMeet (P : Program) (w : World) : R2 := fun x y H Q => ∃ a b L M, x = .ref a ∧ y = .ref b ∧ a ≠ b ∧ H a = some (TxtO P w a L) ∧ H b = some (TxtO P w b M) ∧ ∀ p N, N.Nodup → (∀ k, k ∈ N ↔ k ∈ L ∧ k ∈ M) → H p = none → Q (.ref p) (upd H p (TxtO P w p N))
theorem op_meet {X : Cx} : OpR X (binaryOp .BitAnd) (rMeet X.prog X.w) := by
  intro pins s σ H x y v u Q I rx ry h
  obtain ⟨a, b, L, M, rfl, rfl, ne, ha, hb, q⟩ := h
  cases rx
  cases ry
  refine tx_meetL ne (txtO_get I ha) (txtO_get I hb) fun h' N nd hN R k => ?_
  exact ⟨.ref _, _, I.laid (t' := s.toks) k (Nat.le_refl _) (txtO_new R), rfl, q _ N nd hN (I.hok.fresh (Nat.le_refl _))⟩
end Fv


set_option Elab.async false
set_option linter.all false
set_option maxRecDepth 100000
set_option maxHeartbeats 1000000
/-! walks of comprehensions of any body; things locked and unlocked -/
namespace Fv
open PySem PySem.Spec PyProof.Rows L2
theorem loop_it {J : It} {n : Nat} {G : Hp → Prop} {Y : Nat → Hp → V → Hp → Prop} (wk : Walk J n G Y) {B : (Hp → Prop) → V → Hp → Prop} {H0 : Hp} {Qd : Hp → Prop} (Pv : Nat → Hp → Prop) (h0 : Pv 0 H0) (hG : ∀ i H, i ≤ n → Pv i H → G H)
    (hs : ∀ i x H H', i < n → Pv i H → Y i H x H' → B (Pv (i + 1)) x H') (hd : ∀ H, Pv n H → Qd H) :
    ∃ W : Nat → Nat → Hp → Prop, (∃ m, W 0 m H0) ∧ ∀ i m H, W i m H →
      (J.stop i H ∧ Qd H) ∨ (J.go i H ∧ ∃ Nx : Hp → Prop, (∀ H', Nx H' → ∃ m', m' < m ∧ W (i + 1) m' H') ∧ ∀ x H', J.yld i H x H' → B Nx x H') := by
  refine ⟨fun i m H => m + i = n ∧ Pv i H, ⟨n, rfl, h0⟩, fun i m H ⟨hm, p⟩ => ?_⟩
  rcases Nat.lt_or_ge i n with hlt | hge
  · exact .inr ⟨wk.goes i H hlt (hG i H (Nat.le_of_lt hlt) p), Pv (i + 1), fun H' p' => ⟨n - (i + 1), by omega, by omega, p'⟩, fun x H' y => hs i x H H' hlt p (wk.yields i H x H' hlt (hG i H (Nat.le_of_lt hlt) p) y)⟩
  · obtain rfl : i = n := by omega
    exact .inl ⟨wk.stops H (hG i H hge p), hd H p⟩
theorem unlock {H H' : Hp} {q : Addr} {u : HO} {od : Obj} (e : H q = some u) (s : Same (upd H q (.frz od u)) H') : Same H (upd H' q u) := fun c o ec => by
  by_cases z : c = q
  · subst z
    rw [upd_same, ← ec, e]
  · rw [upd_ne z]
    exact s c o (by rw [upd_ne z]; exact ec)
theorem locked_new {H : Hp} {q D : Addr} {u : HO} (n : (upd H q u) D = none) : D ≠ q ∧ H D = none := by
  have h : D ≠ q := fun z => by
    rw [z, upd_same] at n
    cases n
  exact ⟨h, by rwa [upd_ne h] at n⟩
theorem set_wipe {σ : L2.St} {i : Nat} {x : Option V} : ∀ {vs : List Nat}, i ∈ vs → wipe (σ.set i x) vs = wipe σ vs
  | v :: vs, h => by
    show (wipe (σ.set i x) vs).set v none = (wipe σ vs).set v none
    by_cases hv : i ∈ vs
    · rw [set_wipe hv]
    · have e : i = v := by
        rcases List.mem_cons.mp h with e | e
        · exact e
        · exact absurd e hv
      subst e
      have key : ∀ (us : List Nat), i ∉ us → wipe (σ.set i x) us = (wipe σ us).set i x := by
        intro us
        induction us with
        | nil => intro _; rfl
        | cons u us ih =>
          intro n
          have n1 : i ≠ u := fun z => n (by rw [z]; exact List.mem_cons_self)
          show (wipe (σ.set i x) us).set u none = ((wipe σ us).set u none).set i x
          rw [ih fun z => n (List.mem_cons_of_mem _ z), List.set_comm _ _ n1]
      rw [key vs hv, List.set_set]
theorem wipe_twice {σ : L2.St} : ∀ {us vs : List Nat}, (∀ u ∈ us, u ∈ vs) → wipe (wipe σ us) vs = wipe σ vs
  | [], _, _ => rfl
  | u :: us, vs, h => by
    show wipe ((wipe σ us).set u none) vs = _
    rw [set_wipe (h u List.mem_cons_self), wipe_twice fun z hz => h z (List.mem_cons_of_mem _ hz)]
/-- the names of the block are as before, step by step -/
theorem wp1 {σ τ : L2.St} {i : Nat} {x : Option V} {vs : List Nat} (e : wipe σ vs = τ) (h : i ∈ vs := by decide) : wipe (σ.set i x) vs = τ := (set_wipe h).trans e
theorem wp0 {σ : L2.St} {vs : List Nat} : wipe (wipe σ vs) vs = wipe σ vs := wipe_twice fun _ h => h
end Fv


set_option Elab.async false
set_option linter.all false
set_option maxRecDepth 100000
set_option maxHeartbeats 4000000
namespace Fv
open PySem PySem.Spec PyProof.Rows L2
theorem at_val {kvs : List (Key × V)} (nd : (kvs.map (·.1)).Nodup) {i : Nat} {k : Key} {x : V} (h : kvs[i]? = some (k, x)) : valV kvs k = some x := by
  induction kvs generalizing i with
  | nil => cases h
  | cons p kvs ih =>
    rw [List.map_cons, List.nodup_cons] at nd
    cases i with
    | zero =>
      cases h
      exact valV_pos rfl
    | succ i =>
      have h : kvs[i]? = some (k, x) := h
      have ne : ¬ p.1 = k := fun e => nd.1 (by
        rw [e]
        exact List.mem_map.mpr ⟨(k, x), List.mem_of_getElem? h, rfl⟩)
      rw [valV_neg ne]
      exact ih nd.2 h
theorem kinV_nd {ks : List (Str × Str)} (h : (ks.map (·.1)).Nodup) : ((kinV ks).map (·.1)).Nodup := by
  unfold kinV
  rw [List.map_map]
  have e : ((fun x : Key × V => x.1) ∘ fun p : Str × Str => ((Sum.inr p.1 : Key), V.str p.2)) = (fun z : Str => (Sum.inr z : Key)) ∘ fun p : Str × Str => p.1 := rfl
  rw [e, ← List.map_map]
  exact List.Pairwise.map _ (fun a b h e => h (Sum.inr.inj e)) h
/-! ### what a Procedure tells: kind, uppers, lowers, way, out, len -/
abbrev sPu : Stmt := inClass (top 34) 7
abbrev sPl : Stmt := inClass (top 34) 8
abbrev sPy : Stmt := inClass (top 34) 10
abbrev sPo : Stmt := inClass (top 34) 11
abbrev sPlen : Stmt := inClass (top 34) 16
def spKindA (C CN : Addr) : Sp := fun vs H Q E => ∃ (x dx : Addr) (ks : List (Str × Str)) (zs rs : List Str) (n : Int) (ws : List PyData) (z : Str), vs = [.ref x, .str z] ∧ ProcAt C H x dx ks zs rs n ws ∧ (z = "" ∨ nameS z = true) ∧
  (z = "" → Q (.str "plain") H) ∧ (nameS z = true → kinOf ks z = true → ∀ H', Same H H' → Q (.str (kfOf ks z)) H') ∧
  (nameS z = true → kinOf ks z = false → ∀ (H1 : Hp) (d : Addr), Same H H1 → H1 d = none → E (.ref CN) (some d) (upd H1 d (.xd [("name", .str z)])))
/-- the sources that are not of the kind k -/
def butK (ks : List (Str × Str)) (k : Str) : List Str := "" :: ((ks.filter fun p => !decide (p.2 = k)).map (·.1))
def spBut (C : Addr) (k : Str) : Sp := fun vs H Q _ => ∃ (x dx : Addr) (ks : List (Str × Str)) (zs rs : List Str) (n : Int) (ws : List PyData), vs = [.ref x] ∧ ProcAt C H x dx ks zs rs n ws ∧ (ks.map (·.1)).Nodup ∧ ks.length ≤ 50 ∧
  ∀ H' p, Same H H' → H p = none → p ≠ sysModules → H' p = some (.lst ((butK ks k).map V.str)) → Q (.ref p) H'
def spWayA (C CE : Addr) : Sp := fun vs H Q E => ∃ (x dx kd pp rr wv : Addr) (xs : List V) (ks : List (Str × Str)) (zs rs : List Str) (n : Int) (ws : List PyData) (i : Int), vs = [.ref x, .int i] ∧ ProcW C H x dx kd pp rr wv xs ks zs rs n ws ∧
  (∀ j : Nat, i = (j : Int) → ∀ v, xs[j]? = some v → Q v H) ∧
  ((i < 0 ∨ (ws.length : Int) ≤ i) → ∀ (H1 : Hp) (d : Addr), Same H H1 → H1 d = none → E (.ref CE) (some d) (upd H1 d (.xd [("index", .int i)])))
/-- the ways that begin there -/
def outI (ws : List PyData) (i : Int) (m : Nat) : List Int := (List.range m).filterMap fun (j : Nat) => match ws[j]? with
  | some (PyData.tuple (PyData.int a :: _)) => if a = i then some (j : Int) else none
  | _ => none
def spOutA (C CE : Addr) : Sp := fun vs H Q E => ∃ (x dx kd pp rr wv : Addr) (xs : List V) (ks : List (Str × Str)) (zs rs : List Str) (n : Int) (ws : List PyData) (i : Int), vs = [.ref x, .int i] ∧ ProcW C H x dx kd pp rr wv xs ks zs rs n ws ∧ WaysF ws ∧ ws.length ≤ 50 ∧
  (0 ≤ i → i < n → ∀ H' p, Same H H' → H p = none → p ≠ sysModules → H' p = some (.lst ((outI ws i ws.length).map V.int)) → Q (.ref p) H') ∧
  ((i < 0 ∨ n ≤ i) → ∀ (H1 : Hp) (d : Addr), Same H H1 → H1 d = none → E (.ref CE) (some d) (upd H1 d (.xd [("place", .int i)])))
def spLenP (C : Addr) : Sp := fun vs H Q _ => ∃ (x dx : Addr) (ks : List (Str × Str)) (zs rs : List Str) (n : Int) (ws : List PyData), vs = [.ref x] ∧ ProcAt C H x dx ks zs rs n ws ∧ Q (.int (ws.length : Nat)) H
section
variable {P : Program} {w : World} {K : PySem.W.Frag} {mg : Str → Option Value} {base : Heap} {C CE : Addr}
theorem ok_kindA {f fN : Addr} {fd fdN : FuncData} (T : ProcC K C) (F : Fun K "kind" "Procedure.kind" sPk f fd) (O : Own1 P w K mg base "NoName" "name" CE)
    (GN : FnOk P w K mg base CX0 1 fN fdN ["thing"] (spX C nameD)) (bN : Binds K fdN ["thing"] []) (mN : mg "is_name" = some (.ref fN)) (kN : PySem.W.keepIn K (.ref fN) = true) : FnOk P w K mg base (L2.CX P w) 3 f fd ["self", "source"] (spKindA C CE) := by
  refine F.okX scPk (fun vs H Q E h => ?_) (fun cdv A outer s H vs Q E hr h => ?_)
  · obtain ⟨x, dx, ks, zs, rs, n, ws, z, rfl, _⟩ := h
    rfl
  · obtain ⟨x, dx, ks, zs, rs, n, ws, z, rfl, ⟨kd, pp, rr, wv, xs, hx, hk, _⟩, hz, q0, q1, qE⟩ := h
    have hu := hu_of hr
    have hr1 : Room 1 _ := hr.mono (by decide)
    have hr2 : Room 2 _ := hr.mono (by decide)
    refine ⟨_, pss_cons (ps_if (pt_cmpR op_eq (pv 1) pe_str (nomark _)) (pss_one (ps_ret pe_str)) pss_nil)
      (pss_cons (ps_if (PW.pt (pw_or (pt_not (pt_val (pe_call GN hr1 (by rfl) mN kN bN .nil pass0 (pa_cons (pv 1) pa_nil)))) (pw_or1 (pt_cmp (pc_dnotin hu (pv 1) (pe_fld (pv 0) rfl))))))
        (pss_one (ps_raise (W := fun cls d _ H => E cls d H) rfl (takes_of rfl rfl rfl rfl) (pmk1 O hr2 (by rfl) (pa_cons (pv 1) pa_nil)))) pss_nil)
      (pss_one (ps_ret (pe_dget hu (pe_fld (pv 0) rfl) (pv 1) (fun _ _ => rfl))))), ?_⟩
    refine ⟨_, rfl, rfl, _, rfl, ?_⟩
    rcases hz with rfl | hz
    · exact iteT (q0 rfl)
    have hne : ¬ z = "" := fun e => by
      subst e
      cases hz
    have asc_ : okD (.str z) := (nm_of hz).ok
    rw [show decide (V.str z = V.str "") = false from by rw [str_dec]; exact decide_eq_false hne]
    refine iteF ⟨_, rfl, x, .str z, .str z, rfl, .str z, asc_, ⟨_, hx⟩, fun H1 s1 => ⟨_, rfl, ?_⟩⟩
    rw [show nameD (.str z) = true from hz]
    cases hi : kinOf ks z with
    | true =>
      have gz : valV (kinV ks) (Sum.inr z) = some (.str (kfOf ks z)) := kin_some hi
      have eD : DGet H1 kd (.str z) (some (.str (kfOf ks z))) := gz ▸ DGet.k (k := Sum.inr z) (s1 _ _ hk)
      refine iteF ⟨_, rfl, _, rfl, x, C, dx, _, _, rfl, s1 _ _ hx, T.cl, T.n1, lk1, kd, _, rfl, eD, _, rfl, iteF ?_⟩
      exact ⟨_, rfl, x, C, dx, _, _, rfl, s1 _ _ hx, T.cl, T.n1, lk1, _, rfl, kd, _, rfl, eD, q1 hz hi H1 s1⟩
    | false =>
      have gz : valV (kinV ks) (Sum.inr z) = none := by
        have m := kin_missing ks z
        unfold missing at m
        rw [hi] at m
        cases e : valV (kinV ks) (Sum.inr z) with
        | none => rfl
        | some v => rw [e] at m; cases m
      have eD : DGet H1 kd (.str z) none := gz ▸ DGet.k (k := Sum.inr z) (s1 _ _ hk)
      refine iteF ⟨_, rfl, _, rfl, x, C, dx, _, _, rfl, s1 _ _ hx, T.cl, T.n1, lk1, kd, _, rfl, eD, _, rfl, iteT ?_⟩
      exact ⟨_, rfl, fun d nd => qE hz hi H1 d s1 nd⟩
theorem scPlen : FnScope ["self"] ["self"] (defScope sPlen) := ⟨rfl, rfl, rfl, by decide +kernel, rfl, by decide +kernel, by decide +kernel⟩
theorem ok_plen {f : Addr} {fd : FuncData} (T : ProcC K C) (F : Fun K "__len__" "Procedure.__len__" sPlen f fd) (ml : mg "len" = none) : FnOk P w K mg base CX0 1 f fd ["self"] (spLenP C) := by
  refine F.ok scPlen (fun vs H Q E h => ?_) (fun cdv A outer s H vs Q E hr h => ?_)
  · obtain ⟨x, dx, ks, zs, rs, n, ws, rfl, _⟩ := h
    rfl
  · obtain ⟨x, dx, ks, zs, rs, n, ws, rfl, ⟨kd, pp, rr, wv, xs, hx, hk, _, _, hw, hq⟩, q⟩ := h
    refine ⟨_, pss_one (ps_ret (pe_callB call_len_seq (by rfl) ml PySem.boot_len (pa_cons (pe_fld (pv 0) rfl) pa_nil))), ?_⟩
    refine ⟨_, rfl, x, C, dx, _, _, rfl, hx, T.cl, T.n5, lk5, wv, _, rfl, .inl (SqL.of hw), ?_⟩
    rw [hq.len]
    exact q
theorem scPy : FnScope ["self", "index"] ["self", "index"] (defScope sPy) := ⟨rfl, rfl, rfl, by decide +kernel, rfl, by decide +kernel, by decide +kernel⟩
theorem ok_way {f : Addr} {fd : FuncData} (T : ProcC K C) (F : Fun K "way" "Procedure.way" sPy f fd) (O : Own1 P w K mg base "NoWay" "index" CE) (ml : mg "len" = none) : FnOk P w K mg base (L2.CX P w) 3 f fd ["self", "index"] (spWayA C CE) := by
  refine F.okX scPy (fun vs H Q E h => ?_) (fun cdv A outer s H vs Q E hr h => ?_)
  · obtain ⟨_, _, _, _, _, _, _, _, _, _, _, _, _, rfl, _⟩ := h
    rfl
  · obtain ⟨x, dx, kd, pp, rr, wv, xs, ks, zs, rs, n, ws, i, rfl, PW_, q, qE⟩ := h
    have hr2 : Room 2 _ := hr.mono (by decide)
    refine ⟨_, pss_cons (ps_if (pt_not (pt_chain op_le op_lt pe_int (pv 1) (pe_callB call_len_seq (by rfl) ml PySem.boot_len (pa_cons (pe_fld (pv 0) rfl) pa_nil))))
        (pss_one (ps_raise (W := fun cls d _ H => E cls d H) rfl (takes_of rfl rfl rfl rfl) (pmk1 O hr2 (by rfl) (pa_cons (pv 1) pa_nil)))) pss_nil)
      (pss_one (ps_ret (pe_ix (r := rIxL K) ix_list (pe_fld (pv 0) rfl) (pv 1) (fun _ _ => rfl)))), ?_⟩
    have hl := PW_.hq.len
    have bad : ¬ (0 ≤ i ∧ i < (ws.length : Int)) → (i < 0 ∨ (ws.length : Int) ≤ i) := fun h => by omega
    refine ⟨_, rfl, _, _, rfl, rfl, _, rfl, ite2 (fun h0 => ?_) (fun h0 => ?_)⟩
    · have h0 := of_decide_eq_true h0
      refine ⟨_, rfl, x, C, dx, _, _, rfl, PW_.hx, T.cl, T.n5, lk5, wv, _, rfl, .inl (SqL.of PW_.hw), _, _, rfl, rfl, _, rfl, ?_⟩
      by_cases h1 : i < (ws.length : Int)
      · rw [hl, decide_eq_true h1]
        refine iteF ?_
        obtain ⟨j, rfl⟩ : ∃ j : Nat, i = (j : Int) := ⟨i.toNat, by omega⟩
        have hj : j < xs.length := by omega
        have ej := List.getElem?_eq_getElem hj
        exact ⟨_, rfl, x, C, dx, _, _, rfl, PW_.hx, T.cl, T.n5, lk5, _, rfl, wv, _, _, _, rfl, rfl, SqL.of PW_.hw, atI_nat ej, q j rfl _ ej⟩
      · rw [hl, decide_eq_false h1]
        exact iteT ⟨_, rfl, fun d nd => qE (bad fun h => h1 h.2) H d (fun _ _ e => e) nd⟩
    · have h0 : ¬ 0 ≤ i := fun h => h0 (decide_eq_true h)
      exact ⟨_, rfl, iteT ⟨_, rfl, fun d nd => qE (bad fun h => h0 h.1) H d (fun _ _ e => e) nd⟩⟩
theorem scPo : FnScope ["self", "place", "index", "way"] ["self", "place"] (defScope sPo) := ⟨rfl, rfl, rfl, by decide +kernel, rfl, by decide +kernel, by decide +kernel⟩
theorem ok_out {f : Addr} {fd : FuncData} (T : ProcC K C) (F : Fun K "out" "Procedure.out" sPo f fd) (O : Own1 P w K mg base "NoPlace" "place" CE) (me : mg "enumerate" = none) : FnOk P w K mg base (L2.CX P w) 3 f fd ["self", "place"] (spOutA C CE) := by
  refine F.okX scPo (fun vs H Q E h => ?_) (fun cdv A outer s H vs Q E hr h => ?_)
  · obtain ⟨_, _, _, _, _, _, _, _, _, _, _, _, _, rfl, _⟩ := h
    rfl
  · obtain ⟨x, dx, kd, pp, rr, wv, xs, ks, zs, rs, n, ws, i, rfl, PW_, wf, wl, q, qE⟩ := h
    have hr2 : Room 2 _ := hr.mono (by decide)
    refine ⟨_, pss_cons (ps_if (pt_not (pt_chain op_le op_lt pe_int (pv 1) (pe_fld (pv 0) rfl)))
        (pss_one (ps_raise (W := fun cls d _ H => E cls d H) rfl (takes_of rfl rfl rfl rfl) (pmk1 O hr2 (by rfl) (pa_cons (pv 1) pa_nil)))) pss_nil)
      (pss_one (ps_ret (pe_lcB (own := [("index", 2), ("way", 3)]) (g := gTup K 2 (gCons (gName 2) (gCons (gName 3) gNil))) rfl scPo.nd (pi_enum (by rfl) me (pa_cons (pe_fld (pv 0) rfl) pa_nil)) (blkOk_by (N := ["self", "place", "index", "way"]) (sc := defScope sPo) (by decide +kernel))
          (fun _ _ _ _ _ => pg_tup (by rfl) (pgs_cons (pg_name (i := 2) scPo.nd rfl (.inl rfl)) (pgs_cons (pg_name (i := 3) scPo.nd rfl (.inl rfl)) pgs_nil)))
          (fun _ _ _ _ _ => pts_one (pt_cmpR op_eq (pe_ix (r := rIxT K) ix_tup (pv 3) pe_int (fun _ _ => rfl)) (pv 1) (nomark _))) (fun _ _ _ _ _ => pv 2)))), ?_⟩
    have hl := PW_.hq.len
    have bad : ¬ (0 ≤ i ∧ i < n) → (i < 0 ∨ n ≤ i) := fun h => by omega
    rw [show L2.start ["self", "place", "index", "way"] [V.ref x, V.int i] = [some (.ref x), some (.int i), none, none] from rfl]
    refine ⟨_, rfl, _, _, rfl, rfl, _, rfl, ite2 (fun h0 => ?_) (fun h0 => ?_)⟩
    · have h0 := of_decide_eq_true h0
      refine ⟨_, rfl, x, C, dx, _, _, rfl, PW_.hx, T.cl, T.n4, lk4, _, _, rfl, rfl, _, rfl, ?_⟩
      by_cases h1 : i < n
      · rw [decide_eq_true h1]
        refine iteF ⟨_, rfl, x, C, dx, _, _, rfl, PW_.hx, T.cl, T.n5, lk5, wv, _, rfl, SqL.of PW_.hw, fun D nD wD => ?_⟩
        refine lc_it (walk_enum (K := K) (a := wv) (xs := xs)) (fun j H' => Same H H' ∧ H' D = some (.lst ((outI ws i j).map V.int))) ⟨same_upd nD, upd_same⟩ (fun j H' _ h => SqL.of (h.1 _ _ PW_.hw)) ?_ ?_
        · rintro j v H' H2 hj ⟨s', eD⟩ ⟨t, vi, vw, rfl, nt, rfl, hvi, hvw⟩
          cases hvi
          obtain ⟨e, he, hde⟩ := PW_.hq.at_ hvw
          obtain ⟨a, c, st, rfl⟩ := wf e (List.mem_of_getElem? he)
          obtain ⟨tw, ys, _, rfl, _, ee, etw, hys⟩ := hde.tup_of rfl
          cases ee
          obtain ⟨v1, v2, v3, rfl⟩ : ∃ v1 v2 v3, ys = [v1, v2, v3] := by
            match ys, hys with
            | [v1, v2, v3], _ => exact ⟨_, _, _, rfl⟩
          have h1' : v1 = .int a := by
            cases hys with
            | cons g _ => cases g; rfl
          subst h1'
          have w1 := same_upd (o := .tup [.int ((j : Nat) : Int), .ref tw]) nt
          have tD : t ≠ D := (ne_of_none eD nt).symm
          have eo : outI ws i (j + 1) = outI ws i j ++ (if a = i then [(j : Int)] else []) := by
            unfold outI
            rw [List.range_succ, List.filterMap_append]
            congr 1
            by_cases z : a = i
            · rw [if_pos z, List.filterMap_cons_some (b := (j : Int)) (by simp only [he, z, if_true]), List.filterMap_nil]
            · rw [if_neg z, List.filterMap_cons_none (by simp only [he, z, if_false]), List.filterMap_nil]
          refine ⟨t, _, rfl, SqT.of upd_same, rfl, _, _, rfl, _, _, rfl, rfl, rfl, ?_⟩
          refine ⟨_, rfl, tw, _, _, _, rfl, rfl, SqT.of (w1 _ _ (s' _ _ etw)), atI_nat (j := 0) rfl, _, rfl, rfl, _, rfl, ite2 (fun z => ?_) (fun z => ?_)⟩
          · have z : a = i := V.int.inj (of_decide_eq_true z)
            refine ⟨_, rfl, _, w1 _ _ eD, small60 ?_, fun c o e => ?_, ?_⟩
            · have hlen : (outI ws i j).length ≤ (List.range j).length := List.length_filterMap_le ..
              rw [List.length_range] at hlen
              rw [List.length_map]
              omega
            · rw [upd_ne (ne_of_none e nD)]
              exact w1 _ _ (s' _ _ e)
            · rw [upd_same, eo, if_pos z, List.map_append]
              rfl
          · have z : ¬ a = i := fun h => z (decide_eq_true (by rw [h]))
            refine ⟨s'.trans w1, ?_⟩
            rw [eo, if_neg z, List.append_nil]
            exact w1 _ _ eD
        · rintro H1 ⟨s1, eD⟩
          rw [hl] at eD
          exact q h0 h1 H1 D s1 nD wD eD
      · rw [decide_eq_false h1]
        exact iteT ⟨_, rfl, fun d nd => qE (bad fun h => h1 h.2) H d (fun _ _ e => e) nd⟩
    · have h0 : ¬ 0 ≤ i := fun h => h0 (decide_eq_true h)
      exact ⟨_, rfl, iteT ⟨_, rfl, fun d nd => qE (bad fun h => h0 h.1) H d (fun _ _ e => e) nd⟩⟩
theorem butK_snoc (ks : List (Str × Str)) (k : Str) {i : Nat} {p : Str × Str} (h : ks[i]? = some p) : ((ks.take (i + 1)).filter fun p => !decide (p.2 = k)).map (·.1) = ((ks.take i).filter fun p => !decide (p.2 = k)).map (·.1) ++ (if p.2 = k then [] else [p.1]) := by
  rw [List.take_succ, h, List.filter_append, List.map_append]
  congr 1
  by_cases z : p.2 = k
  · simp [z]
  · simp [z]
theorem scPu : FnScope ["self", "name"] ["self"] (defScope sPu) := ⟨rfl, rfl, rfl, by decide +kernel, rfl, by decide +kernel, by decide +kernel⟩
theorem ok_uppers {f : Addr} {fd : FuncData} (T : ProcC K C) (F : Fun K "uppers" "Procedure.uppers" sPu f fd) : FnOk P w K mg base CX0 1 f fd ["self"] (spBut C "low") := by
  refine F.ok scPu (fun vs H Q E h => ?_) (fun cdv A outer s H vs Q E hr h => ?_)
  · obtain ⟨_, _, _, _, _, _, _, rfl, _⟩ := h
    rfl
  · obtain ⟨x, dx, ks, zs, rs, n, ws, rfl, ⟨kd, pp, rr, wv, xs, hx, hk, _⟩, knd, kl, q⟩ := h
    have hu := hu_of hr
    refine ⟨_, pss_one (ps_ret (pe_op op_catB (pe_lst (pa_cons pe_str pa_nil)) (pe_lock (pe_lc (own := [("name", 1)]) (g := gName 1) rfl scPu.nd (pi_keys (pe_fld (pv 0) rfl)) (blkOk_by (N := ["self", "name"]) (sc := defScope sPu) (by decide +kernel))
        (fun _ _ _ _ _ => pg_name (i := 1) scPu.nd rfl (.inl rfl))
        (fun _ _ _ _ _ => pts_one (pt_cmpR op_ne (pe_dget (by exact hu) (show PE _ _ (tFld K (tVar 0) "_kinds") from pe_fld (pv 0) rfl) (pv 1) (fun _ _ => rfl)) pe_str (nomark _))) (fun _ _ _ _ _ => pv 1))))), ?_⟩
    rw [show L2.start ["self", "name"] [V.ref x] = [some (.ref x), none] from rfl]
    refine ⟨by show 1 ≤ sizeLine; decide, fun l1 n1 => ?_⟩
    have s1 := same_upd (o := .lst [.str ("" : Str)]) n1
    have el1 : (upd H l1 (.lst [.str ("" : Str)])) l1 = some (.lst [.str ("" : Str)]) := upd_same
    have hx1 := s1 _ _ hx
    have hk1 := s1 _ _ hk
    generalize upd H l1 (.lst [.str ("" : Str)]) = H1 at s1 el1 hx1 hk1 ⊢
    refine ⟨kd, .dK (kinV ks), hk1, True.intro, fun od => ?_⟩
    have xk : x ≠ kd := ne_of hx1 hk1 (by intro z; cases z)
    refine ⟨_, rfl, x, C, dx, _, _, rfl, by rw [upd_ne xk]; exact hx1, T.cl, T.n1, lk1, kd, od, rfl, .inl ⟨kinV ks, upd_same, fun D nD => ?_⟩⟩
    obtain ⟨Dq, D1⟩ := locked_new nD
    have eL : (upd H1 kd (.frz od (.dK (kinV ks)))) kd = some (.frz od (.dK (kinV ks))) := upd_same
    have nd : (kinV ks |>.map (·.1)).Nodup := kinV_nd knd
    refine lc_it (walk_keys (d := kd) (o := od) (kvs := kinV ks)) (fun i H' => Same (upd H1 kd (.frz od (.dK (kinV ks)))) H' ∧ H' D = some (.lst ((((ks.take i).filter fun p => !decide (p.2 = ("low" : Str))).map (·.1)).map V.str)))
      ⟨same_upd nD, upd_same⟩ (fun i H' _ h => h.1 _ _ eL) ?_ ?_
    · rintro i v H2 H3 hi ⟨s', eD⟩ ⟨rfl, kk, kv, hkv, rfl⟩
      obtain ⟨pr, hpi, epr⟩ : ∃ pr, ks[i]? = some pr ∧ (kk, kv) = (Sum.inr pr.1, V.str pr.2) := by
        unfold kinV at hkv
        rw [List.getElem?_map] at hkv
        cases e : ks[i]? with
        | none => rw [e] at hkv; cases hkv
        | some pr =>
          rw [e] at hkv
          exact ⟨pr, rfl, (Option.some.inj hkv).symm⟩
      cases epr
      have vk : valV (kinV ks) (Sum.inr pr.1) = some (.str pr.2) := at_val nd hkv
      have gk : DGet H3 kd (.str pr.1) (some (.str pr.2)) := .inl ⟨kinV ks, Sum.inr pr.1, .inr ⟨od, s' _ _ eL⟩, rfl, vk.symm⟩
      have hx3 := s' _ _ (show (upd H1 kd (.frz od (.dK (kinV ks)))) x = _ by rw [upd_ne xk]; exact hx1)
      have il : i < ks.length := (List.getElem?_eq_some_iff.mp hpi).1
      have snoc := butK_snoc ks "low" hpi
      refine ⟨rfl, _, rfl, x, C, dx, _, _, rfl, hx3, T.cl, T.n1, lk1, _, rfl, kd, _, rfl, gk, rfl, _, rfl, ?_⟩
      by_cases z : pr.2 = "low"
      · rw [show (!decide (V.str pr.2 = V.str "low")) = false from by rw [str_dec, decide_eq_true z]; rfl]
        refine iteF ⟨s', ?_⟩
        rw [snoc, if_pos z, List.append_nil]
        exact eD
      · rw [show (!decide (V.str pr.2 = V.str "low")) = true from by rw [str_dec, decide_eq_false z]; rfl]
        refine iteT ⟨_, rfl, _, eD, small60 ?_, fun c o e => ?_, ?_⟩
        · have h1 : ((ks.take i).filter fun p => !decide (p.2 = ("low" : Str))).length ≤ (ks.take i).length := List.length_filter_le ..
          rw [List.length_take] at h1
          rw [List.length_map, List.length_map]
          omega
        · rw [upd_ne (ne_of_none e nD)]
          exact s' _ _ e
        · rw [upd_same, snoc, if_neg z, List.map_append]
          rfl
    rintro H2 ⟨s2', eD⟩
    rw [show (kinV ks).length = ks.length from by unfold kinV; rw [List.length_map], List.take_length] at eD
    refine ⟨s2' _ _ eL, ?_⟩
    have s2 := unlock hk1 s2'
    have eD3 : (upd H2 kd (.dK (kinV ks))) D = some (.lst (((ks.filter fun p => !decide (p.2 = ("low" : Str))).map (·.1)).map V.str)) := by rw [upd_ne Dq]; exact eD
    generalize upd H2 kd (.dK (kinV ks)) = H3 at s2 eD3 ⊢
    refine ⟨l1, D, _, _, rfl, rfl, s2 _ _ el1, eD3, ?_, fun p np wp => ?_⟩
    · rw [List.length_map, List.length_map]
      have h1 : (ks.filter fun p => !decide (p.2 = ("low" : Str))).length ≤ ks.length := List.length_filter_le ..
      exact Nat.le_of_lt (small60 (by rw [show ([V.str ("" : Str)]).length = 1 from rfl]; omega))
    have s03 := s1.trans s2
    have nH : H p = none := by
      cases e : H p with
      | none => rfl
      | some o => rw [s03 _ _ e] at np; cases np
    exact q _ p (s03.trans (same_upd np)) nH wp upd_same
theorem scPl : FnScope ["self", "name"] ["self"] (defScope sPl) := ⟨rfl, rfl, rfl, by decide +kernel, rfl, by decide +kernel, by decide +kernel⟩
theorem ok_lowers {f : Addr} {fd : FuncData} (T : ProcC K C) (F : Fun K "lowers" "Procedure.lowers" sPl f fd) : FnOk P w K mg base CX0 1 f fd ["self"] (spBut C "high") := by
  refine F.ok scPl (fun vs H Q E h => ?_) (fun cdv A outer s H vs Q E hr h => ?_)
  · obtain ⟨_, _, _, _, _, _, _, rfl, _⟩ := h
    rfl
  · obtain ⟨x, dx, ks, zs, rs, n, ws, rfl, ⟨kd, pp, rr, wv, xs, hx, hk, _⟩, knd, kl, q⟩ := h
    have hu := hu_of hr
    refine ⟨_, pss_one (ps_ret (pe_op op_catB (pe_lst (pa_cons pe_str pa_nil)) (pe_lock (pe_lc (own := [("name", 1)]) (g := gName 1) rfl scPl.nd (pi_keys (pe_fld (pv 0) rfl)) (blkOk_by (N := ["self", "name"]) (sc := defScope sPl) (by decide +kernel))
        (fun _ _ _ _ _ => pg_name (i := 1) scPl.nd rfl (.inl rfl))
        (fun _ _ _ _ _ => pts_one (pt_cmpR op_ne (pe_dget (by exact hu) (show PE _ _ (tFld K (tVar 0) "_kinds") from pe_fld (pv 0) rfl) (pv 1) (fun _ _ => rfl)) pe_str (nomark _))) (fun _ _ _ _ _ => pv 1))))), ?_⟩
    rw [show L2.start ["self", "name"] [V.ref x] = [some (.ref x), none] from rfl]
    refine ⟨by show 1 ≤ sizeLine; decide, fun l1 n1 => ?_⟩
    have s1 := same_upd (o := .lst [.str ("" : Str)]) n1
    have el1 : (upd H l1 (.lst [.str ("" : Str)])) l1 = some (.lst [.str ("" : Str)]) := upd_same
    have hx1 := s1 _ _ hx
    have hk1 := s1 _ _ hk
    generalize upd H l1 (.lst [.str ("" : Str)]) = H1 at s1 el1 hx1 hk1 ⊢
    refine ⟨kd, .dK (kinV ks), hk1, True.intro, fun od => ?_⟩
    have xk : x ≠ kd := ne_of hx1 hk1 (by intro z; cases z)
    refine ⟨_, rfl, x, C, dx, _, _, rfl, by rw [upd_ne xk]; exact hx1, T.cl, T.n1, lk1, kd, od, rfl, .inl ⟨kinV ks, upd_same, fun D nD => ?_⟩⟩
    obtain ⟨Dq, D1⟩ := locked_new nD
    have eL : (upd H1 kd (.frz od (.dK (kinV ks)))) kd = some (.frz od (.dK (kinV ks))) := upd_same
    have nd : (kinV ks |>.map (·.1)).Nodup := kinV_nd knd
    refine lc_it (walk_keys (d := kd) (o := od) (kvs := kinV ks)) (fun i H' => Same (upd H1 kd (.frz od (.dK (kinV ks)))) H' ∧ H' D = some (.lst ((((ks.take i).filter fun p => !decide (p.2 = ("high" : Str))).map (·.1)).map V.str)))
      ⟨same_upd nD, upd_same⟩ (fun i H' _ h => h.1 _ _ eL) ?_ ?_
    · rintro i v H2 H3 hi ⟨s', eD⟩ ⟨rfl, kk, kv, hkv, rfl⟩
      obtain ⟨pr, hpi, epr⟩ : ∃ pr, ks[i]? = some pr ∧ (kk, kv) = (Sum.inr pr.1, V.str pr.2) := by
        unfold kinV at hkv
        rw [List.getElem?_map] at hkv
        cases e : ks[i]? with
        | none => rw [e] at hkv; cases hkv
        | some pr =>
          rw [e] at hkv
          exact ⟨pr, rfl, (Option.some.inj hkv).symm⟩
      cases epr
      have vk : valV (kinV ks) (Sum.inr pr.1) = some (.str pr.2) := at_val nd hkv
      have gk : DGet H3 kd (.str pr.1) (some (.str pr.2)) := .inl ⟨kinV ks, Sum.inr pr.1, .inr ⟨od, s' _ _ eL⟩, rfl, vk.symm⟩
      have hx3 := s' _ _ (show (upd H1 kd (.frz od (.dK (kinV ks)))) x = _ by rw [upd_ne xk]; exact hx1)
      have il : i < ks.length := (List.getElem?_eq_some_iff.mp hpi).1
      have snoc := butK_snoc ks "high" hpi
      refine ⟨rfl, _, rfl, x, C, dx, _, _, rfl, hx3, T.cl, T.n1, lk1, _, rfl, kd, _, rfl, gk, rfl, _, rfl, ?_⟩
      by_cases z : pr.2 = "high"
      · rw [show (!decide (V.str pr.2 = V.str "high")) = false from by rw [str_dec, decide_eq_true z]; rfl]
        refine iteF ⟨s', ?_⟩
        rw [snoc, if_pos z, List.append_nil]
        exact eD
      · rw [show (!decide (V.str pr.2 = V.str "high")) = true from by rw [str_dec, decide_eq_false z]; rfl]
        refine iteT ⟨_, rfl, _, eD, small60 ?_, fun c o e => ?_, ?_⟩
        · have h1 : ((ks.take i).filter fun p => !decide (p.2 = ("high" : Str))).length ≤ (ks.take i).length := List.length_filter_le ..
          rw [List.length_take] at h1
          rw [List.length_map, List.length_map]
          omega
        · rw [upd_ne (ne_of_none e nD)]
          exact s' _ _ e
        · rw [upd_same, snoc, if_neg z, List.map_append]
          rfl
    rintro H2 ⟨s2', eD⟩
    rw [show (kinV ks).length = ks.length from by unfold kinV; rw [List.length_map], List.take_length] at eD
    refine ⟨s2' _ _ eL, ?_⟩
    have s2 := unlock hk1 s2'
    have eD3 : (upd H2 kd (.dK (kinV ks))) D = some (.lst (((ks.filter fun p => !decide (p.2 = ("high" : Str))).map (·.1)).map V.str)) := by rw [upd_ne Dq]; exact eD
    generalize upd H2 kd (.dK (kinV ks)) = H3 at s2 eD3 ⊢
    refine ⟨l1, D, _, _, rfl, rfl, s2 _ _ el1, eD3, ?_, fun p np wp => ?_⟩
    · rw [List.length_map, List.length_map]
      have h1 : (ks.filter fun p => !decide (p.2 = ("high" : Str))).length ≤ ks.length := List.length_filter_le ..
      exact Nat.le_of_lt (small60 (by rw [show ([V.str ("" : Str)]).length = 1 from rfl]; omega))
    have s03 := s1.trans s2
    have nH : H p = none := by
      cases e : H p with
      | none => rfl
      | some o => rw [s03 _ _ e] at np; cases np
    exact q _ p (s03.trans (same_upd np)) nH wp upd_same
end
end Fv


set_option Elab.async false
set_option linter.all false
set_option maxRecDepth 100000
set_option maxHeartbeats 4000000
namespace Fv
open PySem PySem.Spec PyProof.Rows L2
abbrev sAlike : Stmt := top 46
mutual
theorem Dq.dp {K : PySem.W.Frag} {H : Hp} {b : Addr} : ∀ {v : V} {d : PyData}, Dq H b v d → d.canLay0 = true → Dp K H v d
  | _, _, .non, _ => .non
  | _, _, .bl x, _ => .bl x
  | _, _, .int i, _ => .int i
  | _, _, .str x, _ => .str x
  | _, _, .lst e _ _ h, c => .lst (SqL.of e) (DqAll.dp h (by simpa only [PyData.canLay0] using c))
  | _, _, .tup e _ h, c => .tup (SqT.of e) (DqAll.dp h (by simpa only [PyData.canLay0] using c))
  | _, _, .dct _ _ _ _, c => by simp [PyData.canLay0] at c
theorem DqAll.dp {K : PySem.W.Frag} {H : Hp} {b : Addr} : ∀ {v : List V} {d : List PyData}, DqAll H b v d → PyData.canLayAll0 d = true → DpAll K H v d
  | _, _, .nil, _ => .nil
  | _, _, .cons h t, c => by
    simp only [PyData.canLayAll0, Bool.and_eq_true] at c
    exact .cons (Dq.dp h c.1) (DqAll.dp t c.2)
end
/-! ### two tuples of the same data, a dict of texts among them -/
theorem vals_at : ∀ {xs : List V} {us : List Value} {j : Nat} {u : Value}, Vals xs us → us[j]? = some u → ∃ x, xs[j]? = some x ∧ RelV x u
  | _, _, 0, _, .cons h _, e => by
    cases e
    exact ⟨_, rfl, h⟩
  | _, _, j + 1, _, .cons _ t, e => vals_at (j := j) t e
theorem keys_of {H : Hp} {b : Addr} : ∀ {kvs : List (Key × V)} {ks : List (Str × Str)}, DqAll H b (kvs.map fun p => kV p.1) (ks.map fun p => PyData.str p.1) → DqAll H b (kvs.map (·.2)) (ks.map fun p => PyData.str p.2) → kvs = kinV ks
  | [], [], _, _ => rfl
  | [], _ :: _, h, _ => by cases h
  | _ :: _, [], h, _ => by cases h
  | (k, v) :: kvs, (z, y) :: ks, h, g => by
    cases h with
    | cons h1 h2 => cases g with
      | cons g1 g2 =>
        have ek : k = Sum.inr z := by
          cases k with
          | inl i =>
            have h1 : Dq H b (V.int i) (.str z) := h1
            cases h1
          | inr s =>
            have h1 : Dq H b (V.str s) (.str z) := h1
            cases h1
            rfl
        have ev : v = .str y := by
          have g1 : Dq H b v (.str y) := g1
          cases g1
          rfl
        rw [ek, ev, keys_of h2 g2]
        rfl
theorem dict_of {H : Hp} {b : Addr} {v : V} {ks : List (Str × Str)} (h : Dq H b v (.dict (ks.map fun p => (.str p.1, .str p.2)))) : ∃ a, v = .ref a ∧ H a = some (.dK (kinV ks)) := by
  cases h with
  | @dct a kvs ps e n h1 h2 =>
    rw [List.map_map] at h1 h2
    have := keys_of (ks := ks) h1 h2
    rw [this] at e
    exact ⟨a, rfl, e⟩
def ItemOk (d : PyData) : Prop := (d.canLay0 = true ∧ d.depth ≤ 20) ∨ ∃ ks : List (Str × Str), d = .dict (ks.map fun p => (.str p.1, .str p.2)) ∧ (ks.map (·.1)).Nodup
theorem kin_self {ks : List (Str × Str)} (nd : (ks.map (·.1)).Nodup) : ∀ p ∈ kinV ks, valV (kinV ks) p.1 = some p.2 ∧ flatB p.2 = true := fun p hp => by
  obtain ⟨i, hi⟩ := List.getElem?_of_mem hp
  refine ⟨at_val (kinV_nd nd) (i := i) hi, ?_⟩
  obtain ⟨q, hq, rfl⟩ := List.mem_map.mp hp
  rfl

/-- x == y, two lists of the same data -/
def rEqL : R2 := fun x y H Q => ∃ (b : Addr) (ds : List PyData), Dq H b x (.list ds) ∧ Dq H b y (.list ds) ∧ (∀ e ∈ ds, ItemOk e) ∧ Q (.bl true) H
theorem Dq.lst_of {H : Hp} {b : Addr} {v : V} {ds : List PyData} (h : Dq H b v (.list ds)) : ∃ a xs, v = .ref a ∧ H a = some (.lst xs) ∧ DqAll H b xs ds := by
  cases h with
  | lst e _ _ h => exact ⟨_, _, rfl, e, h⟩
section
variable {X : Cx}
theorem op_or {o : CmpOp} {r1 r2 : R2} (h1 : OpR X (compareOp o) r1) (h2 : OpR X (compareOp o) r2) : OpR X (compareOp o) (fun x y H Q => r1 x y H Q ∨ r2 x y H Q) := fun pins s σ H x y v u Q I rx ry h => h.elim (h1 pins s σ H x y v u Q I rx ry) (h2 pins s σ H x y v u Q I rx ry)
theorem op_eqL (hu : X.A.units + 64 < cLine) : OpR X (compareOp .Eq) rEqL := by
  intro pins s σ H x y v u Q I rx ry ⟨b, ds, hx, hy, ho, q⟩
  obtain ⟨p1, xs, rfl, e1, hxs⟩ := hx.lst_of
  obtain ⟨p2, ys, rfl, e2, hys⟩ := hy.lst_of
  obtain rfl : v = Value.ref p1 := rx
  obtain rfl : u = Value.ref p2 := ry
  obtain ⟨is1, r1, t1, _⟩ := I.list (SqL.of e1)
  obtain ⟨is2, r2, t2, _⟩ := I.list (SqL.of e2)
  have l1 : is1.length = ds.length := by rw [← r1.length, hxs.len]
  have l2 : is2.length = ds.length := by rw [← r2.length, hys.len]
  have hin1 : X.A.in1.units + 20 < cLine := by show X.A.units + 1 + 20 < cLine; omega
  refine SeqAt.rcIn_lists (e := fun _ => true) t1.isList t2.isList (by simp [l1, l2]) (by omega) (fun j h1 h2 => ?_) ⟨.bl true, H, I, ?_, q⟩
  · have h1' : j < is1.length := by simpa using h1
    have h2' : j < is2.length := by simpa using h2
    obtain ⟨xj, exj, rxj⟩ := vals_at r1 (List.getElem?_eq_getElem h1')
    obtain ⟨yj, eyj, ryj⟩ := vals_at r2 (List.getElem?_eq_getElem h2')
    obtain ⟨d, hd, gx⟩ := hxs.at_ exj
    obtain ⟨d', hd', gy⟩ := hys.at_ eyj
    rw [hd] at hd'
    cases hd'
    show SeqAt.EqIn X.prog X.w X.A.in1 s is1[j] is2[j] true
    rcases ho d (List.mem_of_getElem? hd) with ⟨cl, dp⟩ | ⟨ks, rfl, nd⟩
    · obtain ⟨as, q1⟩ := Dp.reads I d xj _ (gx.dp cl) rxj
      obtain ⟨bs, q2⟩ := Dp.reads I d yj _ (gy.dp cl) ryj
      have := (SeqAt.eqAt_reads d d X.A.in1 s _ _ as bs q1 q2 cl cl (by have : min d.depth d.depth ≤ 20 := Nat.le_trans (Nat.min_le_left _ _) dp; omega)).inModel X.prog X.w
      rwa [SeqAt.eqv_refl d cl] at this
    · obtain ⟨a, rfl, ea⟩ := dict_of gx
      obtain ⟨c, rfl, ec⟩ := dict_of gy
      have n1 : is1[j] = Value.ref a := rxj
      have n2 : is2[j] = Value.ref c := ryj
      rw [n1, n2]
      by_cases hac : a = c
      · subst hac
        exact (SeqAt.EqAt.same _).inModel X.prog X.w
      · obtain ⟨_, ya, va, ra, da⟩ := (show ObjOk X.prog X.w H s.heap a (.dK (kinV ks)) from I.hok a _ ea)
        obtain ⟨_, yb, vb, rb, db⟩ := (show ObjOk X.prog X.w H s.heap c (.dK (kinV ks)) from I.hok c _ ec)
        have hl : va.length = vb.length := by rw [← ra.length, ← rb.length]
        refine SeqAt.EqIn.of_refs hac fun E Q' hq => PySem.W.keq_eq (knd := mixKind X.prog X.w) (r := true) ya yb da db (by omega) (fun _ => hits_all rb ra (kin_self nd)) ?_
        rw [hl]
        simpa using hq
  · show _ = Value.bool true
    simp
end
theorem sd9 : FnScope ["_law_found", "_law_due"] ["_law_found", "_law_due"] (defScope sAlike) := ⟨rfl, rfl, rfl, by decide +kernel, rfl, by decide +kernel, by decide +kernel⟩
def AlikeOk (d : PyData) : Prop := ∃ W, Rp 20 W d ∧ W ≤ sizeLine ∧ (d.canLay0 = true ∨ ∃ ds : List PyData, d = .list ds ∧ ∀ e ∈ ds, ItemOk e)
def spAlike : Sp := fun vs H Q _ => ∃ (b : Addr) (x y : V) (d : PyData), vs = [x, y] ∧ Dq H b x d ∧ Dq H b y d ∧ AlikeOk d ∧ Q (.bl true) H
section
variable {P : Program} {w : World} {K : PySem.W.Frag} {mg : Str → Option Value} {base : Heap}
theorem ok_alike {f : Addr} {fd : FuncData} (F : Fun K "_law_alike" "_law_alike" sAlike f fd) (mr : mg "repr" = none) : FnG P w K mg base 1 f fd ["_law_found", "_law_due"] spAlike := by
  refine okG F sd9 (fun vs H Q E h => ?_) (fun cdv A outer s H vs Q E hg hr h => ?_)
  · obtain ⟨b, x, y, d, rfl, _⟩ := h
    rfl
  · obtain ⟨b, x, y, d, rfl, hx, hy, al, q⟩ := h
    refine ⟨_, pss_one (ps_ret (pe_and (pe_cmpR (op_or (op_eqD hr.units) (op_eqL hr.units)) (pv 0) (pv 1) (nomark _))
      (pe_one (pe_cmpR op_eq (pe_callB (call_reprD hg hr.units) (by rfl) mr (by decide +kernel) (pa_cons (pv 0) pa_nil)) (pe_callB (call_reprD hg hr.units) (by rfl) mr (by decide +kernel) (pa_cons (pv 1) pa_nil)) (nomark _))))), ?_⟩
    refine ⟨_, rfl, _, rfl, ?_⟩
    obtain ⟨W, rp, hW, al⟩ := al
    have ln := Nat.le_trans (sz_le _) (Nat.le_trans rp.len hW)
    rcases al with cl | ⟨ds, rfl, ho⟩
    · have sh : SeqAt.shaped d = true := by
        unfold SeqAt.shaped
        rw [cl, decide_eq_true (Nat.le_trans rp.dp (by decide))]
        rfl
      refine .inl ⟨d, d, hx.dp cl, hy.dp cl, sh, sh, _, rfl, ?_⟩
      rw [SeqAt.eqv_refl d cl]
      refine iteT ⟨_, rfl, b, _, d, rfl, hx, rp.sh, ln, rp.dp, _, rfl, b, _, d, rfl, hy, rp.sh, ln, rp.dp, rfl, ?_⟩
      show Q (V.bl (decide (V.str d.shown = V.str d.shown))) H
      rw [decide_eq_true rfl]
      exact q
    · refine .inr ⟨b, ds, hx, hy, ho, _, rfl, ?_⟩
      refine iteT ⟨_, rfl, b, _, _, rfl, hx, rp.sh, ln, rp.dp, _, rfl, b, _, _, rfl, hy, rp.sh, ln, rp.dp, rfl, ?_⟩
      show Q (V.bl (decide (V.str (PyData.list ds).shown = V.str (PyData.list ds).shown))) H
      rw [decide_eq_true rfl]
      exact q
end
end Fv


set_option Elab.async false
set_option linter.all false
set_option maxRecDepth 100000
set_option maxHeartbeats 4000000
namespace Fv
open PySem PySem.Spec PyProof.Rows L2
/-! ### the five -/
abbrev sFive : Stmt := top 57
abbrev sDueFive : Stmt := top 58
mutual
/-- away from an instance -/
theorem Dq.offI {H : Hp} {b x C dx : Addr} {fs : List (Str × V)} (hx : H x = some (.ins C dx fs)) : ∀ {v : V} {d : PyData}, Dq H b v d → Dq H x v d
  | _, _, .non => .non
  | _, _, .bl x => .bl x
  | _, _, .int i => .int i
  | _, _, .str x => .str x
  | _, _, .lst e _ m h => .lst e (ne_of e hx (by intro z; cases z)) m (DqAll.offI hx h)
  | _, _, .tup e _ h => .tup e (ne_of e hx (by intro z; cases z)) (DqAll.offI hx h)
  | _, _, .dct e _ h h' => .dct e (ne_of e hx (by intro z; cases z)) (DqAll.offI hx h) (DqAll.offI hx h')
theorem DqAll.offI {H : Hp} {b x C dx : Addr} {fs : List (Str × V)} (hx : H x = some (.ins C dx fs)) : ∀ {v : List V} {d : List PyData}, DqAll H b v d → DqAll H x v d
  | _, _, .nil => .nil
  | _, _, .cons h t => .cons (Dq.offI hx h) (DqAll.offI hx t)
end
theorem DqAll.strs' (H : Hp) (b : Addr) : ∀ qs : List Str, DqAll H b (qs.map V.str) (qs.map PyData.str)
  | [] => .nil
  | z :: qs => .cons (.str z) (DqAll.strs' H b qs)
theorem kin_dq {H : Hp} {b a : Addr} {ks : List (Str × Str)} (e : H a = some (.dK (kinV ks))) (n : a ≠ b) : Dq H b (.ref a) (.dict (ks.map fun p => (.str p.1, .str p.2))) := by
  refine .dct e n ?_ ?_
  · clear e
    induction ks with
    | nil => exact .nil
    | cons p ks ih => exact .cons (.str _) ih
  · clear e
    induction ks with
    | nil => exact .nil
    | cons p ks ih => exact .cons (.str _) ih
def fiveD (ks : List (Str × Str)) (zs rs : List Str) (n : Int) (ws : List PyData) : PyData := .list [.dict (ks.map fun p => (.str p.1, .str p.2)), .tuple (zs.map .str), .tuple (rs.map .str), .int n, .list ws]
theorem kin_put {ks : List (Str × Str)} {i : Nat} {p : Str × Str} (nd : (ks.map (·.1)).Nodup) (h : ks[i]? = some p) : putK (kinV (ks.take i)) (Sum.inr p.1) (.str p.2) = kinV (ks.take (i + 1)) := by
  have e1 : ks.take (i + 1) = ks.take i ++ [p] := by rw [List.take_succ, h]; rfl
  have hn : (Sum.inr p.1 : Key) ∉ (kinV (ks.take i)).map (·.1) := by
    rw [kin_keys]
    intro hm
    obtain ⟨z, hz, e⟩ := List.mem_map.mp hm
    cases e
    have nd2 : ((ks.take (i + 1)).map (·.1)).Nodup := nd.sublist ((List.take_sublist _ _).map _)
    rw [e1, List.map_append, List.nodup_append] at nd2
    exact nd2.2.2 _ hz _ List.mem_cons_self rfl
  rw [putK_new hn, e1]
  unfold kinV
  rw [List.map_append]
  rfl
def spFive (C : Addr) : Sp := fun vs H Q _ => ∃ (x dx : Addr) (ks : List (Str × Str)) (zs rs : List Str) (n : Int) (ws : List PyData), vs = [.ref x] ∧ ProcAt C H x dx ks zs rs n ws ∧ (ks.map (·.1)).Nodup ∧ (∀ p ∈ ks, nameS p.1 = true) ∧ ks.length ≤ 50 ∧
  ∀ H' p, Same H H' → H p = none → Dq H' x (.ref p) (fiveD ks zs rs n ws) → Q (.ref p) H'
section
variable {P : Program} {w : World} {K : PySem.W.Frag} {mg : Str → Option Value} {base : Heap} {C : Addr}
abbrev nFv : List Str := ["_law_made", "_law_kinds_here", "_law_name"]
theorem scFv : FnScope nFv ["_law_made"] (defScope sFive) := ⟨rfl, rfl, rfl, by decide +kernel, rfl, by decide +kernel, by decide +kernel⟩
theorem lkn {kd pp rr wv : Addr} {n : Int} : (flds5 kd pp rr n wv).lookup ("names" : Str) = none := by rfl
theorem lkk {kd pp rr wv : Addr} {n : Int} : (flds5 kd pp rr n wv).lookup ("kind" : Str) = none := by rfl
theorem lkw {kd pp rr wv : Addr} {n : Int} : (flds5 kd pp rr n wv).lookup ("ways" : Str) = none := by rfl
theorem ok_five {f fn fk fw gp gr gs ap ar as_ : Addr} {fd fdn fdk fdw fdp fdr fds : FuncData} (F : Fun K "_law_five" "_law_five" sFive f fd) (T : ProcC K C)
    (Mn : Meth K C "names" fn) (Gn : FnOk P w K mg base CX0 1 fn fdn ["self"] (spPn C)) (bn : Binds K fdn ["self"] [])
    (Mk_ : Meth K C "kind" fk) (Gk : FnOk P w K mg base CX0 2 fk fdk ["self", "source"] (spPk C)) (bk : Binds K fdk ["self", "source"] [])
    (Mw : Meth K C "ways" fw) (Gw : FnOk P w K mg base CX0 1 fw fdw ["self"] (spPw C)) (bw : Binds K fdw ["self"] [])
    (Pp : PropOf K C "params" ap gp) (Gp : FnOk P w K mg base CX0 1 gp fdp ["self"] (getSp C "_params")) (bp : Binds K fdp ["self"] [])
    (Pr : PropOf K C "results" ar gr) (Gr : FnOk P w K mg base CX0 1 gr fdr ["self"] (getSp C "_results")) (br : Binds K fdr ["self"] [])
    (Ps : PropOf K C "size" as_ gs) (Gs : FnOk P w K mg base CX0 1 gs fds ["self"] (getSp C "_size")) (bs : Binds K fds ["self"] []) : FnOk P w K mg base CX0 3 f fd ["_law_made"] (spFive C) := by
  refine F.ok scFv (fun vs H Q E h => ?_) (fun cdv A outer s H vs Q E hr h => ?_)
  · obtain ⟨_, _, _, _, _, _, _, rfl, _⟩ := h
    rfl
  · obtain ⟨x, dx, ks, zs, rs, n, ws, rfl, PA, knd, knm, kl, q⟩ := h
    have hu := hu_of hr
    have hr1 : Room 1 _ := hr.mono (by decide)
    have hr2 : Room 2 _ := hr.mono (by decide)
    refine ⟨_, pss_cons (ps_set (i := 1) scFv.nd rfl (.inl rfl) pe_dnewK)
      (pss_cons (ps_for PassesOwn.never rfl (pi_list (pe_meth0 (pv 0) T.cl Mn Gn hr1 bn .nil pass0)) (pg_name (i := 2) scFv.nd rfl (.inl rfl))
        (pss_one (ps_dput hu (pv 1) (pv 2) (pe_meth (pv 0) T.cl Mk_ Gk hr2 bk .nil pass0 (pa_cons (pv 2) pa_nil)) rfl)))
      (pss_one (ps_ret (pe_lstB (pa_cons (pv 1) (pa_cons (pe_prop (pv 0) T.cl Pp Gp hr2 bp .nil pass0 rfl) (pa_cons (pe_prop (pv 0) T.cl Pr Gr hr2 br .nil pass0 rfl) (pa_cons (pe_prop (pv 0) T.cl Ps Gs hr2 bs .nil pass0 rfl) (pa_cons (pe_meth0 (pv 0) T.cl Mw Gw hr1 bw .nil pass0) pa_nil))))))))), ?_⟩
    rw [show L2.start nFv [V.ref x] = [some (.ref x), none, none] from rfl]
    obtain ⟨kd, pp, rr, wv, xs, hx, hk, hp, hr', hw, hq⟩ := id PA
    have PAs : ∀ {H2 : Hp}, Same H H2 → ProcAt C H2 x dx ks zs rs n ws := fun {H2} s2 => ⟨kd, pp, rr, wv, xs, s2 _ _ hx, s2 _ _ hk, s2 _ _ hp, s2 _ _ hr', s2 _ _ hw, hq.mono fun c o _ e => s2 c o e⟩
    intro D nD
    simp only [gName, List.set_cons_zero, List.set_cons_succ]
    have s1 := same_upd (o := .dK []) nD
    refine ⟨_, rfl, x, dx, _, rfl, s1 _ _ hx, lkn, x, dx, ks, zs, rs, n, ws, rfl, PAs s1, fun H2 p s2 _ ep => ⟨p, rfl, ⟨_, SqL.of ep⟩, ?_⟩⟩
    have s12 := s1.trans s2
    refine for_list (K := K) (a := p) (xs := (ks.map (·.1)).map V.str) (fun i σ H' => ∃ y2 : Option V, σ = [some (.ref x), some (.ref D), y2] ∧ Same H H' ∧ H' p = some (.lst ((ks.map (·.1)).map V.str)) ∧ H' D = some (.dK (kinV (ks.take i))))
      ⟨_, rfl, s12, ep, s2 _ _ upd_same⟩ (fun i σ H' _ h => by
        obtain ⟨_, _, _, e, _⟩ := h
        exact SqL.of e) ?_ ?_
    · rintro i v σ H' hvi ⟨y2, rfl, s', ep', eD⟩
      obtain ⟨pr, hpi, rfl⟩ : ∃ pr, ks[i]? = some pr ∧ v = V.str pr.1 := by
        rw [List.getElem?_map, List.getElem?_map] at hvi
        cases e : ks[i]? with
        | none => rw [e] at hvi; cases hvi
        | some y => rw [e] at hvi; exact ⟨y, rfl, (Option.some.inj hvi).symm⟩
      have pm := List.mem_of_getElem? hpi
      have il : i < ks.length := (List.getElem?_eq_some_iff.mp hpi).1
      have hkv : (kinV ks)[i]? = some ((Sum.inr pr.1 : Key), V.str pr.2) := by unfold kinV; rw [List.getElem?_map, hpi]; rfl
      obtain ⟨kin1, kf1⟩ := kin_is (at_val (kinV_nd knd) hkv)
      simp only [gName, List.set_cons_zero, List.set_cons_succ]
      refine ⟨_, rfl, x, dx, _, rfl, s' _ _ hx, lkk, _, rfl, x, dx, ks, zs, rs, n, ws, pr.1, rfl, PAs s', knm pr pm, kin1, fun H3 s3 => ?_⟩
      rw [kf1]
      have eD3 := s3 _ _ eD
      refine ⟨_, rfl, _, rfl, D, _, rfl, DPut.k (k := Sum.inr pr.1) eD3 (small60 (by unfold kinV; rw [List.length_map, List.length_take]; omega)), ?_⟩
      rw [kin_put knd hpi]
      have pD : p ≠ D := ne_of (s3 _ _ ep') eD3 (by intro z; cases z)
      refine ⟨_, rfl, fun c o e => ?_, ?_, upd_same⟩
      · rw [upd_ne (ne_of_none e nD)]
        exact s3 _ _ (s' _ _ e)
      · rw [upd_ne pD]
        exact s3 _ _ ep'
    · rintro σ H' ⟨y2, rfl, s', ep', eD⟩
      rw [List.length_map, List.length_map, List.take_length] at eD
      have hx' := s' _ _ hx
      refine ⟨_, rfl, _, rfl, x, dx, _, rfl, hx', x, dx, _, _, rfl, hx', lk2, _, rfl, x, dx, _, rfl, hx', x, dx, _, _, rfl, hx', lk3, _, rfl, x, dx, _, rfl, hx', x, dx, _, _, rfl, hx', lk4, _, rfl, x, dx, _, rfl, hx', lkw, x, dx, ks, zs, rs, n, _, rfl, PAs s', fun H6 wl xl s6 nwl mwl ewl hwl => ⟨by show 5 ≤ sizeLine; decide, fun p5 np5 wp5 => ?_⟩⟩
      have w7 := same_upd (o := .lst [.ref D, .ref pp, .ref rr, .int n, .ref wl]) np5
      have s67 := s6.trans w7
      have sF := s'.trans s67
      have hxF := sF _ _ hx
      have nH : H p5 = none := by
        cases e : H p5 with
        | none => rfl
        | some o => rw [(s'.trans s6) _ _ e] at np5; cases np5
      have ne : ∀ {c : Addr} {o : HO}, (upd H6 p5 (.lst [.ref D, .ref pp, .ref rr, .int n, .ref wl])) c = some o → (∀ C dx fs, o ≠ .ins C dx fs) → c ≠ x := fun {c o} e h z => by
        rw [z, hxF] at e
        cases e
        exact h _ _ _ rfl
      have eD7 := s67 _ _ eD
      have ew7 := w7 _ _ ewl
      refine q _ p5 sF nH ?_
      exact .lst upd_same (ne upd_same (fun _ _ _ z => nomatch z)) wp5 (.cons (kin_dq eD7 (ne eD7 (fun _ _ _ z => nomatch z))) (.cons (.tup (sF _ _ hp) (ne (sF _ _ hp) (fun _ _ _ z => nomatch z)) (DqAll.strs' _ _ zs)) (.cons (.tup (sF _ _ hr') (ne (sF _ _ hr') (fun _ _ _ z => nomatch z)) (DqAll.strs' _ _ rs)) (.cons (.int n) (.cons (.lst ew7 (ne ew7 (fun _ _ _ z => nomatch z)) mwl (hwl.mono fun c o _ e => s67 c o e)) .nil)))))
end
/-- a drawn head with its ways, away from x -/
structure HeadW (H : Hp) (x o a pp rr W : Addr) (n : Int) (ks : List (Str × Str)) (zs rs : List Str) (ys : List V) (ds : List PyData) : Prop where
  oo : H o = some (.dK (head5 a pp rr n W))
  aa : H a = some (.dK (kinV ks))
  ok : KindsOk ks
  kl : ks.length ≤ 3
  hp : H pp = some (.tup (zs.map V.str))
  hr : H rr = some (.tup (rs.map V.str))
  hw : H W = some (.lst ys)
  hq : DqAll H x ys ds
theorem HeadW.same {H H' : Hp} {x o a pp rr W : Addr} {n : Int} {ks : List (Str × Str)} {zs rs : List Str} {ys : List V} {ds : List PyData} (h : HeadW H x o a pp rr W n ks zs rs ys ds) (s : Same H H') : HeadW H' x o a pp rr W n ks zs rs ys ds :=
  ⟨s _ _ h.oo, s _ _ h.aa, h.ok, h.kl, s _ _ h.hp, s _ _ h.hr, s _ _ h.hw, h.hq.mono fun c o _ e => s c o e⟩
theorem kinS_fst (ks : List (Str × Str)) : (kinS ks).map (·.1) = keysOf ks := by
  unfold kinS
  rw [List.map_map]
  exact List.map_id' _
theorem keys_nd {ks : List (Str × Str)} (h : (ks.map (·.1)).Nodup) : (keysOf ks).Nodup := ((sortL_perm _).nodup_iff).mpr h
theorem kinS_len (ks : List (Str × Str)) : (kinS ks).length = ks.length := by
  unfold kinS keysOf
  rw [List.length_map, (sortL_perm _).length_eq, List.length_map]
def spDueFive : Sp := fun vs H Q _ => ∃ (x C dx : Addr) (fs : List (Str × V)) (o a pp rr W : Addr) (n : Int) (ks : List (Str × Str)) (zs rs : List Str) (ys : List V) (ds : List PyData), vs = [.ref o] ∧ H x = some (.ins C dx fs) ∧ HeadW H x o a pp rr W n ks zs rs ys ds ∧
  ∀ H' p, Same H H' → H p = none → Dq H' x (.ref p) (fiveD (kinS ks) zs rs n ds) → Q (.ref p) H'
section
variable {P : Program} {w : World} {K : PySem.W.Frag} {mg : Str → Option Value} {base : Heap} {C : Addr}
abbrev nDf : List Str := ["_law_head_here", "_law_kinds_here", "_law_name"]
theorem scDf : FnScope nDf ["_law_head_here"] (defScope sDueFive) := ⟨rfl, rfl, rfl, by decide +kernel, rfl, by decide +kernel, by decide +kernel⟩
theorem ok_duefive {f : Addr} {fd : FuncData} (F : Fun K "_law_due_five" "_law_due_five" sDueFive f fd) (mo : mg "sorted" = none) (mt : mg "tuple" = none) (mL : mg "list" = none) : FnOk P w K mg base CX0 1 f fd ["_law_head_here"] spDueFive := by
  refine F.ok scDf (fun vs H Q E h => ?_) (fun cdv A outer s H vs Q E hr h => ?_)
  · obtain ⟨_, _, _, _, _, _, _, _, _, _, _, _, _, _, _, rfl, _⟩ := h
    rfl
  · obtain ⟨x, C, dx, fs, o, a, pp, rr, W, n, ks, zs, rs, ys, ds, rfl, hx, HW, q⟩ := h
    have hu := hu_of hr
    refine ⟨_, pss_cons (ps_set (i := 1) scDf.nd rfl (.inl rfl) pe_dnewK)
      (pss_cons (ps_for PassesOwn.never rfl (pi_list (pe_callB (call_sortedD rfl) (by rfl) mo (by decide +kernel) (pa_cons (pe_dget hu (pv 0) pe_str (fun _ _ => rfl)) pa_nil))) (pg_name (i := 2) scDf.nd rfl (.inl rfl))
        (pss_one (ps_dput hu (pv 1) (pv 2) (pe_dget hu (pe_dget hu (pv 0) pe_str (fun _ _ => rfl)) (pv 2) (fun _ _ => rfl)) rfl)))
      (pss_one (ps_ret (pe_lstB (pa_cons (pv 1) (pa_cons (pe_callTy (T := "tuple") (r := rTupN) call_tupN (by rfl) mt boot_tuple (pa_cons (pe_dget hu (pv 0) pe_str (fun _ _ => rfl)) pa_nil)) (pa_cons (pe_callTy (T := "tuple") (r := rTupN) call_tupN (by rfl) mt boot_tuple (pa_cons (pe_dget hu (pv 0) pe_str (fun _ _ => rfl)) pa_nil))
        (pa_cons (pe_dget hu (pv 0) pe_str (fun _ _ => rfl)) (pa_cons (pe_callTy (T := "list") (r := rListN) call_listN (by rfl) mL boot_list (pa_cons (pe_dget hu (pv 0) pe_str (fun _ _ => rfl)) pa_nil)) pa_nil))))))))), ?_⟩
    rw [show L2.start nDf [V.ref o] = [some (.ref o), none, none] from rfl]
    obtain ⟨kk1, kp1, kr1, kn1, kw1⟩ := head5_k a pp rr n W
    have gk : ∀ {H' : Hp}, Same H H' → DGet H' o (.str "kinds") (some (.ref a)) := fun {H'} s => kk1 ▸ DGet.k (k := Sum.inr "kinds") (s _ _ HW.oo)
    have gp : ∀ {H' : Hp}, Same H H' → DGet H' o (.str "params") (some (.ref pp)) := fun {H'} s => kp1 ▸ DGet.k (k := Sum.inr "params") (s _ _ HW.oo)
    have gr : ∀ {H' : Hp}, Same H H' → DGet H' o (.str "results") (some (.ref rr)) := fun {H'} s => kr1 ▸ DGet.k (k := Sum.inr "results") (s _ _ HW.oo)
    have gn : ∀ {H' : Hp}, Same H H' → DGet H' o (.str "size") (some (.int n)) := fun {H'} s => kn1 ▸ DGet.k (k := Sum.inr "size") (s _ _ HW.oo)
    have gw : ∀ {H' : Hp}, Same H H' → DGet H' o (.str "ways") (some (.ref W)) := fun {H'} s => kw1 ▸ DGet.k (k := Sum.inr "ways") (s _ _ HW.oo)
    intro D nD
    simp only [gName, List.set_cons_zero, List.set_cons_succ]
    have s1 := same_upd (o := .dK []) nD
    have eD1 : (upd H D (.dK [])) D = some (.dK []) := upd_same
    refine ⟨_, rfl, o, _, rfl, gk s1, a, kinV ks, ks.map (·.1), rfl, .inl (s1 _ _ HW.aa), kin_keys ks, by rw [List.length_map]; have := HW.kl; omega, fun ns p perm srt np => ⟨p, rfl, ⟨_, SqL.of upd_same⟩, ?_⟩⟩
    obtain rfl : ns = keysOf ks := sortL_of perm srt
    have s2 := s1.trans (same_upd (o := .lst ((keysOf ks).map V.str)) np)
    have ep : (upd (upd H D (.dK [])) p (.lst ((keysOf ks).map V.str))) p = some (.lst ((keysOf ks).map V.str)) := upd_same
    have eD2 := same_upd (o := .lst ((keysOf ks).map V.str)) np _ _ eD1
    generalize upd (upd H D (.dK [])) p (.lst ((keysOf ks).map V.str)) = H2 at s2 ep eD2 ⊢
    have knd : ((kinS ks).map (·.1)).Nodup := by rw [kinS_fst]; exact keys_nd HW.ok.nd
    have kl := HW.kl
    have kSl := kinS_len ks
    refine for_list (K := K) (a := p) (xs := (keysOf ks).map V.str) (fun i σ H' => ∃ y2 : Option V, σ = [some (.ref o), some (.ref D), y2] ∧ Same H H' ∧ H' p = some (.lst ((keysOf ks).map V.str)) ∧ H' D = some (.dK (kinV ((kinS ks).take i))))
      ⟨_, rfl, s2, ep, eD2⟩ (fun i σ H' _ h => by
        obtain ⟨_, _, _, e, _⟩ := h
        exact SqL.of e) ?_ ?_
    · rintro i v σ H' hvi ⟨y2, rfl, s', ep', eD⟩
      obtain ⟨z, hzi, rfl⟩ : ∃ z, (keysOf ks)[i]? = some z ∧ v = V.str z := by
        rw [List.getElem?_map] at hvi
        cases e : (keysOf ks)[i]? with
        | none => rw [e] at hvi; cases hvi
        | some y => rw [e] at hvi; exact ⟨y, rfl, (Option.some.inj hvi).symm⟩
      have hpi : (kinS ks)[i]? = some (z, kfOf ks z) := by unfold kinS; rw [List.getElem?_map, hzi]; rfl
      have zk : z ∈ ks.map (·.1) := (sortL_perm _).mem_iff.mp (List.mem_of_getElem? hzi)
      have vz := kin_some (kin_in zk)
      have pD : p ≠ D := ne_of ep' eD (by intro z; cases z)
      simp only [gName, List.set_cons_zero, List.set_cons_succ]
      refine ⟨_, rfl, o, _, rfl, gk s', _, rfl, a, _, rfl, vz ▸ DGet.k (k := Sum.inr z) (s' _ _ HW.aa), _, rfl, _, rfl, D, _, rfl, DPut.k (k := Sum.inr z) eD (small60 (by unfold kinV; rw [List.length_map, List.length_take]; omega)), ?_⟩
      rw [kin_put (p := (z, kfOf ks z)) knd hpi]
      refine ⟨_, rfl, fun c o e => ?_, ?_, upd_same⟩
      · rw [upd_ne (ne_of_none e nD)]
        exact s' _ _ e
      · rw [upd_ne pD]
        exact ep'
    · rintro σ H' ⟨y2, rfl, s', ep', eD⟩
      rw [List.length_map, show (keysOf ks).length = (kinS ks).length from by unfold kinS; rw [List.length_map], List.take_length] at eD
      refine ⟨_, rfl, _, rfl, o, _, rfl, gp s', pp, _, rfl, .inr (s' _ _ HW.hp), fun H3 q1 s3 eq1 => ?_⟩
      have s03 := s'.trans s3
      refine ⟨_, rfl, o, _, rfl, gr s03, rr, _, rfl, .inr (s03 _ _ HW.hr), fun H4 q2 s4 eq2 => ?_⟩
      have s04 := s03.trans s4
      refine ⟨_, rfl, o, _, rfl, gn s04, _, rfl, o, _, rfl, gw s04, W, _, rfl, .inl (s04 _ _ HW.hw), fun l nl wl => ⟨by show 5 ≤ sizeLine; decide, fun p5 np5 wp5 => ?_⟩⟩
      have w7 := same_upd (o := .lst ys) nl
      have el : (upd H4 l (.lst ys)) l = some (.lst ys) := upd_same
      generalize upd H4 l (.lst ys) = H5 at w7 el np5 ⊢
      have w8 := same_upd (o := .lst [.ref D, .ref q1, .ref q2, .int n, .ref l]) np5
      have s48 := w7.trans w8
      have s38 := s4.trans s48
      have sF := s03.trans s38
      have hxF := sF _ _ hx
      have nH : H p5 = none := by
        cases e : H p5 with
        | none => rfl
        | some o => rw [(s04.trans w7) _ _ e] at np5; cases np5
      have ne : ∀ {c : Addr} {o : HO}, (upd H5 p5 (.lst [.ref D, .ref q1, .ref q2, .int n, .ref l])) c = some o → (∀ C dx fs, o ≠ .ins C dx fs) → c ≠ x := fun {c o} e h z => by
        rw [z, hxF] at e
        cases e
        exact h _ _ _ rfl
      have eDF := s38 _ _ (s3 _ _ eD)
      have e1F := s38 _ _ eq1
      have e2F := s48 _ _ eq2
      have elF := w8 _ _ el
      refine q _ p5 sF nH ?_
      exact .lst upd_same (ne upd_same (fun _ _ _ z => nomatch z)) wp5 (.cons (kin_dq eDF (ne eDF (fun _ _ _ z => nomatch z))) (.cons (.tup e1F (ne e1F (fun _ _ _ z => nomatch z)) (DqAll.strs' _ _ zs)) (.cons (.tup e2F (ne e2F (fun _ _ _ z => nomatch z)) (DqAll.strs' _ _ rs)) (.cons (.int n) (.cons (.lst elF (ne elF (fun _ _ _ z => nomatch z)) wl (HW.hq.mono fun c o _ e => sF c o e)) .nil)))))
end
end Fv


set_option Elab.async false
set_option linter.all false
set_option maxRecDepth 100000
set_option maxHeartbeats 2000000
/-! rows of tuples; own errors made of nothing; a promise without its raising side -/
namespace Fv
open PySem PySem.Spec PyProof.Rows L2
/-- items told by tuples -/
structure Tups {α : Type} (g : α → List V) (H : Hp) (xs : List V) (L : List α) : Prop where
  len : xs.length = L.length
  at_ : ∀ (i : Nat) (x : V), xs[i]? = some x → ∃ f : α, L[i]? = some f ∧ ∃ t, x = .ref t ∧ H t = some (.tup (g f))
theorem Tups.nil {α : Type} {g : α → List V} {H : Hp} : Tups g H [] [] := ⟨rfl, fun _ _ e => by cases e⟩
theorem Tups.keep {α : Type} {g : α → List V} {H H' : Hp} {xs : List V} {L : List α} (h : Tups g H xs L) (s : ∀ t ys, H t = some (.tup ys) → H' t = some (.tup ys)) : Tups g H' xs L :=
  ⟨h.len, fun i x e => by obtain ⟨f, hf, t, ht, hh⟩ := h.at_ i x e; exact ⟨f, hf, t, ht, s _ _ hh⟩⟩
theorem Tups.snoc {α : Type} {g : α → List V} {H : Hp} {xs : List V} {L : List α} (h : Tups g H xs L) {t : Addr} {f : α} (e : H t = some (.tup (g f))) : Tups g H (xs ++ [.ref t]) (L ++ [f]) := by
  refine ⟨by rw [List.length_append, List.length_append, h.len]; rfl, fun i x ex => ?_⟩
  rcases Nat.lt_trichotomy i xs.length with l | l | l
  · rw [List.getElem?_append_left l] at ex
    obtain ⟨f, hf, r⟩ := h.at_ i x ex
    exact ⟨f, by rw [List.getElem?_append_left (by rw [← h.len]; exact l)]; exact hf, r⟩
  · subst l
    rw [List.getElem?_append_right (Nat.le_refl _), Nat.sub_self] at ex
    cases ex
    exact ⟨f, by rw [List.getElem?_append_right (by rw [h.len]; exact Nat.le_refl _), h.len, Nat.sub_self]; rfl, t, rfl, e⟩
  · rw [List.getElem?_eq_none (by rw [List.length_append]; exact l)] at ex
    cases ex
theorem Tups.cons {α : Type} {g : α → List V} {H : Hp} {x : V} {xs : List V} {L : List α} : Tups g H (x :: xs) L ↔ ∃ f M, L = f :: M ∧ (∃ t, x = .ref t ∧ H t = some (.tup (g f))) ∧ Tups g H xs M := by
  constructor
  · intro h
    cases L with
    | nil => cases h.len
    | cons f M =>
      obtain ⟨f', e, t, ht⟩ := h.at_ 0 x rfl
      cases e
      exact ⟨f, M, rfl, ⟨t, ht⟩, by have := h.len; rw [List.length_cons, List.length_cons] at this; omega, fun i y e => h.at_ (i + 1) y e⟩
  · rintro ⟨f, M, rfl, ht, h⟩
    refine ⟨by rw [List.length_cons, List.length_cons, h.len], fun i y e => ?_⟩
    cases i with
    | zero =>
      cases e
      exact ⟨f, rfl, ht⟩
    | succ i => exact h.at_ i y e
theorem Tups.perm {α : Type} {g : α → List V} {H : Hp} {xs ys : List V} (p : xs.Perm ys) : ∀ {L : List α}, Tups g H xs L → ∃ M, L.Perm M ∧ Tups g H ys M := by
  induction p with
  | nil => exact fun h => ⟨_, .refl _, h⟩
  | cons x _ ih =>
    intro L h
    obtain ⟨f, M, rfl, ht, h⟩ := Tups.cons.mp h
    obtain ⟨N, pN, hN⟩ := ih h
    exact ⟨f :: N, pN.cons f, Tups.cons.mpr ⟨f, N, rfl, ht, hN⟩⟩
  | swap x y l =>
    intro L h
    obtain ⟨f, M, rfl, ht, h⟩ := Tups.cons.mp h
    obtain ⟨g', N, rfl, ht', h⟩ := Tups.cons.mp h
    exact ⟨g' :: f :: N, .swap _ _ _, Tups.cons.mpr ⟨_, _, rfl, ht', Tups.cons.mpr ⟨_, _, rfl, ht, h⟩⟩⟩
  | trans _ _ ih ih' =>
    intro L h
    obtain ⟨M, pM, hM⟩ := ih h
    obtain ⟨N, pN, hN⟩ := ih' hM
    exact ⟨N, pM.trans pN, hN⟩
theorem Tups.plain {α : Type} {g : α → List V} {H : Hp} {xs : List V} {L : List α} (h : Tups g H xs L) : ∀ v ∈ xs, Plain v := fun v hv => by
  obtain ⟨i, hi⟩ := List.getElem?_of_mem hv
  obtain ⟨f, _, t, rfl, _⟩ := h.at_ i v hi
  exact .inr ⟨t, rfl⟩

/-- C(), C an own class of errors without an own __init__ -/
theorem pmk_own0 {X : Cx} {C : Addr} {bmB : List Value} {B newId initId : String} {x : Str} {p pos : Pos} (F : ExcBaseFacts B newId initId bmB) (q : PySem.W.excIn X.K C bmB newId = true) (gC : X.mg x = some (.ref C)) (kC : PySem.W.keepIn X.K (.ref C) = true) (r : Raises X (.ref C)) (hg : Gl X x)
    (hdb : (x == ("__debug__" : Str)) = false := by decide) : PMk X (.Call (.Name x p) [] [] pos) (fun _ H Q => Q (.ref C) none H) := by
  intro pins s σ H Q I h
  refine wpAny_Call_Name_kw (ld_glob I hg gC ?_ hdb)
  refine PySem.W.callWith_K0 I.kIn kC ?_
  show wpAny _ _ (call (.ref C) []) _ _ _
  obtain ⟨bm, N, nm, qn, bs, hdct, sn, sub, ab, col, dd, k0, k1, k2, k3, k5, mN, hC, hN, hni, T⟩ := exc_obj I.kIn q
  refine wpAny_call_exc_subT F T hC hN hni (fun h' e hm => ?_) (Nat.zero_le _)
  exact mk_of I hm r h (I.hok.gone hm.new)
/-- where it raises nothing -/
theorem fn_calm {P : Program} {w : World} {K : PySem.W.Frag} {mg : Str → Option Value} {base : Heap} {k : Nat} {f : Addr} {fd : FuncData} {ps : List Str} {sp : Sp} (F : FnOk P w K mg base (L2.CX P w) k f fd ps sp) :
    FnOk P w K mg base CX0 k f fd ps (fun vs H Q _ => sp vs H Q E0) :=
  ⟨fun vs H Q E q => F.len vs H Q E0 q, fun A outer s H args us vs Q E hr he hb hv hs => codeAny_mono (F.run A outer s H args us vs Q E0 hr he hb hv hs) fun r s' h => by
    cases r with
    | error e =>
      obtain ⟨a, B, H', cls, d, _, _, _, _, _, _, _, z⟩ := h
      exact z.elim
    | ok fl =>
      cases fl with
      | ret u => exact h
      | next => exact h
      | brk => exact h
      | cont => exact h⟩
/-- o.m(e, ..), what is raised is wished for at the slots -/
def tMethE (C : Addr) (m : Str) (sp : Sp) (E : L2.St → XK) (ta : TE) (t : TA) : TE := fun σ H Q => ta σ H fun x H1 => ∃ a dx fs, x = .ref a ∧ H1 a = some (.ins C dx fs) ∧ fs.lookup m = none ∧ t σ H1 fun vs H2 => sp (x :: vs) H2 Q (E σ)
theorem pe_methE {X : Cx} {CX : CXT} {k : Nat} {C f : Addr} {fd : FuncData} {ps : List Str} {m : Str} {sp : Sp} {E : L2.St → XK} {o e : Expr} {es : List Expr} {ta : TE} {t : TA} {apos pos : Pos} {pl : Sem Bool} (he : PE X o ta) (c : Cls X.K C) (hm : Meth X.K C m f)
    (F : FnOk X.prog X.w X.K X.mg X.base CX k f fd ps sp) (hr : Room k X.A) (hb : Binds X.K fd ps []) (hx : ∀ σ, PassesAt CX X σ (E σ)) (ha : PA X (e :: es) t)
    (hst : starEach (e :: es) X.env = (false, eval e X.env) :: starEach es X.env := by rfl) (hpl : (backTo pos (starEach es X.env)).any (·.1) = false := by rfl)
    (ht : eval (.Call (.Attribute o m apos) (e :: es) [] pos) X.env = (do
      let ov ← eval o X.env
      standAt apos.atName
      let (f, first) ← holding [ov] (getMethod ov m pl)
      callWith pos f first (backTo pos (starEach (e :: es) X.env)) (backToKw pos (keywordEach [] X.env))) := by rfl) :
    PE X (.Call (.Attribute o m apos) (e :: es) [] pos) (tMethE C m sp E ta t) := by
  refine ⟨fun pins s σ H Q I h => ?_⟩
  refine PySem.W.methodCall_KW (pl := pl) (thn (he.run pins s σ H _ I h) fun u s1 ⟨x, H1, I1, rx, a, dx, fs, ex, ea, l, q⟩ => ?_) ht
  subst ex
  obtain rfl : u = Value.ref a := rx
  refine getmeth_ok I1 ea c hm l ?_
  refine PySem.W.callWith_K (first := [.ref a]) (h₀ := X.base) I.ok.mod.kin hm.kp (thn (ha.run pos pins s1 σ H1 _ I1 q) fun us s2 ⟨vs, H2, I2, r, q2⟩ => ⟨I2.kIn, ?_⟩) hst hpl
  exact run_fnS (us := .ref a :: us) (vs := .ref a :: vs) F hr hb (hx σ) I2 (.cons rfl r) q2
end Fv


set_option Elab.async false
set_option linter.all false
set_option maxRecDepth 100000
set_option maxHeartbeats 4000000
namespace Fv
open PySem PySem.Spec PyProof.Rows L2
/-! ### what is asked -/
/-- never reached -/
def sDead : TS := fun _ _ _ => False
theorem pss_dead {X : Cx} {st : List Stmt} : PSs X st sDead := ⟨fun _ _ _ _ _ _ h => False.elim h⟩
abbrev sAsked : Stmt := top 60
theorem xf_of {K : PySem.W.Frag} {C : Addr} (h : ExcC K C) : XfC K C := ⟨h.hg, h.hk, h.hs, h.hd⟩
/-- the three errors -/
structure Errs3 (K : PySem.W.Frag) (mg : Str → Option Value) (CN CY CP AE : Addr) : Prop where
  gA : mg "ApartError" = some (.ref AE)
  gN : mg "NoName" = some (.ref CN)
  gY : mg "NoWay" = some (.ref CY)
  gP : mg "NoPlace" = some (.ref CP)
  eN : ExcC K CN
  eY : ExcC K CY
  eP : ExcC K CP
  nN : PySem.W.findIn K (.ref CN) "name" = some none
  nY : PySem.W.findIn K (.ref CY) "index" = some none
  nP : PySem.W.findIn K (.ref CP) "place" = some none
  mN : PySem.W.exmOne K (.ref CN) (.ref AE) = some true
  mY : PySem.W.exmOne K (.ref CY) (.ref AE) = some true
  mP : PySem.W.exmOne K (.ref CP) (.ref AE) = some true
  nn : PySem.W.kitOne K (.ref CN) (.ref CN) = some true
  yn : PySem.W.kitOne K (.ref CY) (.ref CN) = some false
  yy : PySem.W.kitOne K (.ref CY) (.ref CY) = some true
  pn : PySem.W.kitOne K (.ref CP) (.ref CN) = some false
  py : PySem.W.kitOne K (.ref CP) (.ref CY) = some false
  pp : PySem.W.kitOne K (.ref CP) (.ref CP) = some true
def kindO (ks : List (Str × Str)) (z : Str) : Str × Str := if z = "" then ("told", "plain") else if kinOf ks z = true then ("told", kfOf ks z) else ("name", z)
def spAsked (C : Addr) : Sp := fun vs H Q _ => ∃ (x dx kd pp rr wv : Addr) (xs : List V) (ks : List (Str × Str)) (zs rs : List Str) (n : Int) (ws : List PyData) (st : Int) (v : V), vs = [.ref x, .int st, v] ∧ ProcW C H x dx kd pp rr wv xs ks zs rs n ws ∧ WaysF ws ∧ ws.length ≤ 50 ∧
  ((st = 0 ∧ ∃ z, v = .str z ∧ (z = "" ∨ nameS z = true) ∧ ∀ H' p, Same H H' → H' p = some (.tup [.str (kindO ks z).1, .str (kindO ks z).2]) → Q (.ref p) H') ∨
   (st = 1 ∧ ∃ i : Int, v = .int i ∧ (∀ (j : Nat) (u : V), i = (j : Int) → xs[j]? = some u → ∀ H' p, Same H H' → H' p = some (.tup [.str "told", u]) → Q (.ref p) H') ∧ ((i < 0 ∨ (ws.length : Int) ≤ i) → ∀ H' p, Same H H' → H' p = some (.tup [.str "way", .int i]) → Q (.ref p) H')) ∨
   (st = 2 ∧ ∃ i : Int, v = .int i ∧ (0 ≤ i → i < n → ∀ H' p l, Same H H' → l ≠ sysModules → H' l = some (.lst ((outI ws i ws.length).map V.int)) → H' p = some (.tup [.str "told", .ref l]) → Q (.ref p) H') ∧ ((i < 0 ∨ n ≤ i) → ∀ H' p, Same H H' → H' p = some (.tup [.str "place", .int i]) → Q (.ref p) H')))
section
variable {P : Program} {w : World} {K : PySem.W.Frag} {mg : Str → Option Value} {base : Heap} {C CN CY CP AE : Addr}
abbrev nAsk : List Str := ["_law_made", "_law_style", "_law_value", "e"]
theorem scAsk : FnScope nAsk ["_law_made", "_law_style", "_law_value"] (defScope sAsked) := ⟨rfl, rfl, rfl, by decide +kernel, rfl, by decide +kernel, by decide +kernel⟩
theorem ly {kd pp rr wv : Addr} {n : Int} : (flds5 kd pp rr n wv).lookup ("way" : Str) = none := by rfl
theorem lo {kd pp rr wv : Addr} {n : Int} : (flds5 kd pp rr n wv).lookup ("out" : Str) = none := by rfl
theorem ok_asked {f fk fy fo : Addr} {fd fdk fdy fdo : FuncData} (F : Fun K "_law_asked" "_law_asked" sAsked f fd) (T : ProcC K C) (E3 : Errs3 K mg CN CY CP AE)
    (Mk_ : Meth K C "kind" fk) (Gk : FnOk P w K mg base (L2.CX P w) 3 fk fdk ["self", "source"] (spKindA C CN)) (bk : Binds K fdk ["self", "source"] [])
    (My : Meth K C "way" fy) (Gy : FnOk P w K mg base (L2.CX P w) 3 fy fdy ["self", "index"] (spWayA C CY)) (by_ : Binds K fdy ["self", "index"] [])
    (Mo : Meth K C "out" fo) (Go : FnOk P w K mg base (L2.CX P w) 3 fo fdo ["self", "place"] (spOutA C CP)) (bo : Binds K fdo ["self", "place"] [])
    (mq : mg "isinstance" = none) : FnOk P w K mg base CX0 4 f fd ["_law_made", "_law_style", "_law_value"] (spAsked C) := by
  refine F.ok scAsk (fun vs H Q E h => ?_) (fun cdv A outer s H vs Q E hr h => ?_)
  · obtain ⟨_, _, _, _, _, _, _, _, _, _, _, _, _, _, rfl, _⟩ := h
    rfl
  · obtain ⟨x, dx, kd, pp, rr, wv, xs, ks, zs, rs, n, ws, st, v, rfl, PW_, wf, wl, h⟩ := h
    have hr3 : Room 3 _ := hr.mono (by decide)
    refine ⟨_, pss_cons (ps_try_as (i := 3) (Wout := fun _ _ _ _ => False) rfl rfl scAsk.nd rfl rfl ⟨rfl, by decide, Or.inl E3.gA⟩ takes0
        (fun W pn xe tk _ => pss_cons (ps_if (pt_cmpR op_eq (pv 1) pe_int (nomark _)) (pss_one (ps_ret (pe_tup (pa_cons pe_str (pa_cons (by exact (pe_methE (pv 0) T.cl Mk_ Gk hr bk (fun σ => passAt tk σ) (by exact (pa_cons (pv 2) pa_nil)))) pa_nil))))) pss_nil)
          (pss_one (ps_ret (pe_tup (pa_cons pe_str (pa_cons (pe_ifExp (pt_cmpR op_eq (pv 1) pe_int (nomark _)) (by exact (pe_methE (pv 0) T.cl My Gy hr by_ (fun σ => passAt tk σ) (by exact (pa_cons (pv 2) pa_nil)))) (by exact (pe_methE (pv 0) T.cl Mo Go hr bo (fun σ => passAt tk σ) (by exact (pa_cons (pv 2) pa_nil))))) pa_nil))))))
        (fun a oe cls d pn hz hf => pss_cons (ps_if (pt_val (pe_callB (id := "isinstance") (r := rIsQ K a cls d) (by exact (call_isQ List.mem_cons_self hz hf)) (by rfl) mq (by decide +kernel) (pa_cons (pv 3) (pa_cons (pe_glob (v := .ref CN) (by rfl) E3.gN rfl) pa_nil)))) (pss_one (ps_ret (pe_tup (pa_cons pe_str (pa_cons (by exact (pe_xfQ (K := K) (i := 3) rfl List.mem_cons_self hz hf (by exact (pv 3)))) pa_nil))))) pss_nil)
          (pss_cons (ps_if (pt_val (pe_callB (id := "isinstance") (r := rIsQ K a cls d) (by exact (call_isQ List.mem_cons_self hz hf)) (by rfl) mq (by decide +kernel) (pa_cons (pv 3) (pa_cons (pe_glob (v := .ref CY) (by rfl) E3.gY rfl) pa_nil)))) (pss_one (ps_ret (pe_tup (pa_cons pe_str (pa_cons (by exact (pe_xfQ (K := K) (i := 3) rfl List.mem_cons_self hz hf (by exact (pv 3)))) pa_nil))))) pss_nil)
          (pss_one (ps_ret (pe_ifExp (pt_val (pe_callB (id := "isinstance") (r := rIsQ K a cls d) (by exact (call_isQ List.mem_cons_self hz hf)) (by rfl) mq (by decide +kernel) (pa_cons (pv 3) (pa_cons (pe_glob (v := .ref CP) (by rfl) E3.gP rfl) pa_nil)))) (pe_tup (pa_cons pe_str (pa_cons (by exact (pe_xfQ (K := K) (i := 3) rfl List.mem_cons_self hz hf (by exact (pv 3)))) pa_nil))) (pe_tup (pa_cons pe_str (pa_cons pe_int pa_nil)))))))))
      pss_dead, ?_⟩
    rw [show L2.start nAsk [V.ref x, V.int st, v] = [some (.ref x), some (.int st), some v, none] from rfl]
    have hx := PW_.hx
    have tst : ∀ {i j : Int} {b : Bool}, decide (i = j) = b → decide (V.int i = V.int j) = b := fun {i j b} h => by
      rw [← h]
      by_cases z : i = j
      · rw [decide_eq_true z, decide_eq_true (by rw [z])]
      · rw [decide_eq_false z, decide_eq_false (fun e => z (V.int.inj e))]
    rcases h with ⟨rfl, z, rfl, hz, q⟩ | ⟨rfl, i, rfl, q, qE⟩ | ⟨rfl, i, rfl, q, qE⟩
    · refine ⟨_, rfl, rfl, _, rfl, ?_⟩
      rw [tst (b := true) (by decide)]
      refine iteT ⟨_, rfl, x, dx, _, rfl, hx, lkk, _, rfl, x, dx, ks, zs, rs, n, ws, z, rfl, PW_.at, hz, fun h0 => ⟨by show 2 ≤ sizeLine; decide, fun t nt => ?_⟩, fun h1 h2 H' s' => ⟨by show 2 ≤ sizeLine; decide, fun t nt => ?_⟩, fun h1 h2 H1 d s1 nd => ⟨true, E3.mN, fun _ a na => ?_, fun z => nomatch z⟩⟩
      · have e : kindO ks z = (("told" : Str), ("plain" : Str)) := if_pos h0
        exact q _ t (same_upd nt) (by rw [e]; exact upd_same)
      · have hne : ¬ z = "" := fun e => by
          subst e
          cases h1
        have e : kindO ks z = (("told" : Str), kfOf ks z) := by unfold kindO; rw [if_neg hne, if_pos h2]
        exact q _ t (s'.trans (same_upd nt)) (by rw [e]; exact upd_same)
      · refine ⟨_, rfl, CN, d, _, _, _, _, rfl, rfl, rfl, upd_same, E3.eN, .own _, E3.nn, _, rfl, iteT ?_⟩
        refine ⟨_, rfl, rfl, CN, d, _, _, rfl, rfl, upd_same, xf_of E3.eN, E3.nN, rfl, by show 2 ≤ sizeLine; decide, fun t nt => ?_⟩
        have hne : ¬ z = "" := fun e => by
          subst e
          cases h1
        have e : kindO ks z = (("name" : Str), z) := by unfold kindO; rw [if_neg hne, if_neg (by rw [h2]; decide)]
        exact q _ t ((s1.trans (same_upd nd)).trans (same_upd nt)) (by rw [e]; exact upd_same)
    · refine ⟨_, rfl, rfl, _, rfl, ?_⟩
      rw [tst (b := false) (by decide)]
      refine iteF ⟨_, rfl, rfl, _, rfl, ?_⟩
      rw [tst (b := true) (by decide)]
      refine iteT ⟨_, rfl, x, dx, _, rfl, hx, ly, _, rfl, x, dx, kd, pp, rr, wv, xs, ks, zs, rs, n, ws, i, rfl, PW_, fun j ej u hu => ⟨by show 2 ≤ sizeLine; decide, fun t nt => ?_⟩, fun hbad H1 d s1 nd => ⟨true, E3.mY, fun _ a na => ?_, fun z => nomatch z⟩⟩
      · exact q j u ej hu _ t (same_upd nt) upd_same
      · refine ⟨_, rfl, CY, d, _, _, _, _, rfl, rfl, rfl, upd_same, E3.eY, .own _, E3.yn, _, rfl, iteF ?_⟩
        refine ⟨_, rfl, CY, d, _, _, _, _, rfl, rfl, rfl, upd_same, E3.eY, .own _, E3.yy, _, rfl, iteT ?_⟩
        refine ⟨_, rfl, rfl, CY, d, _, _, rfl, rfl, upd_same, xf_of E3.eY, E3.nY, rfl, by show 2 ≤ sizeLine; decide, fun t nt => ?_⟩
        exact qE hbad _ t ((s1.trans (same_upd nd)).trans (same_upd nt)) upd_same
    · refine ⟨_, rfl, rfl, _, rfl, ?_⟩
      rw [tst (b := false) (by decide)]
      refine iteF ⟨_, rfl, rfl, _, rfl, ?_⟩
      rw [tst (b := false) (by decide)]
      refine iteF ⟨_, rfl, x, dx, _, rfl, hx, lo, _, rfl, x, dx, kd, pp, rr, wv, xs, ks, zs, rs, n, ws, i, rfl, PW_, wf, wl, fun h0 h1 H' l s' nl wl' el => ⟨by show 2 ≤ sizeLine; decide, fun t nt => ?_⟩, fun hbad H1 d s1 nd => ⟨true, E3.mP, fun _ a na => ?_, fun z => nomatch z⟩⟩
      · have w1 := same_upd (o := .tup [.str "told", .ref l]) nt
        exact q h0 h1 _ t l (s'.trans w1) wl' (w1 _ _ el) upd_same
      · refine ⟨_, rfl, CP, d, _, _, _, _, rfl, rfl, rfl, upd_same, E3.eP, .own _, E3.pn, _, rfl, iteF ?_⟩
        refine ⟨_, rfl, CP, d, _, _, _, _, rfl, rfl, rfl, upd_same, E3.eP, .own _, E3.py, _, rfl, iteF ?_⟩
        refine ⟨_, rfl, CP, d, _, _, _, _, rfl, rfl, rfl, upd_same, E3.eP, .own _, E3.pp, _, rfl, iteT ?_⟩
        refine ⟨_, rfl, rfl, CP, d, _, _, rfl, rfl, upd_same, xf_of E3.eP, E3.nP, rfl, by show 2 ≤ sizeLine; decide, fun t nt => ?_⟩
        exact qE hbad _ t ((s1.trans (same_upd nd)).trans (same_upd nt)) upd_same
end
end Fv


set_option Elab.async false
set_option linter.all false
set_option maxRecDepth 100000
set_option maxHeartbeats 4000000
namespace Fv
open PySem PySem.Spec PyProof.Rows L2
/-! ### data that are short, and shown at once -/
structure Gd (n W : Nat) (d : PyData) : Prop where
  m : okM d
  rp : Rp n W d
def GdAll (n W : Nat) (ds : List PyData) : Prop := ∀ d ∈ ds, Gd n W d
theorem Gd.mono {n W m V : Nat} {d : PyData} (h : Gd n W d) (hn : n ≤ m) (hw : W ≤ V) : Gd m V d := ⟨h.m, h.rp.mono hn hw⟩
theorem GdAll.mono {n W m V : Nat} {d : List PyData} (h : GdAll n W d) (hn : n ≤ m) (hw : W ≤ V) : GdAll m V d := fun e he => (h e he).mono hn hw
theorem GdAll.set {n W : Nat} {d : PyData} {ds : List PyData} {i : Nat} (h : GdAll n W ds) (g : Gd n W d) : GdAll n W (ds.set i d) := fun e he => by
  rcases List.mem_or_eq_of_mem_set he with h1 | rfl
  · exact h e h1
  · exact g
theorem GdAll.append {n W : Nat} {ds es : List PyData} (h : GdAll n W ds) (g : GdAll n W es) : GdAll n W (ds ++ es) := fun e he => (List.mem_append.mp he).elim (h e) (g e)
theorem GdAll.take {n W : Nat} {ds : List PyData} {i : Nat} (h : GdAll n W ds) : GdAll n W (ds.take i) := fun e he => h e (List.mem_of_mem_take he)
theorem okMs_of : ∀ {ds : List PyData}, (∀ d ∈ ds, okM d) → okMs ds
  | [], _ => True.intro
  | d :: ds, h => ⟨h d List.mem_cons_self, okMs_of fun e he => h e (List.mem_cons_of_mem _ he)⟩
theorem GdAll.tupL {n W L : Nat} {ds : List PyData} (h : GdAll n W ds) (hl : ds.length ≤ L) (hL : L ≤ 24) : Gd (n + 1) (L * (W + 2) + 3) (.tuple ds) := ⟨⟨by omega, okMs_of fun d hd => (h d hd).m⟩, (RpS.upTo (fun d hd => (h d hd).rp) hl).tup⟩
theorem GdAll.lstL {n W L : Nat} {ds : List PyData} (h : GdAll n W ds) (hl : ds.length ≤ L) (hL : L ≤ 24) : Gd (n + 1) (L * (W + 2) + 3) (.list ds) := ⟨⟨by omega, okMs_of fun d hd => (h d hd).m⟩, (RpS.upTo (fun d hd => (h d hd).rp) hl).lst⟩
theorem GdAll.tup {ds : List PyData} (h : GdAll 3 200 ds) (hl : ds.length ≤ 4) : Gd 4 811 (.tuple ds) := h.tupL hl (by decide)
theorem GdAll.lst {ds : List PyData} (h : GdAll 3 200 ds) (hl : ds.length ≤ 4) : Gd 4 811 (.list ds) := h.lstL hl (by decide)
theorem GdAll.tup21 {ds : List PyData} (h : GdAll 4 811 ds) (hl : ds.length ≤ 21) : Gd 5 17100 (.tuple ds) := (h.tupL hl (by decide)).mono (by decide) (by decide)
theorem GdAll.lst21 {ds : List PyData} (h : GdAll 4 811 ds) (hl : ds.length ≤ 21) : Gd 5 17100 (.list ds) := (h.lstL hl (by decide)).mono (by decide) (by decide)
theorem GdAll.tup5 {ds : List PyData} (h : GdAll 5 17100 ds) (hl : ds.length ≤ 5) : Gd 6 85520 (.tuple ds) := (h.tupL hl (by decide)).mono (by decide) (by decide)
theorem GdAll.lst5 {ds : List PyData} (h : GdAll 5 17100 ds) (hl : ds.length ≤ 5) : Gd 6 85520 (.list ds) := (h.lstL hl (by decide)).mono (by decide) (by decide)
theorem OddG.gd {nm : Str} {d : PyData} (h : OddG nm d) : Gd 3 200 d := ⟨h.m, h.rp⟩
theorem nat_len {n k : Nat} (hk : 1 ≤ k) (h : n < 10 ^ k) : (toString n).length ≤ k := by
  rw [Nat.toString_eq_ofList_toDigits, String.length_ofList]
  exact toDigits_len_pow (by decide) hk h
theorem ilen {i : Int} {k : Nat} (hk : 1 ≤ k) (h : i.natAbs < 10 ^ k) : (PyData.int i).shown.length ≤ k + 1 := by
  rw [PyData.shown_int, PySem.ofString_length]
  cases i with
  | ofNat n =>
    show (toString n).length ≤ _
    have := nat_len hk (show n < 10 ^ k from h)
    omega
  | negSucc n =>
    show ("-" ++ toString (n + 1)).length ≤ _
    rw [String.length_append]
    have := nat_len hk (show n + 1 < 10 ^ k from h)
    have e : ("-" : String).length = 1 := by decide +kernel
    omega
theorem gd_int {i : Int} (l : -(10 ^ 39) ≤ i) (u : i ≤ 10 ^ 39) : Gd 0 92 (.int i) := by
  have hn : i.natAbs ≤ 10 ^ 39 := by
    have e : ((10 ^ 39 : Nat) : Int) = 10 ^ 39 := by decide
    omega
  have h2 : i.natAbs < 2 ^ 130 := Nat.lt_of_le_of_lt hn (by decide)
  have hl : i.natAbs.log2 < 130 := by
    by_cases z : i.natAbs = 0
    · rw [z]; decide
    · exact (Nat.log2_lt z).mpr h2
  refine ⟨True.intro, by rw [PyData.showable]; exact decide_eq_true (by omega), ?_, by simp [PyData.depth]⟩
  show (PyData.int i).shown.length ≤ 92
  have := ilen (i := i) (k := 40) (by decide) (Nat.lt_of_le_of_lt hn (by decide))
  omega
theorem gd_str {z : Str} (h : z.length ≤ 9) (k : ∀ c ∈ z.cps.toList, c < 128) : Gd 0 92 (.str z) := ⟨⟨by omega, k⟩, rp_str h k⟩
theorem gd_name {d : PyData} (h : nameD d = true) : Gd 0 92 d := by
  obtain ⟨z, rfl⟩ := name_str h
  have h : nameS z = true := h
  unfold nameS at h
  simp only [Bool.and_eq_true, decide_eq_true_eq, List.all_eq_true] at h
  exact gd_str (by omega) fun c hc => asc_128 (h.2 c hc)
theorem gd_source {d : PyData} (h : sourceD d = true) : Gd 0 92 d := by
  unfold sourceD at h
  rcases Bool.or_eq_true_iff.mp h with h | h
  · exact gd_name h
  · cases d with
    | str z =>
      have : z.length = 0 := of_decide_eq_true h
      have hz : z.cps.toList = [] := List.eq_nil_of_length_eq_zero (by rw [Array.length_toList]; exact this)
      exact gd_str (by omega) fun c hc => by rw [hz] at hc; cases hc
    | _ => cases h
theorem part_good {e : PyData} (h : pairD e = true ∨ tripD e = true) (hb : -(10 ^ 39) ≤ lastI e ∧ lastI e ≤ 10 ^ 39) : ∃ fs, e = .tuple fs ∧ fs.length ≤ 3 ∧ GdAll 0 92 fs := by
  rcases h with h | h
  · obtain ⟨y, c, rfl⟩ := pair_shape h
    have h : (sourceD (.str y) && intD (.int c)) = true := h
    rw [Bool.and_eq_true] at h
    refine ⟨_, rfl, by show 2 ≤ 3; decide, fun d hd => ?_⟩
    rcases List.mem_cons.mp hd with rfl | hd
    · exact gd_source h.1
    · obtain rfl := List.mem_singleton.mp hd
      exact gd_int hb.1 hb.2
  · obtain ⟨x, y, c, rfl⟩ := trip_shape h
    have h : (nameD (.str x) && sourceD (.str y) && intD (.int c)) = true := h
    rw [Bool.and_eq_true, Bool.and_eq_true] at h
    refine ⟨_, rfl, by show 3 ≤ 3; decide, fun d hd => ?_⟩
    rcases List.mem_cons.mp hd with rfl | hd
    · exact gd_name h.1.1
    · rcases List.mem_cons.mp hd with rfl | hd
      · exact gd_source h.1.2
      · obtain rfl := List.mem_singleton.mp hd
        exact gd_int hb.1 hb.2
def Row (e : PyData) : Prop := ∃ es, e = .tuple es ∧ es.length ≤ 20 ∧ ∀ x ∈ es, Gd 0 92 x ∨ ∃ fs, x = .tuple fs ∧ fs.length ≤ 3 ∧ GdAll 0 92 fs
theorem fz_tup {e : PyData} (hr : rowD e = true) (f : fz e = e) : ∃ es, e = .tuple es := by
  cases e with
  | tuple es => exact ⟨es, rfl⟩
  | list es => cases f
  | _ => cases hr
theorem row_of_parts {e : PyData} (hr : rowD e = true) (f : fz e = e) (hl : (itemsD e).length ≤ 20) (ha : ∀ x ∈ itemsD e, (pairD x = true ∨ tripD x = true) ∧ -(10 ^ 39) ≤ lastI x ∧ lastI x ≤ 10 ^ 39) : Row e := by
  obtain ⟨es, rfl⟩ := fz_tup hr f
  exact ⟨es, rfl, hl, fun x hx => .inr (part_good (ha x hx).1 (ha x hx).2)⟩
theorem st_deep {ds : List PyData} (h : stD (.tuple ds) = true) (f : frozenD (.tuple ds) = .tuple ds) (sm : smallSt (.tuple ds)) : ∀ e ∈ ds, Gd 0 92 e ∨ Row e := by
  have ff := fz_fixed (PyData.tuple.inj f)
  obtain ⟨_, s2, s3⟩ := sm
  have sh := st_shape h
  have word : ∀ {w : Str}, ok9 w = true → Gd 0 92 (.str w) := fun {w} h => by
    unfold ok9 at h
    simp only [Bool.and_eq_true, decide_eq_true_eq, List.all_eq_true] at h
    exact gd_str h.1 h.2
  cases sh with
  | skip =>
    intro e he
    obtain rfl := List.mem_singleton.mp he
    exact .inl (word (by decide +kernel))
  | @set p hp =>
    intro e he
    rcases List.mem_cons.mp he with rfl | he
    · exact .inl (word (by decide +kernel))
    · obtain rfl := List.mem_singleton.mp he
      have ha := sets_all hp
      exact .inr (row_of_parts (row_sets hp) (ff _ (List.mem_cons_of_mem _ List.mem_cons_self)) (s3 _ (List.mem_cons_of_mem _ List.mem_cons_self)) fun x hx => ⟨.inr (List.all_eq_true.mp ha x hx), s2 x hx⟩)
  | @most w x p hw h2 h3 h4 =>
    intro e he
    rcases List.mem_cons.mp he with rfl | he
    · rcases hw with rfl | rfl
      · exact .inl (word (by decide +kernel))
      · exact .inl (word (by decide +kernel))
    · rcases List.mem_cons.mp he with rfl | he
      · exact .inl (gd_name h2)
      · obtain rfl := List.mem_singleton.mp he
        have ha := parts_all h3
        have hm : e ∈ [PyData.str w, .str x, e] := List.mem_cons_of_mem _ (List.mem_cons_of_mem _ List.mem_cons_self)
        exact .inr (row_of_parts (row_parts h3) (ff _ hm) (s3 _ hm) fun x hx => ⟨.inl (List.all_eq_true.mp ha x hx), s2 x hx⟩)
  | @call x p r h2 h3 h4 =>
    intro e he
    rcases List.mem_cons.mp he with rfl | he
    · exact .inl (word (by decide +kernel))
    · rcases List.mem_cons.mp he with rfl | he
      · exact .inl (gd_name h2)
      · rcases List.mem_cons.mp he with rfl | he
        · have ha := parts_all h3
          have hm : e ∈ [PyData.str "call", .str x, e, r] := List.mem_cons_of_mem _ (List.mem_cons_of_mem _ List.mem_cons_self)
          exact .inr (row_of_parts (row_parts h3) (ff _ hm) (s3 _ hm) fun x hx => ⟨.inl (List.all_eq_true.mp ha x hx), s2 x hx⟩)
        · obtain rfl := List.mem_singleton.mp he
          have hm : e ∈ [PyData.str "call", .str x, p, e] := List.mem_cons_of_mem _ (List.mem_cons_of_mem _ (List.mem_cons_of_mem _ List.mem_cons_self))
          obtain ⟨hr, ha⟩ := row_names h4
          obtain ⟨es, rfl⟩ := fz_tup hr (ff _ hm)
          exact .inr ⟨es, rfl, s3 _ hm, fun x hx => .inl (gd_name (List.all_eq_true.mp ha x hx))⟩
theorem row_items {es : List PyData} (h : Row (.tuple es)) : GdAll 4 811 es := fun x hx => by
  obtain ⟨es', e, _, ha⟩ := h
  cases e
  rcases ha x hx with g | ⟨fs, rfl, hl, g⟩
  · exact g.mono (by decide) (by decide)
  · exact (g.mono (m := 3) (V := 200) (by decide) (by decide)).tup (by omega)
theorem row_part {es fs : List PyData} (h : Row (.tuple es)) (hx : PyData.tuple fs ∈ es) (h1 : 1 ≤ fs.length) : GdAll 3 200 fs := by
  obtain ⟨es', e, _, ha⟩ := h
  cases e
  rcases ha _ hx with g | ⟨fs', e, hl, g⟩
  · intro d hd
    have hm := okMs.mem g.m.2 d hd
    have := g.rp.dp
    rw [PyData.depth] at this
    omega
  · cases e
    exact g.mono (by decide) (by decide)
theorem st_good {ds : List PyData} (h : stD (.tuple ds) = true) (f : frozenD (.tuple ds) = .tuple ds) (sm : smallSt (.tuple ds)) : GdAll 5 17100 ds := fun e he => by
  rcases st_deep h f sm e he with g | g
  · exact g.mono (by decide) (by decide)
  · have g0 := g
    obtain ⟨es, rfl, hl, _⟩ := g
    exact (row_items g0).tup21 (by omega)
theorem kind_gd {k : Str} (h : kindS k) : Gd 0 92 (.str k) := by
  rcases h with rfl | rfl | rfl <;> exact ⟨⟨by decide +kernel, by decide +kernel⟩, rp_dec (by decide +kernel)⟩
theorem nm_gd {z : Str} (h : NmOk z) : Gd 0 92 (.str z) := gd_name (d := .str z) h.name
theorem names_gd {zs : List Str} (h : ∀ z ∈ zs, NmOk z) : GdAll 0 92 (zs.map .str) := fun e he => by
  obtain ⟨z, hz, rfl⟩ := List.mem_map.mp he
  exact nm_gd (h z hz)
theorem ways_gd {ds : List PyData} (h : GdAll 7 86000 ds) (hl : ds.length ≤ 24) : Gd 8 2064100 (.list ds) := (h.lstL hl (by decide)).mono (by decide) (by decide)
theorem kin_gd {ps : List (PyData × PyData)} (h : ∀ p ∈ ps, Gd 3 200 p.1 ∧ Gd 3 200 p.2) (hl : ps.length ≤ 24) : Gd 8 2064100 (.dict ps) := by
  refine ⟨True.intro, (RpK.dct (RpK.all (n := 3) (W := 200) fun p hp => ⟨(h p hp).1.rp, (h p hp).2.rp⟩)).mono (by decide) ?_⟩
  have : ps.length * (2 * 200 + 4) ≤ 24 * (2 * 200 + 4) := Nat.mul_le_mul_right _ hl
  omega
theorem way3 {a c st : PyData} (ha : Gd 3 200 a) (hc : Gd 3 200 c) (hs : Gd 6 85520 st) : Gd 7 86000 (.list [a, c, st]) ∧ Gd 7 86000 (.tuple [a, c, st]) := by
  have r : RpS 6 85928 [a, c, st] := (RpS.cons (ha.rp.mono (by decide) (Nat.le_refl _)) (RpS.cons (hc.rp.mono (by decide) (Nat.le_refl _)) (RpS.cons hs.rp .nil))).mono (Nat.le_refl _) (by decide)
  exact ⟨⟨⟨by show 3 ≤ 24; decide, ha.m, hc.m, hs.m, True.intro⟩, r.lst.mono (Nat.le_refl _) (by decide)⟩, ⟨⟨by show 3 ≤ 24; decide, ha.m, hc.m, hs.m, True.intro⟩, r.tup.mono (Nat.le_refl _) (by decide)⟩⟩
theorem st_gd {st : PyData} (hst : stD st = true) (hfz : frozenD st = st) (hsm : smallSt st) : Gd 6 85520 st := by
  have sh := st_len (ds := itemsD st) (by
    cases st_shape hst <;> exact hst)
  have ed : st = .tuple (itemsD st) := by cases st_shape hst <;> rfl
  rw [ed]
  rw [ed] at hst hfz hsm
  exact (st_good hst hfz hsm).tup5 (by omega)
mutual
theorem can_lay : ∀ {d : PyData}, okM d → noL d → d.canLay0 = true
  | .none, _, _ => by rw [PyData.canLay0]
  | .bool _, _, _ => by rw [PyData.canLay0]
  | .int _, _, _ => by rw [PyData.canLay0]
  | .str z, h, _ => by
    rw [PyData.canLay0]
    unfold PyData.strOk
    rw [← Array.all_toList, List.all_eq_true]
    exact fun x hx => decide_eq_true (Nat.lt_of_lt_of_le (h.2 x hx) (by decide))
  | .tuple ds, h, k => by
    rw [PyData.canLay0]
    exact can_lays h.2 k
  | .list _, _, k => k.elim
  | .dict _, _, k => k.elim
theorem can_lays : ∀ {ds : List PyData}, okMs ds → noLs ds → PyData.canLayAll0 ds = true
  | [], _, _ => by rw [PyData.canLayAll0]
  | d :: ds, h, k => by
    rw [PyData.canLayAll0, can_lay h.1 k.1, can_lays h.2 k.2]
    rfl
end
end Fv


set_option Elab.async false
set_option linter.all false
set_option maxRecDepth 100000
set_option maxHeartbeats 4000000
namespace Fv
open PySem PySem.Spec PyProof.Rows L2
/-! ### what is compared is short -/
theorem alike_of {n W : Nat} {d : PyData} (h : Rp n W d) (hn : n ≤ 20) (hW : W ≤ 16000000) (hl : d.canLay0 = true) : AlikeOk d := ⟨W, h.mono hn (Nat.le_refl _), by rw [sizeLine_eq]; omega, .inl hl⟩
theorem lay_list {ds : List PyData} (h : PyData.canLayAll0 ds = true) : (PyData.list ds).canLay0 = true := by rw [PyData.canLay0]; exact h
theorem lay_tup {ds : List PyData} (h : PyData.canLayAll0 ds = true) : (PyData.tuple ds).canLay0 = true := by rw [PyData.canLay0]; exact h
theorem lay_cons {d : PyData} {ds : List PyData} (h : d.canLay0 = true) (k : PyData.canLayAll0 ds = true) : PyData.canLayAll0 (d :: ds) = true := by rw [PyData.canLayAll0, h, k]; rfl
theorem lay_nil : PyData.canLayAll0 [] = true := by rw [PyData.canLayAll0]
theorem lay_all {ds : List PyData} (h : ∀ d ∈ ds, d.canLay0 = true) : PyData.canLayAll0 ds = true := by
  induction ds with
  | nil => exact lay_nil
  | cons d ds ih => exact lay_cons (h d List.mem_cons_self) (ih fun e he => h e (List.mem_cons_of_mem _ he))
theorem lay_int (i : Int) : (PyData.int i).canLay0 = true := by rw [PyData.canLay0]
theorem lay_gd {n W : Nat} {z : Str} (h : Gd n W (.str z)) : (PyData.str z).canLay0 = true := can_lay h.m True.intro
theorem way_in {n : Int} {ks : List (Str × Str)} {e : PyData} (h : WayIn n ks e) (h4 : n ≤ 4) : Gd 7 86000 e ∧ e.canLay0 = true := by
  obtain ⟨i, j, d, rfl, i0, i1, j0, j1, hd, hst, hfz, hsm, _⟩ := h
  have e39 : (4 : Int) ≤ 10 ^ 39 := by decide
  have gi : Gd 3 200 (.int i) := (gd_int (by omega) (by omega)).mono (by decide) (by decide)
  have gj : Gd 3 200 (.int j) := (gd_int (by omega) (by omega)).mono (by decide) (by decide)
  have gs := st_gd hst hfz hsm
  exact ⟨(way3 gi gj gs).2, lay_tup (lay_cons (lay_int _) (lay_cons (lay_int _) (lay_cons (can_lay gs.m (st_noL hst hfz)) lay_nil)))⟩
theorem ways_f {n : Int} {ks : List (Str × Str)} {ws : List PyData} (h : ∀ e ∈ ws, WayIn n ks e) : WaysF ws := fun e he => by
  obtain ⟨i, j, d, e1, _⟩ := h e he
  exact ⟨i, j, d, e1⟩
theorem kinS_ok {ks : List (Str × Str)} (h : KindsOk ks) : KindsOk (kinS ks) := by
  have each : ∀ p ∈ kinS ks, NmOk p.1 ∧ kindS p.2 := fun p hp => by
    unfold kinS at hp
    obtain ⟨z, hz, rfl⟩ := List.mem_map.mp hp
    have hm : z ∈ ks.map (·.1) := (sortL_perm _).mem_iff.mp hz
    obtain ⟨k, ek, hk⟩ := kin_get hm h.kd
    obtain ⟨pr, hpr, e⟩ := List.mem_map.mp hm
    refine ⟨by rw [← e]; exact h.nm pr hpr, ?_⟩
    show kindS (kfOf ks z)
    rw [(kin_is ek).2]
    exact hk
  exact ⟨by rw [kinS_fst]; exact keys_nd h.nd, fun p hp => (each p hp).1, fun p hp => (each p hp).2⟩
theorem alike_told {n : Int} {ks : List (Str × Str)} {e : PyData} (h : WayIn n ks e) (h4 : n ≤ 4) : AlikeOk (.tuple [.str "told", e]) := by
  obtain ⟨g, l⟩ := way_in h h4
  have gt : Gd 0 92 (.str "told") := gd_str (by decide +kernel) (by decide +kernel)
  have r : RpS 7 86200 [.str "told", e] := (RpS.cons (gt.rp.mono (by decide) (Nat.le_refl _)) (RpS.cons g.rp .nil)).mono (Nat.le_refl _) (by decide)
  exact alike_of r.tup (by decide) (by decide) (lay_tup (lay_cons (lay_gd gt) (lay_cons l lay_nil)))
theorem alike_two {z : Str} {i : Int} (hz : Gd 0 92 (.str z)) (l : -(10 ^ 39) ≤ i) (u : i ≤ 10 ^ 39) : AlikeOk (.tuple [.str z, .int i]) := by
  have gi := gd_int l u
  have r : RpS 0 200 [.str z, .int i] := (RpS.cons hz.rp (RpS.cons gi.rp .nil)).mono (Nat.le_refl _) (by decide)
  exact alike_of r.tup (by decide) (by decide) (lay_tup (lay_cons (lay_gd hz) (lay_cons (lay_int _) lay_nil)))
theorem alike_int {i : Int} (l : -(10 ^ 39) ≤ i) (u : i ≤ 10 ^ 39) : AlikeOk (.int i) := alike_of (gd_int l u).rp (by decide) (by decide) (lay_int i)
theorem out_mem {ws : List PyData} {i : Int} {m : Nat} : ∀ z ∈ outI ws i m, 0 ≤ z ∧ z < m := fun z hz => by
  unfold outI at hz
  obtain ⟨j, hj, e⟩ := List.mem_filterMap.mp hz
  have hj := List.mem_range.mp hj
  split at e
  · split at e
    · cases e
      omega
    · cases e
  · cases e
theorem out_len {ws : List PyData} {i : Int} {m : Nat} : (outI ws i m).length ≤ m := by
  have h : (outI ws i m).length ≤ (List.range m).length := List.length_filterMap_le ..
  rwa [List.length_range] at h
theorem alike_out {ws : List PyData} {i : Int} {m : Nat} (hm : m ≤ 24) : AlikeOk (.tuple [.str "told", .list ((outI ws i m).map .int)]) := by
  have gt : Gd 0 92 (.str "told") := gd_str (by decide +kernel) (by decide +kernel)
  have e39 : (24 : Int) ≤ 10 ^ 39 := by decide
  have ga : GdAll 0 92 ((outI ws i m).map .int) := fun e he => by
    obtain ⟨z, hz, rfl⟩ := List.mem_map.mp he
    have := out_mem z hz
    exact gd_int (by omega) (by omega)
  have gl : Gd 1 3000 (.list ((outI ws i m).map .int)) := (ga.lstL (L := 24) (by rw [List.length_map]; have := out_len (ws := ws) (i := i) (m := m); omega) (by decide)).mono (by decide) (by decide)
  have r : RpS 1 4000 [.str "told", .list ((outI ws i m).map .int)] := (RpS.cons (gt.rp.mono (by decide) (Nat.le_refl _)) (RpS.cons gl.rp .nil)).mono (Nat.le_refl _) (by decide)
  refine alike_of r.tup (by decide) (by decide) (lay_tup (lay_cons (lay_gd gt) (lay_cons (lay_list (lay_all fun d hd => ?_)) lay_nil)))
  obtain ⟨z, _, rfl⟩ := List.mem_map.mp hd
  exact lay_int z
theorem alike_srcs {as bs : List Str} (ha : ∀ z ∈ as, z = "" ∨ NmOk z) (hb : ∀ z ∈ bs, z = "" ∨ NmOk z) (la : as.length ≤ 24) (lb : bs.length ≤ 24) : AlikeOk (.list [.list (as.map .str), .list (bs.map .str)]) := by
  have g0 : ∀ {z : Str}, z = "" ∨ NmOk z → Gd 0 92 (.str z) := fun h => by
    rcases h with rfl | h
    · exact gd_str (by decide +kernel) (by decide +kernel)
    · exact nm_gd h
  have ga : GdAll 0 92 (as.map .str) := fun e he => by
    obtain ⟨z, hz, rfl⟩ := List.mem_map.mp he
    exact g0 (ha z hz)
  have gb : GdAll 0 92 (bs.map .str) := fun e he => by
    obtain ⟨z, hz, rfl⟩ := List.mem_map.mp he
    exact g0 (hb z hz)
  have gA : Gd 1 3000 (.list (as.map .str)) := (ga.lstL (L := 24) (by rw [List.length_map]; exact la) (by decide)).mono (by decide) (by decide)
  have gB : Gd 1 3000 (.list (bs.map .str)) := (gb.lstL (L := 24) (by rw [List.length_map]; exact lb) (by decide)).mono (by decide) (by decide)
  have r : RpS 1 7000 [.list (as.map .str), .list (bs.map .str)] := (RpS.cons gA.rp (RpS.cons gB.rp .nil)).mono (Nat.le_refl _) (by decide)
  have lay : ∀ {qs : List Str}, (∀ z ∈ qs, z = "" ∨ NmOk z) → PyData.canLayAll0 (qs.map .str) = true := fun {qs} h => lay_all fun d hd => by
    obtain ⟨z, hz, rfl⟩ := List.mem_map.mp hd
    exact lay_gd (g0 (h z hz))
  exact alike_of r.lst (by decide) (by decide) (lay_list (lay_cons (lay_list (lay ha)) (lay_cons (lay_list (lay hb)) lay_nil)))
theorem alike_five {ks : List (Str × Str)} {zs rs : List Str} {n : Int} {ws : List PyData} (ok : KindsOk ks) (kl : ks.length ≤ 3) (zok : ∀ z ∈ zs, NmOk z) (zl : zs.length ≤ 24) (rok : ∀ z ∈ rs, NmOk z) (rl : rs.length ≤ 24) (n1 : 1 ≤ n) (n4 : n ≤ 4)
    (hw : ∀ e ∈ ws, WayIn n ks e) (wl : ws.length ≤ 24) : AlikeOk (fiveD (kinS ks) zs rs n ws) := by
  have okS := kinS_ok ok
  have e39 : (4 : Int) ≤ 10 ^ 39 := by decide
  have gd1 : Gd 8 2064100 (.dict ((kinS ks).map fun p => (.str p.1, .str p.2))) := kin_gd (fun q hq => by
    obtain ⟨p, hp, rfl⟩ := List.mem_map.mp hq
    exact ⟨(nm_gd (okS.nm p hp)).mono (by decide) (by decide), (kind_gd (okS.kd p hp)).mono (by decide) (by decide)⟩) (by rw [List.length_map, kinS_len]; omega)
  have gd2 : Gd 8 2064100 (.tuple (zs.map .str)) := ((names_gd zok).tupL (L := 24) (by rw [List.length_map]; exact zl) (by decide)).mono (by decide) (by decide)
  have gd3 : Gd 8 2064100 (.tuple (rs.map .str)) := ((names_gd rok).tupL (L := 24) (by rw [List.length_map]; exact rl) (by decide)).mono (by decide) (by decide)
  have gd4 : Gd 8 2064100 (.int n) := (gd_int (by omega) (by omega)).mono (by decide) (by decide)
  have gd5 : Gd 8 2064100 (.list ws) := ways_gd (fun e he => (way_in (hw e he) n4).1) wl
  have r : RpS 8 10400000 [.dict ((kinS ks).map fun p => (.str p.1, .str p.2)), .tuple (zs.map .str), .tuple (rs.map .str), .int n, .list ws] := (RpS.cons gd1.rp (RpS.cons gd2.rp (RpS.cons gd3.rp (RpS.cons gd4.rp (RpS.cons gd5.rp .nil))))).mono (Nat.le_refl _) (by decide)
  have lay : ∀ {qs : List Str}, (∀ z ∈ qs, NmOk z) → PyData.canLayAll0 (qs.map .str) = true := fun {qs} h => lay_all fun d hd => by
    obtain ⟨z, hz, rfl⟩ := List.mem_map.mp hd
    exact lay_gd (nm_gd (h z hz))
  refine ⟨10400003, r.lst.mono (by decide) (Nat.le_refl _), by rw [sizeLine_eq]; decide, .inr ⟨_, rfl, fun e he => ?_⟩⟩
  simp only [List.mem_cons, List.not_mem_nil, or_false] at he
  rcases he with rfl | rfl | rfl | rfl | rfl
  · exact .inr ⟨kinS ks, rfl, okS.nd⟩
  · exact .inl ⟨lay_tup (lay zok), Nat.le_trans gd2.rp.dp (by decide)⟩
  · exact .inl ⟨lay_tup (lay rok), Nat.le_trans gd3.rp.dp (by decide)⟩
  · exact .inl ⟨lay_int n, Nat.le_trans gd4.rp.dp (by decide)⟩
  · exact .inl ⟨lay_list (lay_all fun d hd => (way_in (hw d hd) n4).2), Nat.le_trans gd5.rp.dp (by decide)⟩
end Fv


set_option Elab.async false
set_option linter.all false
set_option maxRecDepth 100000
set_option maxHeartbeats 4000000
/-! the order of an own class's classes -/
namespace Fv
open PySem PySem.Spec PyProof.Rows L2
def Mro (K : PySem.W.Frag) (C : Addr) (m : List Value) : Prop := ∃ cd, PySem.W.clsIn K C = some cd ∧ cd.mro = m
theorem Mro.sub {K : PySem.W.Frag} {C : Addr} {a0 : Value} {l0 : List Value} (h : Mro K C (a0 :: l0)) (b : Value) : PySem.W.subIn K (.ref C) b = some ((a0 :: l0).contains b) := by
  obtain ⟨cd, e, em⟩ := h
  show (PySem.W.clsIn K C).bind _ = _
  rw [e, Option.bind_some, em]
  rfl
theorem Mro.kit {K : PySem.W.Frag} {C : Addr} {a0 : Value} {l0 : List Value} (h : Mro K C (a0 :: l0)) {T : String} (hm : PySem.W.kitMeta T = true) : PySem.W.kitOne K (.ref C) (.type T) = some ((a0 :: l0).contains (.type T)) := by
  unfold PySem.W.kitOne
  have n : ((Value.ref C : Value) == .type T) = false := by
    rw [beq_eq_false_iff_ne]
    exact nofun
  rw [n, if_neg (by decide)]
  unfold PySem.W.kitCls
  dsimp only
  rw [if_pos hm, h.sub]
theorem Mro.cls2 {K : PySem.W.Frag} {C D : Addr} {a0 : Value} {l0 m : List Value} (h : Mro K C (a0 :: l0)) (hD : Mro K D m) (ht : PySem.W.typeIn K (.ref D) = some (.type "type")) : PySem.W.kitCls K (.ref C) (.ref D) = some ((a0 :: l0).contains (.ref D)) := by
  unfold PySem.W.kitCls
  dsimp only
  have hi : (PySem.W.clsIn K D).isSome = true := by
    obtain ⟨cd, e, _⟩ := hD
    rw [e]
    rfl
  rw [if_pos (by rw [hi, ht] <;> rfl), h.sub]
theorem kit_self {K : PySem.W.Frag} {C : Addr} : PySem.W.kitOne K (.ref C) (.ref C) = some true := by
  unfold PySem.W.kitOne
  rw [beq_self_eq_true, if_pos rfl]
theorem Mro.exm {K : PySem.W.Frag} {C : Addr} {a0 : Value} {l0 : List Value} (h : Mro K C (a0 :: l0)) (hb : (a0 :: l0).contains (.type "BaseException") = true) (hs : (a0 :: l0).contains (.ref C) = true) (ht : PySem.W.typeIn K (.ref C) = some (.type "type")) : PySem.W.exmOne K (.ref C) (.ref C) = some true := by
  unfold PySem.W.exmOne
  rw [h.sub, hb, if_pos (by rfl)]
  unfold PySem.W.kitCls
  dsimp only
  have hi : (PySem.W.clsIn K C).isSome = true := by
    obtain ⟨cd, e, _⟩ := h
    rw [e]
    rfl
  rw [if_pos (by rw [hi, ht] <;> rfl), h.sub, hs]
end Fv


set_option Elab.async false
set_option linter.all false
set_option maxRecDepth 100000
set_option maxHeartbeats 2000000
/-! own rules: a == b, a != b of an instance of an own class with an own == -/
namespace Fv
open PySem PySem.Spec PyProof.Rows L2
theorem ne_bind (self : Value) : bindSpecial (.builtin "object.__ne__") self = pure (.builtin "object.__ne__", [self]) :=
  (Slot.of (T := "object") (name := "__ne__") (owner := "object") (n := "__ne__") (by rw [typeLookup_type, builtinLookup_eq_fast]; kernel_rfl) (by decide +kernel) (by decide +kernel) (by decide +kernel)
    (.inl (by decide +kernel)) (by rw [isSubtype_type]; kernel_rfl)).bind self
theorem ne_plain : plainId "object.__ne__" = true := by decide +kernel
section
variable {P : Program} {w : World} {A : Around} {E : Value → Shared → Prop} {s : Shared} {K : PySem.W.Frag} {x C L f : Addr} {h₀ : Heap} {m : PySem.Str → Option Value} {ox : Obj} {od : Option Obj} {b tb : Value}
theorem ne_own {Q : Value → Shared → Prop} (hu : A.units + 1 < cLine) (F : PyProof.Rows.Fr h₀ L s.heap m) (X₀ : K.In h₀) (I : PySem.W.InstAt s.heap x ox C od) (hb : PySem.W.Looks (model P w) s.heap (typeOf b) tb) (hn : PySem.W.notFirst K C tb = true)
    (he : PySem.W.findIn K (.ref C) "__eq__" = some (some (.ref f))) (hf : PySem.W.isFn K (.ref f) = true) (hne : PySem.W.findIn K (.ref C) "__ne__" = some (some (.builtin "object.__ne__"))) (ho : PySem.W.subIn K (.ref C) (.type "object") = some true)
    (h : wpAny (model P w) A.in1 (call (.ref f) [.ref x, b]) (fun v s' => ∃ r, v = .bool r ∧ Q (.bool (!r)) s') E s) : wpAny (model P w) A (richCompare .NotEq (.ref x) b) Q E s := by
  have X := X₀.keeps F.keep
  have inner : wpAny (model P w) A (call (.builtin "object.__ne__") [.ref x, b]) (fun v s' => ∃ r, v = .bool r ∧ Q (.bool r) s') E s := by
    refine wpAny_call (codeAny_call_builtin ne_plain PySem.F.cmpEntry_ne ?_)
    refine PySem.W.check_slot PySem.F.cmpKind_ne PySem.F.cmpSplit_ne (I.type.andThen (PySem.W.looks_subIn X ho)) (PySem.F.cmpArgs_ne _ _) ?_
    unfold Builtin.«object.__ne__»
    refine wpAny_bind (wpAny_of_eq (a := (Value.ref x, [b])) (by rfl) ?_)
    dsimp only
    refine wpAny_bind (wpAny_cRoomFor (by show A.units + 1 < cLine; exact hu) ?_)
    refine wpAny_bind (PySem.W.ifBound_K X I he hf (wpAny_mono h (fun v s' hv => ?_) fun _ _ z => z))
    obtain ⟨r, rfl, q⟩ := hv
    refine wpAny_bind (wpAny_truthy_bool (wpAny_pure ?_))
    exact ⟨!r, rfl, q⟩
  have one : wpAny (model P w) A (tryCompare (.ref x) "__ne__" b) (fun r s' => ∃ v, r = some v ∧ Q v s') E s := by
    unfold tryCompare
    refine wpAny_bind ?_
    unfold callSpecialIfBound? bindSpecialIfBound?
    refine wpAny_holding (wpAny_bind (wpAny_bind (wpAny_bind (I.type.here ((PySem.W.looks_findIn X hne).here ?_)))))
    dsimp only
    rw [ne_bind]
    have fin : ∀ {Q2 : Option Value → Shared → Prop}, (∀ r s', Q (.bool r) s' → Q2 (some (.bool r)) s') → wpAny (model P w) A (call (.builtin "object.__ne__") ([Value.ref x] ++ [b]) >>= fun v => pure (some v)) Q2 E s := fun {Q2} k => wpAny_bind (wpAny_mono inner (fun v s' hv => by
      obtain ⟨r, rfl, q⟩ := hv
      exact wpAny_pure (k r s' q)) fun _ _ z => z)
    refine wpAny_bind (wpAny_askSetting (wpAny_ite ?_))
    split
    · exact wpAny_bind (wpAny_pure (wpAny_pure (fin fun r s' q => wpAny_pure ⟨_, rfl, q⟩)))
    · exact wpAny_tryCatch (wpAny_bind (wpAny_pure (wpAny_pure (fin fun r s' q => wpAny_pure ⟨_, rfl, q⟩))))
  unfold richCompare
  simp only [oneThing_ref]
  refine wpAny_holding (wpAny_bind (wpAny_cRoomFor (Nat.lt_of_succ_lt hu) (wpAny_bind (I.type.here (wpAny_bind (hb.here ?_))))))
  have last : wpAny (model P w) A (tryCompare (.ref x) (cmpInfo .NotEq).2.1 b) (fun r s' => ∃ v, r = some v ∧ Q v s') E s := one
  split
  · rename_i q
    have e : PySem.W.subIn K tb (.ref C) = some false := by
      rcases Bool.or_eq_true_iff.mp hn with e | e
      · rw [beq_iff_eq.mp e] at q
        simp at q
      · exact beq_iff_eq.mp e
    refine wpAny_bind ((PySem.W.looks_subIn X e).here ?_)
    rw [if_neg Bool.false_ne_true]
    refine wpAny_bind (wpAny_mono last (fun r s' z => ?_) fun _ _ e => e)
    obtain ⟨v, rfl, hq⟩ := z
    exact wpAny_pure hq
  · refine wpAny_bind (wpAny_pure ?_)
    rw [if_neg Bool.false_ne_true]
    refine wpAny_bind (wpAny_mono last (fun r s' z => ?_) fun _ _ e => e)
    obtain ⟨v, rfl, hq⟩ := z
    exact wpAny_pure hq
end
/-- the other one: data, or an instance of the same class -/
inductive OthV (K : PySem.W.Frag) (C : Addr) (H : Hp) : V → Prop
  | data {y : V} {d : PyData} : Dp K H y d → PySem.W.notFirst K C (PySem.W.dataType d) = true → OthV K C H y
  | ins {b dx : Addr} {fs : List (PySem.Str × V)} : H b = some (.ins C dx fs) → OthV K C H (.ref b)
def rOwnC (K : PySem.W.Frag) (C : Addr) (sp : Sp) (g : Bool → Bool) : R2 := fun x y H Q => ∃ (a dx : Addr) (fs : List (PySem.Str × V)), x = .ref a ∧ H a = some (.ins C dx fs) ∧ OthV K C H y ∧ sp [x, y] H (fun v H' => ∃ b, v = .bl b ∧ Q (.bl (g b)) H') E0
section
variable {X : Cx} {C f : Addr} {fd : FuncData} {ps : List PySem.Str} {sp : Sp} {n : Nat}
theorem oth_looks {pins : List (Addr × Obj)} {s : Shared} {σ : L2.St} {H : Hp} {y : V} {u : Value} (I : Inv X pins σ H s) (h : OthV X.K C H y) (r : RelV y u) : ∃ tb, PySem.W.Looks (model X.prog X.w) s.heap (typeOf u) tb ∧ PySem.W.notFirst X.K C tb = true := by
  cases h with
  | data hd hn =>
    obtain ⟨as, rd⟩ := Dp.reads I _ _ _ hd r
    exact ⟨_, PySem.W.looks_reads rd, hn⟩
  | ins e =>
    cases r
    obtain ⟨mB, J, _⟩ := ins_get I.hok e
    obtain ⟨od, J, _⟩ := J.look
    exact ⟨_, J.type, by simp [PySem.W.notFirst]⟩
theorem own_run (F : FnOk X.prog X.w X.K X.mg X.base CX0 n f fd ps sp) (hb : Binds X.K fd ps []) {A : Around} (hA : A.frames = X.A.frames) (hr : Room n A) {pins : List (Addr × Obj)} {s : Shared} {σ : L2.St} {H : Hp} {x y : V} {v u : Value} {Q : VK} (I : Inv X pins σ H s) (rx : RelV x v) (ry : RelV y u) (h : sp [x, y] H Q E0) :
    wpAny (model X.prog X.w) A (call (.ref f) [v, u]) (EP X pins σ Q) X.xe s := by
  have e0 : Env0 X.prog X.w X.K X.mg X.base A X.stack s H := by
    have e := I.env0
    exact ⟨by rw [hA]; exact e.frames, e.mod, e.bs, e.bsz, e.funs, e.frf, e.hok, e.bare⟩
  have hl := F.len _ _ _ _ h
  have r2 : Vals [x, y] [v, u] := .cons rx (.cons ry .nil)
  refine wpAny_call (codeAny_mono (F.run A X.stack s H ⟨[v, u], []⟩ [v, u] [x, y] Q E0 hr e0 (by
    have := hb s [v, u] I.kIn (by simpa using hl)
    simpa using this) r2 h) fun r s' hq => ?_)
  cases r with
  | error e => exact False.elim hq
  | ok fl =>
    cases fl with
    | ret w =>
      obtain ⟨z, H', I', rz, q⟩ := I.after hq
      exact ⟨z, H', I', rz, q⟩
    | next => exact False.elim hq
    | brk => exact False.elim hq
    | cont => exact False.elim hq
/-- a == b -/
theorem op_eqOwn (F : FnOk X.prog X.w X.K X.mg X.base CX0 n f fd ps sp) (he : PySem.W.findIn X.K (.ref C) "__eq__" = some (some (.ref f))) (hf : PySem.W.isFn X.K (.ref f) = true) (hb : Binds X.K fd ps []) (hr : Room n X.A) : OpR X (compareOp .Eq) (rOwnC X.K C sp fun b => b) := by
  intro pins s σ H x y v u Q I rx ry h
  obtain ⟨a, dx, fs, rfl, ha, oth, h⟩ := h
  obtain ⟨tb, lk, nf⟩ := oth_looks I oth ry
  cases rx
  obtain ⟨mA, J, _⟩ := ins_get I.hok ha
  obtain ⟨od, J, _⟩ := J.look
  obtain ⟨m, hF⟩ := I.fr
  show wpAny (model X.prog X.w) X.A (richCompare .Eq (.ref a) u) (EP X pins σ Q) X.xe s
  refine PySem.W.cmp_K (op := .Eq) (tb := tb) hr.units0 hF I.ok.mod.kin J lk nf he hf (wpAny_mono (own_run (x := .ref a) F hb rfl hr I rfl ry h) (fun w s' hq => ?_) fun _ _ z => z)
  obtain ⟨z, H', I', rz, b, rfl, q⟩ := hq
  cases rz
  exact ⟨.bl b, H', I', rfl, q⟩
/-- a != b, there being no own != -/
theorem op_neOwn (F : FnOk X.prog X.w X.K X.mg X.base CX0 n f fd ps sp) (he : PySem.W.findIn X.K (.ref C) "__eq__" = some (some (.ref f))) (hf : PySem.W.isFn X.K (.ref f) = true) (hne : PySem.W.findIn X.K (.ref C) "__ne__" = some (some (.builtin "object.__ne__")))
    (ho : PySem.W.subIn X.K (.ref C) (.type "object") = some true) (hb : Binds X.K fd ps []) (hr : Room (n + 1) X.A) : OpR X (compareOp .NotEq) (rOwnC X.K C sp fun b => !b) := by
  intro pins s σ H x y v u Q I rx ry h
  obtain ⟨a, dx, fs, rfl, ha, oth, h⟩ := h
  obtain ⟨tb, lk, nf⟩ := oth_looks I oth ry
  cases rx
  obtain ⟨mA, J, _⟩ := ins_get I.hok ha
  obtain ⟨od, J, _⟩ := J.look
  obtain ⟨m, hF⟩ := I.fr
  show wpAny (model X.prog X.w) X.A (richCompare .NotEq (.ref a) u) (EP X pins σ Q) X.xe s
  have hu : X.A.units + 1 < cLine := by
    have := hr.units
    omega
  refine ne_own hu hF I.ok.mod.kin J lk nf he hf hne ho (wpAny_mono (own_run (x := .ref a) F hb (A := X.A.in1) rfl hr.in1 I rfl ry h) (fun w s' hq => ?_) fun _ _ z => z)
  obtain ⟨z, H', I', rz, b, rfl, q⟩ := hq
  cases rz
  exact ⟨b, rfl, .bl (!b), H', I', rfl, q⟩
end
end Fv


set_option Elab.async false
set_option linter.all false
set_option maxRecDepth 100000
set_option maxHeartbeats 2000000
/-! own rule: len(x) of an instance of an own class with an own __len__ -/
namespace Fv
open PySem PySem.Spec PyProof.Rows L2
def rLenOwn (C : Addr) (sp : Sp) : List V → Hp → VK → Prop := fun xs H Q => ∃ (a dx : Addr) (fs : List (PySem.Str × V)), xs = [.ref a] ∧ H a = some (.ins C dx fs) ∧ sp [.ref a] H (fun v H' => ∃ n : Nat, v = .int n ∧ n < sizeLine ∧ Q (.int n) H') E0
section
variable {X : Cx} {C f : Addr} {fd : FuncData} {ps : List PySem.Str} {sp : Sp} {n : Nat}
theorem own_run1 (F : FnOk X.prog X.w X.K X.mg X.base CX0 n f fd ps sp) (hb : Binds X.K fd ps []) {A : Around} (hA : A.frames = X.A.frames) (hr : Room n A) {pins : List (Addr × Obj)} {s : Shared} {σ : L2.St} {H : Hp} {x : V} {v : Value} {Q : VK} (I : Inv X pins σ H s) (rx : RelV x v) (h : sp [x] H Q E0) :
    wpAny (model X.prog X.w) A (call (.ref f) [v]) (EP X pins σ Q) X.xe s := by
  have e0 : Env0 X.prog X.w X.K X.mg X.base A X.stack s H := by
    have e := I.env0
    exact ⟨by rw [hA]; exact e.frames, e.mod, e.bs, e.bsz, e.funs, e.frf, e.hok, e.bare⟩
  have hl := F.len _ _ _ _ h
  have r2 : Vals [x] [v] := .cons rx .nil
  refine wpAny_call (codeAny_mono (F.run A X.stack s H ⟨[v], []⟩ [v] [x] Q E0 hr e0 (by
    have := hb s [v] I.kIn (by simpa using hl)
    simpa using this) r2 h) fun r s' hq => ?_)
  cases r with
  | error e => exact False.elim hq
  | ok fl =>
    cases fl with
    | ret w =>
      obtain ⟨z, H', I', rz, q⟩ := I.after hq
      exact ⟨z, H', I', rz, q⟩
    | next => exact False.elim hq
    | brk => exact False.elim hq
    | cont => exact False.elim hq
theorem call_lenOwn (F : FnOk X.prog X.w X.K X.mg X.base CX0 n f fd ps sp) (he : PySem.W.findIn X.K (.ref C) "__len__" = some (some (.ref f))) (hf : PySem.W.typeIn X.K (.ref f) = some (.type "function")) (hb : Binds X.K fd ps []) (hr : Room (n + 1) X.A) : CallR X (.builtin "len") (rLenOwn C sp) := by
  intro pins s σ H xs us Q I r h
  obtain ⟨a, dx, fs, rfl, ha, h⟩ := h
  obtain ⟨u, rfl, ru⟩ := vals1 r
  obtain rfl : u = Value.ref a := ru
  obtain ⟨mA, J, _⟩ := ins_get I.hok ha
  obtain ⟨od, J, _⟩ := J.look
  refine Calls.call_function_entry PySem.kind_len PySem.plain_len PySem.entry_len (PySem.args_len1 _) ?_
  unfold Builtin.«len»
  refine wpAny_bind (m := oneArg "len" _) (wpAny_pure ?_)
  refine wpAny_bind (m := callSpecial? (.ref a) (Str.ofString "__len__")) (PySem.W.special_fn I.kIn J he hf (wpAny_mono (own_run1 (x := .ref a) F hb (A := X.A.in1) rfl hr.in1 I rfl h) (fun w s' hq => ?_) fun _ _ z => z))
  obtain ⟨z, H', I', rz, n, rfl, hn, q⟩ := hq
  obtain ⟨t, rfl⟩ := rz
  have hs : sizeLine = 16777216 := sizeLine_eq
  refine wpAny_bind (wpAny_holding (wpAny_pure ?_))
  refine wpAny_bind (wpAny_letGo ?_)
  show wpAny _ _ (if (n : Int) < 0 then _ else _) _ _ _
  rw [if_neg (by omega)]
  show wpAny _ _ (if (n : Int) ≥ 2 ^ 63 then _ else _) _ _ _
  rw [if_neg (by omega)]
  exact wpAny_bind (wpAny_mkInt (wpAny_pure ⟨_, rfl, .int n, H', I'.tok _, ⟨_, rfl⟩, q⟩))
end
end Fv


set_option Elab.async false
set_option linter.all false
set_option maxRecDepth 100000
set_option maxHeartbeats 8000000
namespace Fv
open PySem PySem.Spec PyProof.Rows L2
/-! ### what is told is right -/
abbrev sRight : Stmt := top 61
theorem atI_nat0 {xs : List V} {j : Nat} {x : V} (h : xs[j]? = some x) : atI xs (0 + (j : Int)) = some x := by
  rw [Int.zero_add]
  exact atI_nat h
theorem out_snoc {ws : List PyData} {i a : Int} {j : Nat} {r : List PyData} (he : ws[j]? = some (.tuple (.int a :: r))) : outI ws i (j + 1) = outI ws i j ++ (if a = i then [(j : Int)] else []) := by
  unfold outI
  rw [List.range_succ, List.filterMap_append]
  congr 1
  by_cases z : a = i
  · rw [if_pos z, List.filterMap_cons_some (b := (j : Int)) (by simp only [he, z, if_true]), List.filterMap_nil]
  · rw [if_neg z, List.filterMap_cons_none (by simp only [he, z, if_false]), List.filterMap_nil]
def spRight (C : Addr) : Sp := fun vs H Q _ => ∃ (x dx kd pp rr wv : Addr) (xs : List V) (o a p2 r2 W : Addr) (n : Int) (ks : List (Str × Str)) (zs rs : List Str) (ys : List V) (ws : List PyData), vs = [.ref x, .ref o] ∧ ProcW C H x dx kd pp rr wv xs (kinS ks) zs rs n ws ∧
  HeadW H x o a p2 r2 W n ks zs rs ys ws ∧ zs.length ≤ 2 ∧ rs.length ≤ 2 ∧ (∀ z ∈ zs, NmOk z) ∧ (∀ z ∈ rs, NmOk z) ∧ 1 ≤ n ∧ n ≤ 4 ∧ (∀ e ∈ ws, WayIn n ks e) ∧ ws.length ≤ 20 ∧ ((("zzzzzzzz" : Str) ∈ keysOf ks → ("qqqqqqqq" : Str) ∈ keysOf ks → False)) ∧
  ∀ H', Same H H' → Q (.bl true) H'
section
variable {P : Program} {w : World} {K : PySem.W.Frag} {mg : Str → Option Value} {base : Heap} {C : Addr}
abbrev nRt : List Str := ["_law_made", "_law_head_here", "_law_names_here", "_law_ways_here", "_law_strange", "_law_ups", "_law_lows", "_law_name", "_law_k", "_law_place", "_law_due"]
theorem scRt : FnScope nRt ["_law_made", "_law_head_here"] (defScope sRight) := ⟨rfl, rfl, rfl, by decide +kernel, rfl, by decide +kernel, by decide +kernel⟩
theorem lku {kd pp rr wv : Addr} {n : Int} : (flds5 kd pp rr n wv).lookup ("uppers" : Str) = none := by rfl
theorem lkl {kd pp rr wv : Addr} {n : Int} : (flds5 kd pp rr n wv).lookup ("lowers" : Str) = none := by rfl
theorem ok_right {f fA fF fD fQ fl fu fw : Addr} {fd fdA fdF fdD fdQ fdl fdu fdw : FuncData} (F : Fun K "_law_right" "_law_right" sRight f fd) (T : ProcC K C)
    (GA : FnG P w K mg base 1 fA fdA ["_law_found", "_law_due"] spAlike) (bA : BindG fdA ["_law_found", "_law_due"]) (mA : mg "_law_alike" = some (.ref fA)) (kA : PySem.W.keepIn K (.ref fA) = true)
    (GF : FnOk P w K mg base CX0 3 fF fdF ["_law_made"] (spFive C)) (bF : Binds K fdF ["_law_made"] []) (mF : mg "_law_five" = some (.ref fF)) (kF : PySem.W.keepIn K (.ref fF) = true)
    (GD : FnOk P w K mg base CX0 1 fD fdD ["_law_head_here"] spDueFive) (bD : Binds K fdD ["_law_head_here"] []) (mD : mg "_law_due_five" = some (.ref fD)) (kD : PySem.W.keepIn K (.ref fD) = true)
    (GQ : FnOk P w K mg base CX0 4 fQ fdQ ["_law_made", "_law_style", "_law_value"] (spAsked C)) (bQ : Binds K fdQ ["_law_made", "_law_style", "_law_value"] []) (mQ : mg "_law_asked" = some (.ref fQ)) (kQ : PySem.W.keepIn K (.ref fQ) = true)
    (GL : FnOk P w K mg base CX0 1 fl fdl ["self"] (spLenP C)) (bL : Binds K fdl ["self"] []) (eL : PySem.W.findIn K (.ref C) "__len__" = some (some (.ref fl))) (tL : PySem.W.typeIn K (.ref fl) = some (.type "function"))
    (Mu : Meth K C "uppers" fu) (Gu : FnOk P w K mg base CX0 1 fu fdu ["self"] (spBut C "low")) (bu : Binds K fdu ["self"] [])
    (Ml : Meth K C "lowers" fw) (Gl_ : FnOk P w K mg base CX0 1 fw fdw ["self"] (spBut C "high")) (bl_ : Binds K fdw ["self"] [])
    (mo : mg "sorted" = none) (ml : mg "len" = none) (mr : mg "range" = none) : FnG P w K mg base 5 f fd ["_law_made", "_law_head_here"] (spRight C) := by
  refine okG F scRt (fun vs H Q E h => ?_) (fun cdv A outer s H vs Q E hg hr h => ?_)
  · obtain ⟨_, _, _, _, _, _, _, _, _, _, _, _, _, _, _, _, _, _, rfl, _⟩ := h
    rfl
  · obtain ⟨x, dx, kd, pp, rr, wv, xs, o, a, p2, r2, W, n, ks, zs, rs, ys, ws, rfl, PW_, HW, zl, rl, zok, rok, n1, n4, hwi, wl, zq, q⟩ := h
    have hu := hu_of hr
    have hru := hr.units
    have hr1 : Room 1 _ := hr.mono (by decide)
    have hr2 : Room 2 _ := hr.mono (by decide)
    have hr3 : Room 3 _ := hr.mono (by decide)
    have hr4 : Room 4 _ := hr.mono (by decide)
    refine ⟨_, pss_cons (ps_asg (pe_tup (pa_cons (pe_callB (call_sortedD rfl) (by rfl) mo (by decide +kernel) (pa_cons (pe_dget hu (pv 1) pe_str (fun _ _ => rfl)) pa_nil)) (pa_cons (pe_dget hu (pv 1) pe_str (fun _ _ => rfl)) (pa_cons pe_str pa_nil))))
          (pg_tup (by rfl) (pgs_cons (pg_name (i := 2) scRt.nd rfl (.inl rfl)) (pgs_cons (pg_name (i := 3) scRt.nd rfl (.inr rfl)) (pgs_cons (pg_name (i := 4) scRt.nd rfl (.inl rfl)) pgs_nil)))))
      (pss_cons (ps_if (pt_cmpR (r := rIn K false) op_in_seq (pv 4) (pv 2) (by rfl)) (pss_one (ps_set (i := 4) scRt.nd rfl (.inl rfl) pe_str)) pss_nil)
      (pss_cons (ps_if (PW.pt (pw_or (pt_not (pt_val (pe_callG GA hg hr1 (by rfl) mA kA bA (pa_cons (pe_call GF hr3 (by rfl) mF kF bF .nil pass0 (pa_cons (pv 0) pa_nil)) (pa_cons (pe_call GD hr1 (by rfl) mD kD bD .nil pass0 (pa_cons (pv 1) pa_nil)) pa_nil)))))
          (pw_or1 (pt_not (pt_val (pe_callG GA hg hr1 (by rfl) mA kA bA (pa_cons (pe_callB (r := rLenOwn C (spLenP C)) (call_lenOwn GL eL tL bL hr2) (by rfl) ml PySem.boot_len (pa_cons (pv 0) pa_nil)) (pa_cons (pe_callB call_len_seq (by rfl) ml PySem.boot_len (pa_cons (pv 3) pa_nil)) pa_nil)))))))) pss_dead pss_nil)
      (pss_cons (ps_par (i := 5) (j := 6) (by rfl) scRt.nd rfl rfl (by decide) rfl rfl (pa_cons (pe_lstB (pa_cons pe_str pa_nil)) (pa_cons (pe_lstB (pa_cons pe_str pa_nil)) pa_nil)) (by rfl))
      (pss_cons (ps_for PassesOwn.never rfl (pi_list (pv 2)) (pg_name (i := 7) scRt.nd rfl (.inl rfl))
        (pss_cons (ps_aug (i := 5) scRt.nd rfl (.inl rfl) (pe_ifExp (pt_cmpR op_ne (pe_dget hu (pe_dget hu (pv 1) pe_str (fun _ _ => rfl)) (pv 7) (fun _ _ => rfl)) pe_str (nomark _)) (pe_lst (pa_cons (pv 7) pa_nil)) (pe_lst pa_nil)) iop_ext)
        (pss_cons (ps_aug (i := 6) scRt.nd rfl (.inl rfl) (pe_ifExp (pt_cmpR op_ne (pe_dget hu (pe_dget hu (pv 1) pe_str (fun _ _ => rfl)) (pv 7) (fun _ _ => rfl)) pe_str (nomark _)) (pe_lst (pa_cons (pv 7) pa_nil)) (pe_lst pa_nil)) iop_ext)
        (pss_one (ps_if (pt_cmpR (r := rNeD K) (op_neD (by exact hru)) (pe_call GQ hr4 (by rfl) mQ kQ bQ .nil pass0 (pa_cons (pv 0) (pa_cons pe_int (pa_cons (pv 7) pa_nil)))) (pe_tup (pa_cons pe_str (pa_cons (pe_dget hu (pe_dget hu (pv 1) pe_str (fun _ _ => rfl)) (pv 7) (fun _ _ => rfl)) pa_nil))) (nomark _)) pss_dead pss_nil)))))
      (pss_cons (ps_if (PW.pt (pw_or (pt_not (pt_val (pe_callG GA hg hr1 (by rfl) mA kA bA (pa_cons (pe_lstB (pa_cons (pe_meth0 (pv 0) T.cl Mu Gu hr1 bu .nil pass0) (pa_cons (pe_meth0 (pv 0) T.cl Ml Gl_ hr1 bl_ .nil pass0) pa_nil))) (pa_cons (pe_lstB (pa_cons (pv 5) (pa_cons (pv 6) pa_nil))) pa_nil)))))
          (pw_or1 (pt_cmpR (r := rNeD K) (op_neD (by exact hru)) (pe_call GQ hr4 (by rfl) mQ kQ bQ .nil pass0 (pa_cons (pv 0) (pa_cons pe_int (pa_cons pe_str pa_nil)))) (pe_tup (pa_cons pe_str (pa_cons pe_str pa_nil))) (nomark _))))) pss_dead pss_nil)
      (pss_cons (ps_if (pt_cmpR (r := rNeD K) (op_neD (by exact hru)) (pe_call GQ hr4 (by rfl) mQ kQ bQ .nil pass0 (pa_cons (pv 0) (pa_cons pe_int (pa_cons (pv 4) pa_nil)))) (pe_tup (pa_cons pe_str (pa_cons (pv 4) pa_nil))) (nomark _)) pss_dead pss_nil)
      (pss_cons (ps_for PassesOwn.never rfl (pi_range2 (by rfl) mr (pa_cons (pe_un un_neg pe_int) (pa_cons (pe_op op_add (pe_callB call_len_seq (by rfl) ml PySem.boot_len (pa_cons (pv 3) pa_nil)) pe_int) pa_nil))) (pg_name (i := 8) scRt.nd rfl (.inl rfl))
        (pss_one (ps_if (pt_not (pt_val (pe_callG GA hg hr1 (by rfl) mA kA bA (pa_cons (pe_call GQ hr4 (by rfl) mQ kQ bQ .nil pass0 (pa_cons (pv 0) (pa_cons pe_int (pa_cons (pv 8) pa_nil))))
          (pa_cons (pe_ifExp (pt_chain op_le op_lt pe_int (pv 8) (pe_callB call_len_seq (by rfl) ml PySem.boot_len (pa_cons (pv 3) pa_nil))) (pe_tup (pa_cons pe_str (pa_cons (pe_ix (r := rIxL K) ix_list (pv 3) (pv 8) (fun _ _ => rfl)) pa_nil))) (pe_tup (pa_cons pe_str (pa_cons (pv 8) pa_nil)))) pa_nil))))) pss_dead pss_nil)))
      (pss_cons (ps_for PassesOwn.never rfl (pi_range2 (by rfl) mr (pa_cons (pe_un un_neg pe_int) (pa_cons (pe_op op_add (pe_dget hu (pv 1) pe_str (fun _ _ => rfl)) pe_int) pa_nil))) (pg_name (i := 9) scRt.nd rfl (.inr rfl))
        (pss_cons (ps_set (i := 10) scRt.nd rfl (.inl rfl) (pe_tup (pa_cons pe_str (pa_cons (pe_lcB (own := [("_law_k", 8)]) (g := gName 8) rfl scRt.nd (pi_range1 (by rfl) mr (pa_cons (pe_callB call_len_seq (by rfl) ml PySem.boot_len (pa_cons (pv 3) pa_nil)) pa_nil)) (blkOk_by (N := nRt) (sc := defScope sRight) (by decide +kernel))
            (fun _ _ _ _ _ => pg_name (i := 8) scRt.nd rfl (.inl rfl))
            (fun _ _ _ _ _ => pts_one (pt_cmpR op_eq (pe_ix (r := rIxT K) ix_tup (pe_ix (r := rIxL K) ix_list (pv 3) (pv 8) (fun _ _ => rfl)) pe_int (fun _ _ => rfl)) (pv 9) (nomark _))) (fun _ _ _ _ _ => pv 8)) pa_nil))))
        (pss_cons (ps_if (PW.pt (pw_or (pt_cmpR op_lt (pv 9) pe_int (nomark _)) (pw_or1 (pt_cmpR op_ge (pv 9) (pe_dget hu (pv 1) pe_str (fun _ _ => rfl)) (nomark _))))) (pss_one (ps_set (i := 10) scRt.nd rfl (.inl rfl) (pe_tup (pa_cons pe_str (pa_cons (pv 9) pa_nil))))) pss_nil)
        (pss_one (ps_if (pt_not (pt_val (pe_callG GA hg hr1 (by rfl) mA kA bA (pa_cons (pe_call GQ hr4 (by rfl) mQ kQ bQ .nil pass0 (pa_cons (pv 0) (pa_cons pe_int (pa_cons (pv 9) pa_nil)))) (pa_cons (pv 10) pa_nil))))) pss_dead pss_nil)))))
      (pss_one (ps_ret pe_bl)))))))))), ?_⟩
    rw [show L2.start nRt [V.ref x, V.ref o] = [some (.ref x), some (.ref o), none, none, none, none, none, none, none, none, none] from rfl]
    obtain ⟨kk1, kp1, kr1, kn1, kw1⟩ := head5_k a p2 r2 n W
    have gk : ∀ {H' : Hp}, Same H H' → DGet H' o (.str "kinds") (some (.ref a)) := fun {H'} s => kk1 ▸ DGet.k (k := Sum.inr "kinds") (s _ _ HW.oo)
    have gn : ∀ {H' : Hp}, Same H H' → DGet H' o (.str "size") (some (.int n)) := fun {H'} s => kn1 ▸ DGet.k (k := Sum.inr "size") (s _ _ HW.oo)
    have gw : ∀ {H' : Hp}, Same H H' → DGet H' o (.str "ways") (some (.ref W)) := fun {H'} s => kw1 ▸ DGet.k (k := Sum.inr "ways") (s _ _ HW.oo)
    have PWs : ∀ {H2 : Hp}, Same H H2 → ProcW C H2 x dx kd pp rr wv xs (kinS ks) zs rs n ws := fun {H2} s => ⟨s _ _ PW_.hx, s _ _ PW_.hk, s _ _ PW_.hp, s _ _ PW_.hr, s _ _ PW_.hw, PW_.hq.mono fun c o _ e => s c o e⟩
    have hx := PW_.hx
    have okS := kinS_ok HW.ok
    have kSl := kinS_len ks
    have kl := HW.kl
    have yl := HW.hq.len
    have xl := PW_.hq.len
    have e39 : (60 : Int) ≤ 10 ^ 39 := by decide
    have f3 : AlikeOk (fiveD (kinS ks) zs rs n ws) := alike_five HW.ok HW.kl zok (by omega) rok (by omega) n1 n4 hwi (by omega)
    -- names, ways
    refine ⟨_, rfl, o, _, rfl, gk (fun _ _ e => e), a, kinV ks, ks.map (·.1), rfl, .inl HW.aa, kin_keys ks, by rw [List.length_map]; omega, fun ns pn perm srt npn => ?_⟩
    obtain rfl : ns = keysOf ks := sortL_of perm srt
    have s1 := same_upd (o := .lst ((keysOf ks).map V.str)) npn
    have epn : (upd H pn (.lst ((keysOf ks).map V.str))) pn = some (.lst ((keysOf ks).map V.str)) := upd_same
    generalize upd H pn (.lst ((keysOf ks).map V.str)) = H1 at s1 epn ⊢
    refine ⟨_, rfl, o, _, rfl, gw s1, by show 3 ≤ sizeLine; decide, fun t nt => ⟨t, _, rfl, SqT.of upd_same, rfl, _, _, rfl, _, _, rfl, _, _, rfl, rfl, ?_⟩⟩
    simp only [gName, List.set_cons_zero, List.set_cons_succ]
    have w1 := same_upd (o := .tup [.ref pn, .ref W, .str "zzzzzzzz"]) nt
    have s2 := s1.trans w1
    have epn := w1 _ _ epn
    generalize upd H1 t (.tup [.ref pn, .ref W, .str "zzzzzzzz"]) = H2 at s2 epn ⊢
    refine cutK (fun σ' H' => ∃ sg : Str, σ' = [some (.ref x), some (.ref o), some (.ref pn), some (.ref W), some (.str sg), none, none, none, none, none, none] ∧ H' = H2 ∧ sg ∉ keysOf ks ∧ nameS sg = true ∧ sg.length ≤ 9 ∧ (∀ c ∈ sg.cps.toList, c < 128)) ?_ fun kont => ?_
    rotate_left
    · refine ⟨_, rfl, _, rfl, pn, _, rfl, .inl (SqL.of epn), rfl, flat_strs _, _, rfl, ?_⟩
      rw [inV_strs]
      by_cases hz : ("zzzzzzzz" : Str) ∈ keysOf ks
      · rw [decide_eq_true hz]
        exact iteT (kont _ _ ⟨"qqqqqqqq", rfl, rfl, zq hz, by decide +kernel, by decide +kernel, by decide +kernel⟩)
      · rw [decide_eq_false hz]
        exact iteF (kont _ _ ⟨"zzzzzzzz", rfl, rfl, hz, by decide +kernel, by decide +kernel, by decide +kernel⟩)
    rintro σ _ ⟨sg, rfl, rfl, sgo, sgn, sgl, sga⟩
    have gsg : Gd 0 92 (.str sg) := gd_str sgl sga
    -- the five
    refine ⟨_, rfl, x, dx, kinS ks, zs, rs, n, ws, rfl, (PWs s2).at, okS.nd, fun p hp => (okS.nm p hp).name, by omega, fun H3 p5 s3 np5 hd5 => ?_⟩
    have s03 := s2.trans s3
    refine ⟨_, rfl, x, C, dx, _, o, a, p2, r2, W, n, ks, zs, rs, ys, ws, rfl, s03 _ _ hx, HW.same s03, fun H4 p6 s4 np6 hd6 => ⟨x, _, _, _, rfl, hd5.mono (fun c o _ e => s4 c o e), hd6, f3, true, rfl, iteF ?_⟩⟩
    have s04 := s03.trans s4
    refine ⟨_, rfl, x, dx, _, rfl, s04 _ _ hx, x, dx, kinS ks, zs, rs, n, ws, rfl, (PWs s04).at, ws.length, rfl, small60 (by omega), ?_⟩
    refine ⟨_, rfl, W, _, rfl, .inl (SqL.of (s04 _ _ HW.hw)), x, _, _, .int (ws.length : Nat), rfl, .int _, by rw [yl]; exact .int _, alike_int (by omega) (by omega), true, rfl, iteF ?_⟩
    have epn4 := s4 _ _ (s3 _ _ epn)
    clear epn s03 s4 s3 hd5 hd6 s2 w1 s1
    -- sources
    refine ⟨by show 1 ≤ sizeLine; decide, fun pu npu wpu => ⟨by show 1 ≤ sizeLine; decide, fun pl npl wpl => ⟨_, _, rfl, ?_⟩⟩⟩
    simp only [gName, List.set_cons_zero, List.set_cons_succ]
    have pn_u : pn ≠ pu := ne_of_none epn4 npu
    have u_l : pu ≠ pl := ne_of_none (upd_same (H := H4) (a := pu) (o := .lst [V.str (Str.ofString "")])) npl
    have npl4 : H4 pl = none := by
      rw [upd_ne u_l.symm] at npl
      exact npl
    have pn_l : pn ≠ pl := ne_of_none epn4 npl4
    have nuH : H pu = none := by
      cases e : H pu with
      | none => rfl
      | some v => rw [s04 _ _ e] at npu; cases npu
    have nlH : H pl = none := by
      cases e : H pl with
      | none => rfl
      | some v => rw [s04 _ _ e] at npl4; cases npl4
    refine ⟨_, rfl, pn, rfl, ⟨_, SqL.of (same_upd npl _ _ (same_upd npu _ _ epn4))⟩, ?_⟩
    refine for_list (K := K) (a := pn) (xs := (keysOf ks).map V.str) (fun i σ H' => ∃ y7 : Option V, σ = [some (.ref x), some (.ref o), some (.ref pn), some (.ref W), some (.str sg), some (.ref pu), some (.ref pl), y7, none, none, none] ∧ Same H H' ∧ H' pn = some (.lst ((keysOf ks).map V.str)) ∧
        H' pu = some (.lst ((butK ((kinS ks).take i) "low").map V.str)) ∧ H' pl = some (.lst ((butK ((kinS ks).take i) "high").map V.str)))
      ⟨none, rfl, fun c v e => same_upd npl _ _ (same_upd npu _ _ (s04 _ _ e)), same_upd npl _ _ (same_upd npu _ _ epn4), same_upd npl _ _ upd_same, upd_same⟩ (fun i σ H' _ h => by
        obtain ⟨_, _, _, e, _⟩ := h
        exact SqL.of e) ?_ ?_
    · rintro i v σ H' hvi ⟨y7, rfl, s', en', eu', el'⟩
      obtain ⟨z, hzi, rfl⟩ : ∃ z, (keysOf ks)[i]? = some z ∧ v = V.str z := by
        rw [List.getElem?_map] at hvi
        cases e : (keysOf ks)[i]? with
        | none => rw [e] at hvi; cases hvi
        | some y => rw [e] at hvi; exact ⟨y, rfl, (Option.some.inj hvi).symm⟩
      have hpi : (kinS ks)[i]? = some (z, kfOf ks z) := by unfold kinS; rw [List.getElem?_map, hzi]; rfl
      have il : i < (kinS ks).length := (List.getElem?_eq_some_iff.mp hpi).1
      have zk : z ∈ ks.map (·.1) := (sortL_perm _).mem_iff.mp (List.mem_of_getElem? hzi)
      have vz := kin_some (kin_in zk)
      have gz : ∀ {H2 : Hp}, Same H H2 → DGet H2 a (.str z) (some (.str (kfOf ks z))) := fun {H2} s => vz ▸ DGet.k (k := Sum.inr z) (s _ _ HW.aa)
      have len : ∀ k : Str, ((butK ((kinS ks).take i) k).map V.str).length ≤ 10 := fun k => by
        unfold butK
        have h1 : (((kinS ks).take i).filter fun p => !decide (p.2 = k)).length ≤ ((kinS ks).take i).length := List.length_filter_le ..
        rw [List.length_take] at h1
        rw [List.length_map, List.length_cons, List.length_map]
        omega
      have sK : ∀ k : Str, butK ((kinS ks).take (i + 1)) k = butK ((kinS ks).take i) k ++ (if kfOf ks z = k then [] else [z]) := fun k => by
        unfold butK
        rw [butK_snoc (kinS ks) k hpi]
        rfl
      simp only [gName, List.set_cons_zero, List.set_cons_succ]
      refine cutK (fun σ' H2 => σ' = [some (.ref x), some (.ref o), some (.ref pn), some (.ref W), some (.str sg), some (.ref pu), some (.ref pl), some (.str z), none, none, none] ∧ Same H H2 ∧ H2 pn = some (.lst ((keysOf ks).map V.str)) ∧
        H2 pu = some (.lst ((butK ((kinS ks).take (i + 1)) "low").map V.str)) ∧ H2 pl = some (.lst ((butK ((kinS ks).take i) "high").map V.str))) ?_ fun kont => ?_
      rotate_left
      · refine ⟨_, rfl, _, rfl, o, _, rfl, gk s', _, rfl, a, _, rfl, gz s', rfl, _, rfl, ?_⟩
        have fin : ∀ (l : Addr) (vs : List Str), H' l = none → vs = (if kfOf ks z = ("low" : Str) then [] else [z]) → Same H (upd (upd H' l (.lst (vs.map V.str))) pu (.lst ((butK ((kinS ks).take i) "low").map V.str ++ vs.map V.str))) ∧ (upd (upd H' l (.lst (vs.map V.str))) pu (.lst ((butK ((kinS ks).take i) "low").map V.str ++ vs.map V.str))) pn = some (.lst ((keysOf ks).map V.str)) ∧
            (upd (upd H' l (.lst (vs.map V.str))) pu (.lst ((butK ((kinS ks).take i) "low").map V.str ++ vs.map V.str))) pu = some (.lst ((butK ((kinS ks).take (i + 1)) "low").map V.str)) ∧ (upd (upd H' l (.lst (vs.map V.str))) pu (.lst ((butK ((kinS ks).take i) "low").map V.str ++ vs.map V.str))) pl = some (.lst ((butK ((kinS ks).take i) "high").map V.str)) := fun l vs nl ev => by
          refine ⟨fun c v e => ?_, ?_, ?_, ?_⟩
          · rw [upd_ne (ne_of_none e nuH)]
            exact same_upd nl _ _ (s' _ _ e)
          · rw [upd_ne pn_u]
            exact same_upd nl _ _ en'
          · rw [upd_same, sK "low", ← ev, List.map_append]
          · rw [upd_ne u_l.symm]
            exact same_upd nl _ _ el'
        by_cases zz : kfOf ks z = "low"
        · rw [show (!decide (V.str (kfOf ks z) = V.str "low")) = false from by rw [str_dec, decide_eq_true zz]; rfl]
          refine iteF ⟨Nat.zero_le _, fun l nl => ?_⟩
          exact ⟨pu, l, _, [], rfl, rfl, same_upd nl _ _ eu', upd_same, Nat.le_of_lt (small60 (by have := len "low"; rw [List.length_nil]; omega)), kont _ _ ⟨rfl, fin l [] nl (by rw [if_pos zz])⟩⟩
        · rw [show (!decide (V.str (kfOf ks z) = V.str "low")) = true from by rw [str_dec, decide_eq_false zz]; rfl]
          refine iteT ⟨_, rfl, by show 1 ≤ sizeLine; decide, fun l nl => ?_⟩
          exact ⟨pu, l, _, [.str z], rfl, rfl, same_upd nl _ _ eu', upd_same, Nat.le_of_lt (small60 (by have := len "low"; rw [show ([V.str z]).length = 1 from rfl]; omega)), kont _ _ ⟨rfl, fin l [z] nl (by rw [if_neg zz])⟩⟩
      rintro σ H6 ⟨rfl, s6, en6, eu6, el6⟩
      refine cutK (fun σ' H2 => σ' = [some (.ref x), some (.ref o), some (.ref pn), some (.ref W), some (.str sg), some (.ref pu), some (.ref pl), some (.str z), none, none, none] ∧ Same H H2 ∧ H2 pn = some (.lst ((keysOf ks).map V.str)) ∧
        H2 pu = some (.lst ((butK ((kinS ks).take (i + 1)) "low").map V.str)) ∧ H2 pl = some (.lst ((butK ((kinS ks).take (i + 1)) "high").map V.str))) ?_ fun kont => ?_
      rotate_left
      · refine ⟨_, rfl, _, rfl, o, _, rfl, gk s6, _, rfl, a, _, rfl, gz s6, rfl, _, rfl, ?_⟩
        have fin : ∀ (l : Addr) (vs : List Str), H6 l = none → vs = (if kfOf ks z = ("high" : Str) then [] else [z]) → Same H (upd (upd H6 l (.lst (vs.map V.str))) pl (.lst ((butK ((kinS ks).take i) "high").map V.str ++ vs.map V.str))) ∧ (upd (upd H6 l (.lst (vs.map V.str))) pl (.lst ((butK ((kinS ks).take i) "high").map V.str ++ vs.map V.str))) pn = some (.lst ((keysOf ks).map V.str)) ∧
            (upd (upd H6 l (.lst (vs.map V.str))) pl (.lst ((butK ((kinS ks).take i) "high").map V.str ++ vs.map V.str))) pu = some (.lst ((butK ((kinS ks).take (i + 1)) "low").map V.str)) ∧ (upd (upd H6 l (.lst (vs.map V.str))) pl (.lst ((butK ((kinS ks).take i) "high").map V.str ++ vs.map V.str))) pl = some (.lst ((butK ((kinS ks).take (i + 1)) "high").map V.str)) := fun l vs nl ev => by
          refine ⟨fun c v e => ?_, ?_, ?_, ?_⟩
          · rw [upd_ne (ne_of_none e nlH)]
            exact same_upd nl _ _ (s6 _ _ e)
          · rw [upd_ne pn_l]
            exact same_upd nl _ _ en6
          · rw [upd_ne u_l]
            exact same_upd nl _ _ eu6
          · rw [upd_same, sK "high", ← ev, List.map_append]
        by_cases zz : kfOf ks z = "high"
        · rw [show (!decide (V.str (kfOf ks z) = V.str "high")) = false from by rw [str_dec, decide_eq_true zz]; rfl]
          refine iteF ⟨Nat.zero_le _, fun l nl => ?_⟩
          exact ⟨pl, l, _, [], rfl, rfl, same_upd nl _ _ el6, upd_same, Nat.le_of_lt (small60 (by have := len "high"; rw [List.length_nil]; omega)), kont _ _ ⟨rfl, fin l [] nl (by rw [if_pos zz])⟩⟩
        · rw [show (!decide (V.str (kfOf ks z) = V.str "high")) = true from by rw [str_dec, decide_eq_false zz]; rfl]
          refine iteT ⟨_, rfl, by show 1 ≤ sizeLine; decide, fun l nl => ?_⟩
          exact ⟨pl, l, _, [.str z], rfl, rfl, same_upd nl _ _ el6, upd_same, Nat.le_of_lt (small60 (by have := len "high"; rw [show ([V.str z]).length = 1 from rfl]; omega)), kont _ _ ⟨rfl, fin l [z] nl (by rw [if_neg zz])⟩⟩
      rintro σ H7 ⟨rfl, s7, en7, eu7, el7⟩
      have zn : nameS z = true := (okS.nm _ (List.mem_of_getElem? hpi)).name
      have zne : ¬ z = "" := fun e => by
        rw [e] at zn
        cases zn
      have kO : kindO (kinS ks) z = (("told" : Str), kfOf ks z) := by
        unfold kindO
        rw [if_neg zne, kinS_kin, if_pos (kin_in zk), kinS_kf]
      refine ⟨_, rfl, _, rfl, x, dx, kd, pp, rr, wv, xs, kinS ks, zs, rs, n, ws, 0, _, rfl, PWs s7, ways_f hwi, by omega, .inl ⟨rfl, z, rfl, .inr zn, fun H8 t1 s8 e1 => ?_⟩⟩
      rw [kO] at e1
      refine ⟨_, rfl, o, _, rfl, gk (s7.trans s8), _, rfl, a, _, rfl, gz (s7.trans s8), by show 2 ≤ sizeLine; decide, fun t2 nt2 => ?_⟩
      have wA := same_upd (o := .tup [.str "told", .str (kfOf ks z)]) nt2
      have gt : Gd 0 92 (.str "told") := gd_str (by decide +kernel) (by decide +kernel)
      have gk1 : Gd 0 92 (.str (kfOf ks z)) := kind_gd (okS.kd _ (List.mem_of_getElem? hpi))
      have cl : (PyData.tuple [.str "told", .str (kfOf ks z)]).canLay0 = true := lay_tup (lay_cons (lay_gd gt) (lay_cons (lay_gd gk1) lay_nil))
      have sh : SeqAt.shaped (.tuple [.str "told", .str (kfOf ks z)]) = true := by
        unfold SeqAt.shaped
        rw [cl, decide_eq_true (by simp [PyData.depth, PyData.depthAll])]
        rfl
      refine ⟨_, _, .tup (SqT.of (wA _ _ e1)) (.cons (.str _) (.cons (.str _) .nil)), .tup (SqT.of upd_same) (.cons (.str _) (.cons (.str _) .nil)), sh, sh, _, rfl, ?_⟩
      rw [SeqAt.eqv_refl _ cl]
      exact iteF ⟨_, rfl, (s7.trans s8).trans wA, wA _ _ (s8 _ _ en7), wA _ _ (s8 _ _ eu7), wA _ _ (s8 _ _ el7)⟩
    · rintro σ H5 ⟨y7, rfl, s5, en5, eu5, el5⟩
      have ekl : ((keysOf ks).map V.str).length = (kinS ks).length := by unfold kinS; rw [List.length_map, List.length_map]
      rw [ekl, List.take_length] at eu5 el5
      have b1 : ∀ k : Str, ∀ z ∈ butK (kinS ks) k, z = "" ∨ NmOk z := fun k z hz => by
        unfold butK at hz
        rcases List.mem_cons.mp hz with h | h
        · exact .inl h
        · obtain ⟨p, hp, rfl⟩ := List.mem_map.mp h
          exact .inr (okS.nm p ((List.mem_filter.mp hp).1))
      have b2 : ∀ k : Str, (butK (kinS ks) k).length ≤ 24 := fun k => by
        unfold butK
        have h1 : ((kinS ks).filter fun p => !decide (p.2 = k)).length ≤ (kinS ks).length := List.length_filter_le ..
        rw [List.length_cons, List.length_map]
        omega
      have dqS : ∀ {H2 : Hp} {p : Addr} {qs : List Str}, H2 x = some (.ins C dx (flds5 kd pp rr n wv)) → H2 p = some (.lst (qs.map V.str)) → p ≠ sysModules → Dq H2 x (.ref p) (.list (qs.map .str)) := fun {H2 p qs} h e wp => .lst e (ne_of e h (by intro z; cases z)) wp (DqAll.strs' _ _ _)
      have same2 : ∀ {u v : Str}, Gd 0 92 (.str u) → Gd 0 92 (.str v) → (PyData.tuple [.str u, .str v]).canLay0 = true ∧ SeqAt.shaped (.tuple [.str u, .str v]) = true := fun {u v} gu gv => by
        have cl : (PyData.tuple [.str u, .str v]).canLay0 = true := lay_tup (lay_cons (lay_gd gu) (lay_cons (lay_gd gv) lay_nil))
        refine ⟨cl, ?_⟩
        unfold SeqAt.shaped
        rw [cl, decide_eq_true (by simp [PyData.depth, PyData.depthAll])]
        rfl
      refine ⟨_, rfl, x, dx, _, rfl, s5 _ _ hx, lku, x, dx, kinS ks, zs, rs, n, ws, rfl, (PWs s5).at, okS.nd, by omega, fun H6 q1 s6 nq1 wq1 eq1 => ?_⟩
      have s06 := s5.trans s6
      refine ⟨_, rfl, x, dx, _, rfl, s06 _ _ hx, lkl, x, dx, kinS ks, zs, rs, n, ws, rfl, (PWs s06).at, okS.nd, by omega, fun H7 q2 s7 nq2 wq2 eq2 => ⟨by show 2 ≤ sizeLine; decide, fun l1 nl1 wl1 => ?_⟩⟩
      have s07 := s06.trans s7
      have w1 := same_upd (o := .lst [.ref q1, .ref q2]) nl1
      have el1 : (upd H7 l1 (.lst [.ref q1, .ref q2])) l1 = some (.lst [.ref q1, .ref q2]) := upd_same
      generalize upd H7 l1 (.lst [.ref q1, .ref q2]) = H8 at w1 el1 ⊢
      refine ⟨_, rfl, _, rfl, by show 2 ≤ sizeLine; decide, fun l2 nl2 wl2 => ?_⟩
      have w2 := same_upd (o := .lst [.ref pu, .ref pl]) nl2
      have el2 : (upd H8 l2 (.lst [.ref pu, .ref pl])) l2 = some (.lst [.ref pu, .ref pl]) := upd_same
      generalize upd H8 l2 (.lst [.ref pu, .ref pl]) = H9 at w2 el2 ⊢
      have s79 := w1.trans w2
      have s09 := s07.trans s79
      have s59 := (s6.trans s7).trans s79
      have hx9 := s09 _ _ hx
      refine ⟨x, _, _, .list [.list ((butK (kinS ks) "low").map .str), .list ((butK (kinS ks) "high").map .str)], rfl, .lst (w2 _ _ el1) (ne_of (w2 _ _ el1) hx9 (by intro z; cases z)) wl1 (.cons (dqS hx9 (s79 _ _ (s7 _ _ eq1)) wq1) (.cons (dqS hx9 (s79 _ _ eq2) wq2) .nil)),
        .lst el2 (ne_of el2 hx9 (by intro z; cases z)) wl2 (.cons (dqS hx9 (s59 _ _ eu5) wpu) (.cons (dqS hx9 (s59 _ _ el5) wpl) .nil)), alike_srcs (b1 "low") (b1 "high") (b2 "low") (b2 "high"), true, rfl, iteF ?_⟩
      have gt : Gd 0 92 (.str "told") := gd_str (by decide +kernel) (by decide +kernel)
      have gp : Gd 0 92 (.str "plain") := gd_str (by decide +kernel) (by decide +kernel)
      have gnm : Gd 0 92 (.str "name") := gd_str (by decide +kernel) (by decide +kernel)
      refine ⟨_, rfl, x, dx, kd, pp, rr, wv, xs, kinS ks, zs, rs, n, ws, 0, _, rfl, PWs s09, ways_f hwi, by omega, .inl ⟨rfl, "", rfl, .inl rfl, fun Ha t1 sa e1 => ?_⟩⟩
      have s0a := s09.trans sa
      refine ⟨by show 2 ≤ sizeLine; decide, fun t2 nt2 => ?_⟩
      have wA := same_upd (o := .tup [.str "told", .str "plain"]) nt2
      refine ⟨_, _, .tup (SqT.of (wA _ _ e1)) (.cons (.str _) (.cons (.str _) .nil)), .tup (SqT.of upd_same) (.cons (.str _) (.cons (.str _) .nil)), (same2 gt gp).2, (same2 gt gp).2, _, rfl, ?_⟩
      rw [show PyData.eqv (.tuple [.str (kindO (kinS ks) "").1, .str (kindO (kinS ks) "").2]) (.tuple [.str "told", .str "plain"]) = true from SeqAt.eqv_refl _ (same2 gt gp).1]
      refine iteF ?_
      have s0b := s0a.trans wA
      have sne : ¬ sg = "" := fun e => by
        rw [e] at sgn
        cases sgn
      have skin : kinOf (kinS ks) sg = false := by
        rw [kinS_kin]
        cases e : kinOf ks sg with
        | false => rfl
        | true =>
          unfold kinOf at e
          obtain ⟨p, hp, ep⟩ := List.find?_isSome.mp e
          exact absurd ((sortL_perm _).mem_iff.mpr (List.mem_map.mpr ⟨p, hp, of_decide_eq_true ep⟩)) sgo
      have kO : kindO (kinS ks) sg = (("name" : Str), sg) := by
        unfold kindO
        rw [if_neg sne, skin, if_neg (by decide)]
      refine ⟨_, rfl, _, rfl, x, dx, kd, pp, rr, wv, xs, kinS ks, zs, rs, n, ws, 0, _, rfl, PWs s0b, ways_f hwi, by omega, .inl ⟨rfl, sg, rfl, .inr sgn, fun Hc t3 sc e3 => ?_⟩⟩
      rw [kO] at e3
      refine ⟨_, rfl, by show 2 ≤ sizeLine; decide, fun t4 nt4 => ?_⟩
      have wB := same_upd (o := .tup [.str "name", .str sg]) nt4
      refine ⟨_, _, .tup (SqT.of (wB _ _ e3)) (.cons (.str _) (.cons (.str _) .nil)), .tup (SqT.of upd_same) (.cons (.str _) (.cons (.str _) .nil)), (same2 gnm gsg).2, (same2 gnm gsg).2, _, rfl, ?_⟩
      rw [SeqAt.eqv_refl _ (same2 gnm gsg).1]
      refine iteF ?_
      have s0d := (s0b.trans sc).trans wB
      generalize upd Hc t4 (.tup [.str "name", .str sg]) = Hd at s0d ⊢
      -- the ways
      refine ⟨_, rfl, _, rfl, W, _, rfl, .inl (SqL.of (s0d _ _ HW.hw)), _, _, rfl, rfl, ?_⟩
      refine ⟨-1, (ys.length : Int) + 1, rfl, ⟨by decide, by decide, by omega, by omega⟩, ?_⟩
      refine for_range (lo := -1) (n := ((ys.length : Int) + 1 - (-1)).toNat) (fun i σ H' => ∃ y8 : Option V, σ = [some (.ref x), some (.ref o), some (.ref pn), some (.ref W), some (.str sg), some (.ref pu), some (.ref pl), y7, y8, none, none] ∧ Same H H')
        ⟨none, rfl, s0d⟩ ?_ ?_
      · rintro i σ H' hi ⟨y8, rfl, s'⟩
        have hi2 : i < ys.length + 2 := by omega
        simp only [gName, List.set_cons_zero, List.set_cons_succ]
        obtain ⟨k, ek⟩ : ∃ k : Int, k = -1 + (i : Int) := ⟨_, rfl⟩
        rw [← ek]
        have kb : -1 ≤ k ∧ k ≤ 21 := by omega
        refine ⟨_, rfl, _, rfl, x, dx, kd, pp, rr, wv, xs, kinS ks, zs, rs, n, ws, 1, _, rfl, PWs s', ways_f hwi, by omega, .inr (.inl ⟨rfl, k, rfl, fun j u ej hu2 H2 p s2 e2 => ?_, fun hbad H2 p s2 e2 => ?_⟩)⟩
        · have s02 := s'.trans s2
          have hx2 := s02 _ _ hx
          obtain ⟨e, he, hde⟩ := PW_.hq.at_ hu2
          obtain ⟨u', hy', hde'⟩ := HW.hq.at_d he
          have jl : j < ys.length := (List.getElem?_eq_some_iff.mp hy').1
          refine ⟨_, rfl, _, _, rfl, rfl, _, rfl, ?_⟩
          rw [decide_eq_true (show (0 : Int) ≤ k by omega)]
          refine iteT ⟨_, rfl, W, _, rfl, .inl (SqL.of (s02 _ _ HW.hw)), _, _, rfl, rfl, _, rfl, ?_⟩
          rw [decide_eq_true (show k < (ys.length : Int) by omega)]
          refine iteT ⟨_, rfl, _, rfl, W, _, _, _, rfl, rfl, SqL.of (s02 _ _ HW.hw), by rw [ej]; exact atI_nat hy', by show 2 ≤ sizeLine; decide, fun t nt => ?_⟩
          have wt := same_upd (o := .tup [.str "told", u']) nt
          have s03 := s02.trans wt
          have hx3 := s03 _ _ hx
          exact ⟨x, _, _, .tuple [.str "told", e], rfl, .tup (wt _ _ e2) (ne_of (wt _ _ e2) hx3 (by intro z; cases z)) (.cons (.str _) (.cons (hde.mono fun c o _ q => s03 c o q) .nil)), .tup upd_same (ne_of upd_same hx3 (by intro z; cases z)) (.cons (.str _) (.cons (hde'.mono fun c o _ q => s03 c o q) .nil)), alike_told (hwi e (List.mem_of_getElem? he)) n4, true, rfl, iteF ⟨_, rfl, s03⟩⟩
        · have s02 := s'.trans s2
          have gwy : Gd 0 92 (.str "way") := gd_str (by decide +kernel) (by decide +kernel)
          have fin : ∀ t, H2 t = none → ∃ (b : Addr) (xv yv : V) (d : PyData), [V.ref p, V.ref t] = [xv, yv] ∧ Dq (upd H2 t (.tup [.str "way", .int k])) b xv d ∧ Dq (upd H2 t (.tup [.str "way", .int k])) b yv d ∧ AlikeOk d ∧ Same H (upd H2 t (.tup [.str "way", .int k])) := fun t nt => by
            have wt := same_upd (o := .tup [.str "way", .int k]) nt
            have s03 := s02.trans wt
            have hx3 := s03 _ _ hx
            exact ⟨x, _, _, .tuple [.str "way", .int k], rfl, .tup (wt _ _ e2) (ne_of (wt _ _ e2) hx3 (by intro z; cases z)) (.cons (.str _) (.cons (.int _) .nil)), .tup upd_same (ne_of upd_same hx3 (by intro z; cases z)) (.cons (.str _) (.cons (.int _) .nil)), alike_two gwy (by omega) (by omega), s03⟩
          refine ⟨_, rfl, _, _, rfl, rfl, _, rfl, ?_⟩
          by_cases h0 : (0 : Int) ≤ k
          · rw [decide_eq_true h0]
            refine iteT ⟨_, rfl, W, _, rfl, .inl (SqL.of (s02 _ _ HW.hw)), _, _, rfl, rfl, _, rfl, ?_⟩
            rw [decide_eq_false (show ¬ k < (ys.length : Int) by omega)]
            refine iteF ⟨_, rfl, by show 2 ≤ sizeLine; decide, fun t nt => ?_⟩
            obtain ⟨b, xv, yv, d, e1, g1, g2, g3, g4⟩ := fin t nt
            exact ⟨b, xv, yv, d, e1, g1, g2, g3, true, rfl, iteF ⟨_, rfl, g4⟩⟩
          · rw [decide_eq_false h0]
            refine iteF ⟨_, rfl, iteF ⟨_, rfl, by show 2 ≤ sizeLine; decide, fun t nt => ?_⟩⟩
            obtain ⟨b, xv, yv, d, e1, g1, g2, g3, g4⟩ := fin t nt
            exact ⟨b, xv, yv, d, e1, g1, g2, g3, true, rfl, iteF ⟨_, rfl, g4⟩⟩
      · rintro σ He ⟨y8, rfl, s0e⟩
        -- the ways out
        refine ⟨_, rfl, _, rfl, o, _, rfl, gn s0e, _, _, rfl, rfl, -1, n + 1, rfl, ⟨by decide, by decide, by omega, by omega⟩, ?_⟩
        refine for_range (lo := -1) (n := (n + 1 - (-1)).toNat) (fun i σ H' => ∃ y9 y10 : Option V, σ = [some (.ref x), some (.ref o), some (.ref pn), some (.ref W), some (.str sg), some (.ref pu), some (.ref pl), y7, y8, y9, y10] ∧ Same H H')
          ⟨none, none, rfl, s0e⟩ ?_ ?_
        · rintro i σ H' hi ⟨y9, y10, rfl, s'⟩
          simp only [gName, List.set_cons_zero, List.set_cons_succ]
          obtain ⟨k, ek⟩ : ∃ k : Int, k = -1 + (i : Int) := ⟨_, rfl⟩
          rw [← ek]
          have kb : -1 ≤ k ∧ k ≤ n := by omega
          refine ⟨_, rfl, W, _, rfl, .inl (SqL.of (s' _ _ HW.hw)), _, rfl, by omega, by omega, fun D nD wD => ?_⟩
          refine lc_range (lo := 0) (n := ((ys.length : Nat) : Int).toNat) (fun j H2 => Same H' H2 ∧ H2 D = some (.lst ((outI ws k j).map V.int))) ⟨same_upd nD, by rw [show outI ws k 0 = [] from rfl]; exact upd_same⟩ ?_ ?_
          · rintro j H2 hj ⟨s2, eD⟩
            have jl : j < ys.length := by omega
            have s02 := s'.trans s2
            obtain ⟨e, he, hde⟩ := HW.hq.at_ (List.getElem?_eq_getElem jl)
            obtain ⟨aw, cw, st, rfl⟩ := ways_f hwi e (List.mem_of_getElem? he)
            obtain ⟨tw, us, _, ev, _, ee, etw, hys⟩ := hde.tup_of rfl
            cases ee
            obtain ⟨v1, v2, v3, rfl⟩ : ∃ v1 v2 v3, us = [v1, v2, v3] := by
              match us, hys with
              | [v1, v2, v3], _ => exact ⟨_, _, _, rfl⟩
            have h1' : v1 = .int aw := by
              cases hys with
              | cons g _ => cases g; rfl
            subst h1'
            have eo := out_snoc (i := k) he
            refine ⟨rfl, _, rfl, _, rfl, W, _, _, _, rfl, rfl, SqL.of (s02 _ _ HW.hw), atI_nat0 (by rw [List.getElem?_eq_getElem jl, ev]), tw, _, _, _, rfl, rfl, SqT.of (s02 _ _ etw), atI_nat (j := 0) rfl, _, rfl, rfl, _, rfl, ite2 (fun z => ?_) (fun z => ?_)⟩
            · have z : aw = k := V.int.inj (of_decide_eq_true z)
              refine ⟨_, rfl, _, eD, small60 ?_, fun c v e => ?_, ?_⟩
              · have := out_len (ws := ws) (i := k) (m := j)
                rw [List.length_map]
                omega
              · rw [upd_ne (ne_of_none e nD)]
                exact s2 _ _ e
              · rw [upd_same, eo, if_pos z, List.map_append, Int.zero_add]
                rfl
            · have z : ¬ aw = k := fun h => z (decide_eq_true (by rw [h]))
              refine ⟨s2, ?_⟩
              rw [eo, if_neg z, List.append_nil]
              exact eD
          rintro H2 ⟨s2, eD⟩
          rw [show ((ys.length : Nat) : Int).toNat = ws.length from by rw [Int.toNat_natCast]; exact yl] at eD
          have s02 := s'.trans s2
          refine ⟨by show 2 ≤ sizeLine; decide, fun t nt => ?_⟩
          simp only [gName, List.set_cons_zero, List.set_cons_succ]
          have wt := same_upd (o := .tup [.str "told", .ref D]) nt
          have s03 := s02.trans wt
          have eD3 := wt _ _ eD
          have et3 : (upd H2 t (.tup [.str "told", .ref D])) t = some (.tup [.str "told", .ref D]) := upd_same
          generalize upd H2 t (.tup [.str "told", .ref D]) = H3 at s03 eD3 et3 ⊢
          refine cutK (fun σ' H4 => ∃ td : Addr, σ' = [some (.ref x), some (.ref o), some (.ref pn), some (.ref W), some (.str sg), some (.ref pu), some (.ref pl), y7, y8, some (.int k), some (.ref td)] ∧ Same H3 H4 ∧ ((0 ≤ k ∧ k < n ∧ td = t) ∨ ((k < 0 ∨ n ≤ k) ∧ H4 td = some (.tup [.str "place", .int k])))) ?_ fun kont => ?_
          rotate_left
          · have put : (k < 0 ∨ n ≤ k) → ∀ t2, H3 t2 = none → _ := fun hb t2 nt2 => kont _ (upd H3 t2 (.tup [.str "place", .int k])) ⟨t2, rfl, same_upd nt2, .inr ⟨hb, upd_same⟩⟩
            refine ⟨_, rfl, _, _, rfl, rfl, _, rfl, ?_⟩
            by_cases h0 : k < 0
            · rw [decide_eq_true h0]
              exact iteT ⟨_, rfl, by show 2 ≤ sizeLine; decide, fun t2 nt2 => put (.inl h0) t2 nt2⟩
            · rw [decide_eq_false h0]
              refine iteF ⟨_, rfl, _, rfl, o, _, rfl, gn s03, _, _, rfl, rfl, _, rfl, ?_⟩
              by_cases h1 : n ≤ k
              · rw [decide_eq_true h1]
                exact iteT ⟨_, rfl, by show 2 ≤ sizeLine; decide, fun t2 nt2 => put (.inr h1) t2 nt2⟩
              · rw [decide_eq_false h1]
                exact iteF (kont _ _ ⟨t, rfl, fun _ _ e => e, .inl ⟨by omega, by omega, rfl⟩⟩)
          rintro σ H4 ⟨td, rfl, s4, hc⟩
          have s04 := s03.trans s4
          refine ⟨_, rfl, _, rfl, x, dx, kd, pp, rr, wv, xs, kinS ks, zs, rs, n, ws, 2, _, rfl, PWs s04, ways_f hwi, by omega, .inr (.inr ⟨rfl, k, rfl, fun h0 h1 H5 p l s5 wl' el5 e5 => ?_, fun hbad H5 p s5 e5 => ?_⟩)⟩
          · have etd : td = t := by
              rcases hc with ⟨_, _, h⟩ | ⟨h, _⟩
              · exact h
              · omega
            subst etd
            have s05 := s04.trans s5
            have hx5 := s05 _ _ hx
            have s35 := s4.trans s5
            have il : ∀ (H : Hp), DqAll H x ((outI ws k ws.length).map V.int) ((outI ws k ws.length).map .int) := fun H => by
              induction outI ws k ws.length with
              | nil => exact .nil
              | cons i l ih => exact .cons (.int i) ih
            refine ⟨_, rfl, x, _, _, .tuple [.str "told", .list ((outI ws k ws.length).map .int)], rfl, .tup e5 (ne_of e5 hx5 (by intro z; cases z)) (.cons (.str _) (.cons (.lst el5 (ne_of el5 hx5 (by intro z; cases z)) wl' (il _)) .nil)),
              .tup (s35 _ _ et3) (ne_of (s35 _ _ et3) hx5 (by intro z; cases z)) (.cons (.str _) (.cons (.lst (s35 _ _ eD3) (ne_of (s35 _ _ eD3) hx5 (by intro z; cases z)) wD (il _)) .nil)), alike_out (by omega), true, rfl, iteF ⟨_, _, rfl, s05⟩⟩
          · have etd : H4 td = some (.tup [.str "place", .int k]) := by
              rcases hc with ⟨h0, h1, h⟩ | ⟨_, h⟩
              · omega
              · exact h
            have s05 := s04.trans s5
            have hx5 := s05 _ _ hx
            have gpl : Gd 0 92 (.str "place") := gd_str (by decide +kernel) (by decide +kernel)
            refine ⟨_, rfl, x, _, _, .tuple [.str "place", .int k], rfl, .tup e5 (ne_of e5 hx5 (by intro z; cases z)) (.cons (.str _) (.cons (.int _) .nil)),
              .tup (s5 _ _ etd) (ne_of (s5 _ _ etd) hx5 (by intro z; cases z)) (.cons (.str _) (.cons (.int _) .nil)), alike_two gpl (by omega) (by omega), true, rfl, iteF ⟨_, _, rfl, s05⟩⟩
        · rintro σ Hf ⟨y9, y10, rfl, s0f⟩
          exact q Hf s0f
end
end Fv


set_option Elab.async false
set_option linter.all false
set_option maxRecDepth 100000
set_option maxHeartbeats 4000000
/-! list(x) and x = [..] at none of the first places -/
namespace Fv
open PySem PySem.Spec PyProof.Rows L2
/-- list(x) of a list: a new list at none of the first places -/
def rListL (K : PySem.W.Frag) : List V → Hp → VK → Prop := fun xs H Q => ∃ p ys, xs = [.ref p] ∧ SqL K H p ys ∧ ∀ l, H l = none → l ≠ sysModules → Q (.ref l) (upd H l (.lst ys))
theorem call_listL {X : Cx} : CallR X (.type "list") (rListL X.K) := by
  intro pins s σ H xs us Q I r h
  obtain ⟨p, ys, ex, hT, q⟩ := h
  subst ex
  obtain ⟨v, ev, rv⟩ := vals1 r
  subst ev
  obtain rfl : v = Value.ref p := rv
  obtain ⟨items, ri, pl, room⟩ := I.list hT
  obtain ⟨ob, hob, hcl, cap, hda⟩ := pl.isList
  have hn := ri.length
  refine call_list_seq p (.inl rfl) hob hcl hda (fun hp cp keep new => ?_) (by simp only [List.size_toArray] <;> omega)
  have J : Inv X pins σ (upd H s.heap.objs.size (.lst ys)) { s with heap := hp } := I.laid (t' := s.toks) keep (Nat.le_refl _) ⟨room, items, cp, ri, new⟩
  exact ⟨.ref _, _, J, rfl, q _ (I.hok.fresh (Nat.le_refl _)) (Nat.ne_of_gt I.big)⟩
end Fv
namespace L2
open PySem PySem.Spec PyProof.Rows
variable {X : Cx}
/-! ### name = [..] on one line, the list at none of the first places -/
theorem lcB_core {pins : List (Addr × Obj)} {s : Shared} {σ : L2.St} {H : Hp} {Q : VK} {elt tg iter : Expr} {ifs : List Expr} {scope : Scope} {own : List (PySem.Str × Nat)} {pos pos2 : Pos} {wi : TI} {g : TG} {tt : TT} {te : TE} {use : Option (Value → Sem Unit)} {Qf : Value → Shared → Prop}
    (hc : X.calm = true) (hN : X.N.Nodup) (I : Inv X pins σ H s) (hi : PI X tg iter wi) (ok : BlkOk X.N X.env.scope scope own)
    (hg : ∀ (s : Shared) (H : Hp) (C : Addr) (cl : List (PySem.Str × Addr)) (fp : List Addr), PG (X.blk s H scope (compEnvC scope cl C X.env) fp) tg g) (ht : ∀ (s : Shared) (H : Hp) (C : Addr) (cl : List (PySem.Str × Addr)) (fp : List Addr), PTs (X.blk s H scope (compEnvC scope cl C X.env) fp) ifs tt)
    (he : ∀ (s : Shared) (H : Hp) (C : Addr) (cl : List (PySem.Str × Addr)) (fp : List Addr), PE (X.blk s H scope (compEnvC scope cl C X.env) fp) elt te) (hs : ∀ x, foldedSetIterable iter X.env x = pure x)
    (h : Fv.tLcB wi g tt te (own.map (·.2)) σ H Q)
    (hRR : ∀ D C s' m H', Inv X pins σ H' s' → Q (.ref D) H' → s'.heap.Ns C m → FpOk X pins H' C → compPost (model X.prog X.w) X.A X.xe use Qf (.ref D) C (.ok .next) s') :
    wpAny (model X.prog X.w) X.A (comprehension (.ListComp elt [⟨tg, iter, ifs, 0⟩] scope pos) scope X.env pos2 (newList []) false (eval iter X.env) use) Qf X.xe s := by
  have free : ∀ y ∈ scope.names, y.2 = .free → ∃ c, X.env.cells.lookup y.1 = some c := fun y hy e => (ok.free y hy e).elim (fun k => I.ok.has _ (.inl k)) fun k => I.ok.has _ (.inr k)
  refine wpAny_comprehension_free (use := use) rfl hs (closure_ok free) ok.kind (fun y hy e => by rw [ok.uniq y hy, e]) (thn (hi.run pins s σ H _ I h) fun xv s1 hx => thn hx fun itv s2 ⟨it, fp, tn, J, H2, e2, I2, T, st2, f2, q⟩ => ?_)
  subst e2
  refine wpAny_newObj_type (newEnv_comp ?_) (by show 0 ≤ sizeLine; decide)
  have nD : H2 s2.heap.objs.size = none := I2.hok.fresh (Nat.le_refl _)
  have big := Nat.ne_of_gt I2.big
  obtain ⟨W, ⟨m0, w0⟩, turn⟩ := q _ nD big
  have I3 : Inv X pins σ (upd H2 s2.heap.objs.size (.lst [])) { s2 with heap := s2.heap.push { cls := .type "list", data := .seq ([] : List Value).toArray } } :=
    I2.laid (t' := s2.toks) (fun b o e => Heap.get?_push_of_some _ e) (Nat.le_refl _) ⟨Nat.zero_le _, [], 0, .nil, Heap.get?_push_size _ rfl⟩
  have szf : ∀ b ∈ fp, b < s2.heap.objs.size := fun b hb => let ⟨_, e, _⟩ := T.obj _ _ st2 b hb; Heap.lt_size e
  obtain ⟨D, eD⟩ : ∃ D, D = s2.heap.objs.size := ⟨_, rfl⟩
  rw [← eD] at nD w0 turn I3 szf ⊢
  have k3 : ∀ b o, s2.heap.get? b = some o → (s2.heap.push { cls := .type "list", data := .seq ([] : List Value).toArray }).get? b = some o := fun b o e => Heap.get?_push_of_some _ e
  have z3 : (s2.heap.push { cls := .type "list", data := .seq ([] : List Value).toArray }).objs.size = D + 1 := by rw [Heap.size_push, eD]
  generalize e3 : ({ s2 with heap := s2.heap.push { cls := .type "list", data := .seq ([] : List Value).toArray } } : Shared) = s3 at I3 ⊢
  have h3 : s3.heap = s2.heap.push { cls := .type "list", data := .seq ([] : List Value).toArray } := by rw [← e3]
  rw [← h3] at k3 z3
  obtain ⟨H3, eH⟩ : ∃ H3, H3 = upd H2 D (.lst []) := ⟨_, rfl⟩
  have fps : ∀ b ∈ fp, FpOk X pins H3 b ∧ b < s3.heap.objs.size := fun b hb => by
    refine ⟨⟨?_, (f2 b hb).2⟩, by rw [z3]; exact Nat.lt_succ_of_lt (szf b hb)⟩
    rw [eH, upd_ne (Nat.ne_of_lt (szf b hb))]
    exact (f2 b hb).1
  rw [← eH] at w0 I3
  have b4 := block_start I3 ok hN fps
  have st3 : tn 0 s3.heap := T.keep _ _ _ st2 fun b _ o e => k3 b o e
  show codeAny _ _ (.compStart (.ListComp elt [⟨tg, iter, ifs, 0⟩] scope pos) 0 (.ref it) (.ref D) (compEnvC scope (cellsFrom (s3.heap.objs.size + 1) scope.names (cloFrom X.env.cells scope.names [])) s3.heap.objs.size X.env)) (compPost (model X.prog X.w) X.A X.xe use Qf (.ref D) s3.heap.objs.size) { s3 with heap := pushCells (s3.heap.push { cls := .type "dict", data := .dict #[] }) scope.names }
  have G1 := hg s3 H3 s3.heap.objs.size (cellsFrom (s3.heap.objs.size + 1) scope.names (cloFrom X.env.cells scope.names [])) fp
  have G2 := ht s3 H3 s3.heap.objs.size (cellsFrom (s3.heap.objs.size + 1) scope.names (cloFrom X.env.cells scope.names [])) fp
  have G3 := he s3 H3 s3.heap.objs.size (cellsFrom (s3.heap.objs.size + 1) scope.names (cloFrom X.env.cells scope.names [])) fp
  generalize ece : compEnvC scope (cellsFrom (s3.heap.objs.size + 1) scope.names (cloFrom X.env.cells scope.names [])) s3.heap.objs.size X.env = ce at b4 G1 G2 G3 ⊢
  have lc : ce.locals = s3.heap.objs.size := by rw [← ece]; rfl
  generalize e4 : ({ s3 with heap := pushCells (s3.heap.push { cls := .type "dict", data := .dict #[] }) scope.names } : Shared) = s4 at b4 ⊢
  have st4 : tn 0 s4.heap := T.keep _ _ _ st3 fun b _ o e => by rw [← e4]; exact pushCells_keeps _ _ _ _ (Heap.get?_push_of_some _ e)
  have still : ∀ {σ' : L2.St} {H' : Hp} {s' : Shared}, Inv (X.blk s3 H3 scope ce fp) [] σ' H' s' → (∀ b ∈ fp, H' b = none) → ∀ b ∈ fp, FpOk (X.blk s3 H3 scope ce fp) [] H' b := fun {σ' H' s'} J hn b hb =>
    ⟨hn b hb, (J.ok.exf b hb).1, J.ok.exfs b hb, Or.inl hb, fun x c e => (J.ok.exf b hb).2 x c e, fun p hp => by simp at hp⟩
  have walk : codeAny (model X.prog X.w) X.A (.compLoop (.ListComp elt [⟨tg, iter, ifs, 0⟩] scope pos) 0 (.ref it) (.ref D) ce) (compPost (model X.prog X.w) X.A X.xe use Qf (.ref D) s3.heap.objs.size) s4 := by
    refine compLoop_any (fun n s' => ∃ (i : Nat) (H' : Hp), Inv (X.blk s3 H3 scope ce fp) [] (wipe σ (own.map (·.2))) H' s' ∧ tn i s'.heap ∧ (∀ b ∈ fp, H' b = none) ∧ W i n H') (fun n s5 ⟨i, H5, I5, st5, n5, w5⟩ => ?_) m0 ⟨0, H3, b4, st4, fun b hb => (fps b hb).1.1, w0⟩
    rcases turn i n H5 w5 with ⟨stop, qq⟩ | ⟨go, Nx, hNx, step⟩
    · refine thnF (T.done (X.blk s3 H3 scope ce fp) rfl rfl rfl hc i [] s5 _ H5 (fun _ _ => False) I5 (still I5 n5) st5 stop) fun r s6 ⟨hr, I6⟩ => ?_
      subst hr
      have J := I3.call' (ch := fp) I6.os I6.base I6.hok I6.bare fun b hb => let f := (fps b hb).1.2; ⟨f.2.2.1, f.1, f.2.2.2.1, f.2.2.2.2⟩
      have nC : H5 s3.heap.objs.size = none := lc ▸ I6.free
      obtain ⟨m, hn, _⟩ := I6.loc
      have hn' : s6.heap.Ns s3.heap.objs.size m := lc ▸ (show s6.heap.Ns ce.locals m from hn)
      exact hRR D s3.heap.objs.size s6 m H5 J qq hn' (I3.fpOk (Nat.le_refl _) nC)
    · refine thnF (T.item (X.blk s3 H3 scope ce fp) rfl rfl rfl hc i [] s5 _ H5 (fun _ _ => False) I5 (still I5 n5) st5 go) fun r s6 ⟨u, hr, h6⟩ => ?_
      subst hr
      refine thnF h6 fun _ s7 ⟨x, H7, I7, r7, y7, st7, n7⟩ => ?_
      have P7 := I7.pinned (still I7 n7) (T.obj _ _ st7)
      refine thnF (G1.run _ s7 _ H7 x u _ P7 r7 (step x H7 y7)) fun _ s8 ⟨σ8, H8, I8, hw8, q8⟩ => thnF (G2.run _ s8 σ8 H8 _ I8 q8) fun b s9 ⟨H9, I9, q9⟩ => ?_
      have fin : ∀ {s' : Shared} {H' : Hp}, Inv (X.blk s3 H3 scope ce fp) ([] ++ pinsAt fp s7.heap) σ8 H' s' → Nx H' → ∃ m, m < n ∧ ∃ (i : Nat) (H' : Hp), Inv (X.blk s3 H3 scope ce fp) [] (wipe σ (own.map (·.2))) H' s' ∧ tn i s'.heap ∧ (∀ b ∈ fp, H' b = none) ∧ W i m H' := fun {s' H'} J nx => by
        obtain ⟨m', hm, w'⟩ := hNx H' nx
        have kept : ∀ b ∈ fp, ∀ o, s7.heap.get? b = some o → s'.heap.get? b = some o ∧ H' b = none := fun b hb o e => by
          have z := J.pin (b, o) (List.mem_append_right _ (List.mem_append_right _ (mem_pinsAt hb e)))
          exact ⟨z.1, z.2.1⟩
        refine ⟨m', hm, i + 1, H', (J.unpinned (pins := [])).weak (by rw [← hw8, wipe_length]) (fun j v e => (wipe_some (hw8 ▸ e)).1), T.keep _ _ _ st7 fun b hb o e => (kept b hb o e).1, fun b hb => ?_, w'⟩
        obtain ⟨o, e, _⟩ := T.obj _ _ st7 b hb
        exact (kept b hb o e).2
      cases b with
      | false =>
        rw [if_neg Bool.false_ne_true] at q9 ⊢
        exact fin I9 q9
      | true =>
        rw [if_pos rfl] at q9 ⊢
        exact thnF (G3.run _ s9 σ8 H9 _ I9 q9) fun z s10 ⟨yv, H10, I10, r10, acc, hD10, room, nx⟩ => app_ok (X := X.blk s3 H3 scope ce fp) I10 hD10 room r10 fun s11 I11 => fin I11 nx
  exact codeAny_compStart_list walk (T.self X.A 0 _ _ _ st4 walk)
theorem ps_setLcB {i : Nat} {y : PySem.Str} {py : Pos} {elt tg iter : Expr} {ifs : List Expr} {scope : Scope} {own : List (PySem.Str × Nat)} {pos spos : Pos} {wi : TI} {g : TG} {tt : TT} {te : TE} (hc : X.calm = true) (hN : X.N.Nodup) (hy : X.N[i]? = some y) (hyl : X.env.scope.names.lookup y = some .local)
    (hsw : swapsWith (.ListComp elt [⟨tg, iter, ifs, 0⟩] scope pos) (some (.Name y py)) spos.line X.env = pure true) (hi : PI X tg iter wi) (ok : BlkOk X.N X.env.scope scope own)
    (hg : ∀ (s : Shared) (H : Hp) (C : Addr) (cl : List (PySem.Str × Addr)) (fp : List Addr), PG (X.blk s H scope (compEnvC scope cl C X.env) fp) tg g) (ht : ∀ (s : Shared) (H : Hp) (C : Addr) (cl : List (PySem.Str × Addr)) (fp : List Addr), PTs (X.blk s H scope (compEnvC scope cl C X.env) fp) ifs tt)
    (he : ∀ (s : Shared) (H : Hp) (C : Addr) (cl : List (PySem.Str × Addr)) (fp : List Addr), PE (X.blk s H scope (compEnvC scope cl C X.env) fp) elt te) (hs : ∀ x, foldedSetIterable iter X.env x = pure x := by intro _; rfl) :
    PS X (.Assign [.Name y py] (.ListComp elt [⟨tg, iter, ifs, 0⟩] scope pos) spos) (tAsg (Fv.tLcB wi g tt te (own.map (·.2))) (gName i)) := by
  constructor
  intro pins s σ H D I h
  rw [exec_Assign_Name_used _ _ _ _ hsw]
  refine wpAny_bind (wpAny_standAt (wpAny_bind (wpAny_bind (thn (lcB_core (Qf := fun _ s' => SP X pins D .next s') hc hN I hi ok hg ht he hs (show Fv.tLcB wi g tt te (own.map (·.2)) σ H (fun x H1 => gName i x σ H1 D.nx) from h) ?_) fun _ s' hq => wpAny_pure (wpAny_pure hq)))))
  intro L C s' m H' J q hn f
  obtain ⟨f0, f1, f2, f3, f4, f5⟩ := f
  show wpAny _ _ (assign (.Name y py) X.env (.ref L)) _ _ _
  refine wpAny_assign_Name (store_ok2 (v := V.ref L) J hN hy (.inl hyl) rfl (fun s2 J2 ⟨a, sb, ha⟩ => ?_) (.inr hyl))
  have nC : C ≠ a := ha.elim (fun z => z ▸ f1) fun z e => f4 y a z e.symm
  exact ⟨m, hn.sameBut sb nC, fun h3 sb3 => ⟨_, H', J2.turned (t' := s2.toks) (fun b o hb e => (sb3.2 b hb).trans e) f0 f1 f3 f4 f5, q⟩⟩
end L2


set_option Elab.async false
set_option linter.all false
set_option maxRecDepth 100000
set_option maxHeartbeats 8000000
namespace Fv
open PySem PySem.Spec PyProof.Rows L2
/-! ### the law's heads, and what is made of them -/
theorem heads_merge (o1 o2 : Addr) : mergeK [] (headsV o1 o2) = headsV o1 o2 := merge_same (by
  show ([Sum.inr "a", Sum.inr "b"] : List Key).Nodup
  decide +kernel)
theorem heads_a (o1 o2 : Addr) : valV (headsV o1 o2) (Sum.inr "a") = some (.ref o1) := by
  unfold headsV valV
  rw [List.find?_cons, decide_eq_true rfl]
  rfl
theorem head5_put (a pp rr : Addr) (n : Int) (wv wn : Addr) : putK (head5 a pp rr n wv) (Sum.inr "ways") (.ref wn) = head5 a pp rr n wn := by
  obtain ⟨h1, h2, h3, h4, h5, h6, h7, h8, h9, h10⟩ := k5
  unfold head5
  simp [putK, h4, h7, h9, h10]
theorem HeadOk.kp {H H' : Hp} {b o a pp rr wv : Addr} {n : Int} {ks : List (Str × Str)} {zs rs : List Str} (h : HeadOk H b o a pp rr wv n ks zs rs) (k : Keep b H H') : HeadOk H' b o a pp rr wv n ks zs rs :=
  { h with oo := k _ _ h.ob h.oo, aa := k _ _ h.ab h.aa, hp := k _ _ h.pb h.hp, hr := k _ _ h.rb h.hr, ww := k _ _ h.wb h.ww }
theorem BagAt.out {H : Hp} {b c D : Addr} (h : BagAt H b c) (n : H D = none) : D ≠ b ∧ D ≠ c := (BagAt.new (o := .lst []) h n).2
theorem Bag.lst {H : Hp} {b : Addr} (h : Bag H b) : ∃ bs, H b = some (.lst bs) := by
  obtain ⟨c, cs, p, s, i, B⟩ := h
  exact ⟨_, B.at_⟩
theorem okM_fz : ∀ {d : PyData}, okM (fz d) → okM d
  | .list _, h => h
  | .none, h => h
  | .bool _, h => h
  | .int _, h => h
  | .str _, h => h
  | .tuple _, h => h
  | .dict _, h => h
theorem okMs_fz : ∀ {ds : List PyData}, okMs (ds.map fz) → okMs ds
  | [], _ => True.intro
  | d :: ds, h => ⟨okM_fz h.1, okMs_fz h.2⟩
theorem okM_frozen {d : PyData} (h : okM (frozenD d)) : okM d := by
  cases d with
  | tuple ds =>
    obtain ⟨h1, h2⟩ := (show (ds.map fz).length ≤ 24 ∧ okMs (ds.map fz) from h)
    rw [List.length_map] at h1
    exact ⟨h1, okMs_fz h2⟩
  | _ => exact h
theorem way_st {n : Int} {ks : List (Str × Str)} {e : PyData} (h : WayIn n ks e) : StFit ks (stOf e) := by
  obtain ⟨i, j, d, rfl, _, _, _, _, _, _, _, _, sf⟩ := h
  exact sf
theorem miss_none {n : Int} {ks : List (Str × Str)} {zs rs : List Str} {ws : List PyData} (hz : ∀ z ∈ zs, z ∈ ks.map (·.1)) (hr : ∀ z ∈ rs, z ∈ ks.map (·.1)) (hw : ∀ e ∈ ws, WayIn n ks e) : missO ks zs rs ws = none := by
  unfold missO
  rw [List.find?_eq_none]
  intro z hm
  have key : kinOf ks z = true := by
    rcases List.mem_append.mp hm with h | h
    · rcases List.mem_append.mp h with h | h
      · exact kin_in (hz z h)
      · exact kin_in (hr z h)
    · obtain ⟨e, he, hn⟩ := List.mem_flatMap.mp h
      have sf := way_st (hw e he)
      rcases mem_names.mp hn with h | ⟨h, ne⟩
      · exact sf.sets z h
      · obtain ⟨f, hf, rfl⟩ := List.mem_map.mp h
        exact (sf.srcs f hf).resolve_left ne
  rw [key]
  decide
theorem place_none {n : Int} {ks : List (Str × Str)} {ws : List PyData} (hw : ∀ e ∈ ws, WayIn n ks e) : placeO n ws = none := by
  unfold placeO
  rw [List.find?_eq_none]
  intro z hm
  obtain ⟨e, he, hz⟩ := List.mem_flatMap.mp hm
  obtain ⟨i, j, d, rfl, i0, i1, j0, j1, _⟩ := hw e he
  have hz : z ∈ [i, j] := hz
  simp only [List.mem_cons, List.not_mem_nil, or_false] at hz
  simp only [decide_eq_true_eq]
  rcases hz with rfl | rfl <;> omega
theorem bad_none {n : Int} {ks : List (Str × Str)} {ws : List PyData} (hw : ∀ e ∈ ws, WayIn n ks e) : badO ks ws = none := by
  unfold badO
  rw [List.find?_eq_none]
  intro z hm
  obtain ⟨e, he, hz⟩ := List.mem_flatMap.mp hm
  unfold flowsW at hz
  obtain ⟨f, hf, rfl⟩ := List.mem_map.mp hz
  rw [(way_st (hw e he)).kinds f hf]
  decide
/-- what stands while the handed lists are spoilt: G5 before the lists, G7 before the making, G behind it -/
structure Fr (G5 G7 G H' : Hp) : Prop where
  fr : ∀ c o, G c = some o → (G5 c ≠ none ∨ G7 c = none ∨ ∃ us, o = .tup us) → H' c = some o
  ex : ∀ c, G c ≠ none → H' c ≠ none
theorem Fr.refl {G5 G7 G : Hp} : Fr G5 G7 G G := ⟨fun _ _ e _ => e, fun _ h => h⟩
theorem Fr.same {G5 G7 G H' H2 : Hp} (h : Fr G5 G7 G H') (s : Same H' H2) : Fr G5 G7 G H2 := ⟨fun c o e k => s c o (h.fr c o e k), fun c e => by
  cases e2 : H' c with
  | none => exact absurd e2 (h.ex c e)
  | some o => rw [s c o e2]; exact nofun⟩
theorem Fr.ups {G5 G7 G H' : Hp} (h : Fr G5 G7 G H') {a : Addr} {o : HO} (n : ∀ v, G a = some v → ¬ (G5 a ≠ none ∨ G7 a = none ∨ ∃ us, v = .tup us)) : Fr G5 G7 G (upd H' a o) := by
  refine ⟨fun c v e k => ?_, fun c e => ?_⟩
  · have ca : c ≠ a := fun z => by
      subst z
      exact n v e k
    rw [upd_ne ca]
    exact h.fr c v e k
  · by_cases z : c = a
    · rw [z, upd_same]
      exact nofun
    · rw [upd_ne z]
      exact h.ex c e
theorem Fr.put {G5 G7 G H' : Hp} (h : Fr G5 G7 G H') {a : Addr} {o v : HO} (n5 : G5 a = none) (n7 : G7 a ≠ none) (e : G a = some v) (nt : ∀ us, v ≠ .tup us) : Fr G5 G7 G (upd H' a o) := h.ups fun u e' k => by
  rw [e] at e'
  cases e'
  rcases k with k | k | ⟨us, k⟩
  · exact k n5
  · exact n7 k
  · exact nt us k
theorem Fr.out {G5 G7 G H' : Hp} (h : Fr G5 G7 G H') {a : Addr} {o : HO} (n : G a = none) : Fr G5 G7 G (upd H' a o) := h.ups fun u e' _ => by
  rw [n] at e'
  cases e'
theorem Fr.gone {G5 G7 G H' : Hp} (h : Fr G5 G7 G H') {a : Addr} (n : H' a = none) : G a = none := by
  cases e : G a with
  | none => rfl
  | some o => exact absurd n (h.ex a (by rw [e]; exact nofun))
mutual
/-- where no list is: it stands where tuples do -/
theorem Dq.tups {H H' : Hp} {x : Addr} (k : ∀ t us, H t = some (.tup us) → H' t = some (.tup us)) : ∀ {v : V} {d : PyData}, Dq H x v d → noL d → Dq H' x v d
  | _, _, .non, _ => .non
  | _, _, .bl x, _ => .bl x
  | _, _, .int i, _ => .int i
  | _, _, .str x, _ => .str x
  | _, _, .lst _ _ _ _, n => n.elim
  | _, _, .dct _ _ _ _, n => n.elim
  | _, _, .tup e n h, l => .tup (k _ _ e) n (DqAll.tups k h l)
theorem DqAll.tups {H H' : Hp} {x : Addr} (k : ∀ t us, H t = some (.tup us) → H' t = some (.tup us)) : ∀ {v : List V} {d : List PyData}, DqAll H x v d → noLs d → DqAll H' x v d
  | _, _, .nil, _ => .nil
  | _, _, .cons h t, n => .cons (Dq.tups k h n.1) (DqAll.tups k t n.2)
end
theorem ways_nol {n : Int} {ks : List (Str × Str)} {ws : List PyData} (h : ∀ e ∈ ws, WayIn n ks e) : noLs ws := noLs_all fun e he => by
  obtain ⟨i, j, d, rfl, _, _, _, _, _, hst, hfz, _⟩ := h e he
  exact ⟨True.intro, True.intro, st_noL hst hfz, True.intro⟩
theorem Fr.made {G5 G7 G H' : Hp} (h : Fr G5 G7 G H') {C x dx kd pp rr wv : Addr} {xs : List V} {ks : List (Str × Str)} {zs rs : List Str} {n : Int} {ws : List PyData} (P : ProcW C G x dx kd pp rr wv xs ks zs rs n ws) (nx : G7 x = none) (nk : G7 kd = none) (nw : G7 wv = none) (nl : noLs ws) : ProcW C H' x dx kd pp rr wv xs ks zs rs n ws :=
  ⟨h.fr _ _ P.hx (.inr (.inl nx)), h.fr _ _ P.hk (.inr (.inl nk)), h.fr _ _ P.hp (.inr (.inr ⟨_, rfl⟩)), h.fr _ _ P.hr (.inr (.inr ⟨_, rfl⟩)), h.fr _ _ P.hw (.inr (.inl nw)), P.hq.tups (fun t us e => h.fr _ _ e (.inr (.inr ⟨_, rfl⟩))) nl⟩
theorem Fr.head {G5 G7 G H' : Hp} (h : Fr G5 G7 G H') {x o a pp rr W : Addr} {n : Int} {ks : List (Str × Str)} {zs rs : List Str} {ys : List V} {ds : List PyData} (P : HeadW G x o a pp rr W n ks zs rs ys ds) (no : G5 o ≠ none) (na : G5 a ≠ none) (nW : G5 W ≠ none) (nl : noLs ds) : HeadW H' x o a pp rr W n ks zs rs ys ds :=
  ⟨h.fr _ _ P.oo (.inl no), h.fr _ _ P.aa (.inl na), P.ok, P.kl, h.fr _ _ P.hp (.inr (.inr ⟨_, rfl⟩)), h.fr _ _ P.hr (.inr (.inr ⟨_, rfl⟩)), h.fr _ _ P.hw (.inl nW), P.hq.tups (fun t us e => h.fr _ _ e (.inr (.inr ⟨_, rfl⟩))) nl⟩
end Fv


set_option Elab.async false
set_option linter.all false
set_option maxRecDepth 100000
set_option maxHeartbeats 4000000
namespace Fv
open PySem PySem.Spec PyProof.Rows L2
/-! ### the loose ways, and what is handed -/
/-- a loose way: its data, and what becomes of it -/
theorem loose_way {n : Int} {ks : List (Str × Str)} {i j : Int} {d d' : PyData} (hw : WayIn n ks (.tuple [.int i, .int j, d])) (hs : stD d' = true) (hf : frozenD d' = d) :
    okM (.list [.int i, .int j, d']) ∧ wayD (.list [.int i, .int j, d']) = true ∧ wayF (.list [.int i, .int j, d']) = .tuple [.int i, .int j, d] := by
  obtain ⟨i2, j2, d2, e, i0, _, j0, _, ho, hst, hfz, sm, _⟩ := hw
  injection e with e
  injection e with e1 e
  injection e with e2 e
  injection e with e3 _
  injection e1 with e1
  injection e2 with e2
  subst e1 e2 e3
  have m : okM d' := okM_frozen (by rw [hf]; exact (st_gd hst hfz sm).m)
  refine ⟨⟨by show 3 ≤ 24; decide, True.intro, True.intro, m, True.intro⟩, ?_, ?_⟩
  · show (true && (stD d' && (natD (.int i) && natD (.int j)))) = true
    rw [hs]
    show (true && (true && (decide (0 ≤ i) && decide (0 ≤ j)))) = true
    rw [decide_eq_true i0, decide_eq_true j0]
    rfl
  · rw [wayF_of (i := i) (j := j) (s := d') rfl, hf]
/-- an element of a loose statement: no list, or a list of no place that matters -/
inductive El (Ga G7 H : Hp) (D : Addr) (ts : List Addr) : V → Prop
  | flat {v : V} {d : PyData} : (∀ H2 b, Dq H2 b v d) → isListD d = false → El Ga G7 H D ts v
  | tup {c : Addr} {us : List V} : H c = some (.tup us) → El Ga G7 H D ts (.ref c)
  | dct {c : Addr} {kvs : List (Key × V)} : H c = some (.dK kvs) → El Ga G7 H D ts (.ref c)
  | lst {c : Addr} {l l7 : List V} : H c = some (.lst l) → G7 c = some (.lst l7) → Ga c = none → c ≠ D → c ∉ ts → c ≠ sysModules → El Ga G7 H D ts (.ref c)
theorem El.step {Ga G7 G7' H H2 : Hp} {D : Addr} {ts ts' : List Addr} {v : V} (h : El Ga G7 H D ts v) (k : ∀ c o, H c = some o → (∀ l, o ≠ .lst l) → H2 c = some o)
    (g : ∀ c l l7, H c = some (.lst l) → G7 c = some (.lst l7) → Ga c = none → c ≠ D → c ∉ ts → (∃ l, H2 c = some (.lst l)) ∧ (∃ l, G7' c = some (.lst l)) ∧ c ∉ ts') : El Ga G7' H2 D ts' v := by
  cases h with
  | flat a b => exact .flat a b
  | tup e => exact .tup (k _ _ e nofun)
  | dct e => exact .dct (k _ _ e nofun)
  | lst e1 e2 e3 e4 e5 e6 =>
    obtain ⟨⟨_, h1⟩, ⟨_, h2⟩, h3⟩ := g _ _ _ e1 e2 e3 e4 e5
    exact .lst h1 h2 e3 e4 h3 e6
theorem El.of {Ga H H0 : Hp} {b D : Addr} {ts : List Addr} {v : V} {d : PyData} (h : Dq H0 b v d) (k : ∀ c o, c ≠ b → H0 c = some o → H c = some o ∧ c ≠ D) (n : ∀ c l, v = .ref c → H c = some (.lst l) → Ga c = none ∧ c ∉ ts) : El Ga H H D ts v := by
  cases h with
  | non => exact .flat (fun _ _ => .non) rfl
  | bl x => exact .flat (fun _ _ => .bl x) rfl
  | int i => exact .flat (fun _ _ => .int i) rfl
  | str x => exact .flat (fun _ _ => .str x) rfl
  | tup e nb _ => exact .tup (k _ _ nb e).1
  | dct e nb _ _ => exact .dct (k _ _ nb e).1
  | lst e nb m _ =>
    have e' := k _ _ nb e
    obtain ⟨n1, n2⟩ := n _ _ rfl e'.1
    exact .lst e'.1 e'.1 n1 e'.2 n2 m
/-- a way that may be spoilt -/
def Lo (Ga G7 H : Hp) (D : Addr) (ts : List Addr) (t : Addr) : Prop := ∃ (i j : Int) (p : Addr) (us : List V), H t = some (.lst [.int i, .int j, .ref p]) ∧ H p = some (.tup us) ∧ us.length ≤ 60 ∧ ∀ v ∈ us, El Ga G7 H D ts v
theorem Lo.step {Ga G7 G7' H H2 : Hp} {D : Addr} {ts ts' : List Addr} {t : Addr} (h : Lo Ga G7 H D ts t) (k : ∀ c o, H c = some o → (∀ l, o ≠ .lst l) → H2 c = some o)
    (g : ∀ c l l7, H c = some (.lst l) → G7 c = some (.lst l7) → Ga c = none → c ≠ D → c ∉ ts → (∃ l, H2 c = some (.lst l)) ∧ (∃ l, G7' c = some (.lst l)) ∧ c ∉ ts') (e : ∀ l, H t = some (.lst l) → H2 t = some (.lst l)) : Lo Ga G7' H2 D ts' t := by
  obtain ⟨i, j, p, us, e1, e2, l, h⟩ := h
  exact ⟨i, j, p, us, e _ e1, k _ _ e2 nofun, l, fun v hv => (h v hv).step k g⟩
theorem El.ty {K : PySem.W.Frag} {Ga G7 H : Hp} {D : Addr} {ts : List Addr} {v : V} (h : El Ga G7 H D ts v) : ∃ t r, TyX K H v t ∧ PySem.W.kitOne K t (.type "list") = some r ∧ (r = true → ∃ c l l7, v = .ref c ∧ H c = some (.lst l) ∧ G7 c = some (.lst l7) ∧ Ga c = none ∧ c ≠ D ∧ c ∉ ts ∧ c ≠ sysModules) := by
  cases h with
  | flat a b => exact ⟨_, _, (a H 0).ty, kit_list _, fun z => by rw [b] at z; cases z⟩
  | tup e => exact ⟨_, _, .base (.tup e), kit_list (.tuple []), nofun⟩
  | dct e => exact ⟨_, _, .base (.dK e), kit_list (.dict []), nofun⟩
  | lst e1 e2 e3 e4 e5 e6 => exact ⟨_, _, .base (.lst e1), kit_list (.list []), fun _ => ⟨_, _, _, rfl, e1, e2, e3, e4, e5, e6⟩⟩
theorem kind_ok {k : Str} (h : kindS k) : okD (.str k) ∧ kindD (.str k) = true := by
  rcases h with rfl | rfl | rfl <;> exact ⟨⟨by decide +kernel, by decide +kernel⟩, by decide +kernel⟩
theorem kv_kin {C : Addr} {H : Hp} {b : Addr} : ∀ {ks : List (Str × Str)}, (∀ p ∈ ks, NmOk p.1) → (∀ p ∈ ks, kindS p.2) → KvAll C H b (kinV ks) (ks.map fun p => (.str p.1, .str p.2))
  | [], _, _ => .nil
  | p :: ks, h, g => .cons ⟨by have := (h p List.mem_cons_self).2.1; omega, fun c hc => asc_128 ((h p List.mem_cons_self).2.2 c hc)⟩ (.str _) (kind_ok (g p List.mem_cons_self)).1 (kv_kin (fun q hq => h q (List.mem_cons_of_mem _ hq)) fun q hq => g q (List.mem_cons_of_mem _ hq))
theorem kinds_d {ks : List (Str × Str)} (h : KindsOk ks) : kindsD (.dict (ks.map fun p => (.str p.1, .str p.2))) = true := by
  show List.all _ _ = true
  rw [List.all_map, List.all_eq_true]
  intro p hp
  show (nameD (.str p.1) && kindD (.str p.2)) = true
  rw [Bool.and_eq_true]
  exact ⟨(h.nm p hp).name, (kind_ok (h.kd p hp)).2⟩
theorem names_l {qs : List Str} (h : ∀ x ∈ qs, NmOk x) (nd : qs.Nodup) : namesD (.list (qs.map .str)) = true := by
  have := names_ok h nd
  exact this
theorem arg_names {C : Addr} {H : Hp} {a x : Addr} {zs : List Str} (e : H a = some (.lst (zs.map V.str))) (n : a ≠ x) (h : ∀ z ∈ zs, NmOk z) (nd : zs.Nodup) (l : zs.length ≤ 60) : ArgN C H x namesD (.ref a) true := by
  have dx : ∀ (zs : List Str), DxAll C H x (zs.map V.str) (zs.map PyData.str) := fun zs => by
    induction zs with
    | nil => exact .nil
    | cons z zs ih => exact .cons (.str z) ih
  have ok : ∀ (zs : List Str), (∀ z ∈ zs, NmOk z) → okAll (zs.map PyData.str) := fun zs => by
    induction zs with
    | nil => exact fun _ => True.intro
    | cons z zs ih => exact fun h => ⟨⟨by have := (h z List.mem_cons_self).2.1; omega, fun c hc => asc_128 ((h z List.mem_cons_self).2.2 c hc)⟩, ih fun w hw => h w (List.mem_cons_of_mem _ hw)⟩
  exact .inl ⟨.list (zs.map .str), .lst e n (dx zs), ⟨by rw [List.length_map]; exact l, ok zs h⟩, (names_l h nd).symm⟩
/-- the loose ways together -/
theorem loose_all {es : List PyData} (h : ∀ e ∈ es, okM e ∧ wayD e = true) (l : es.length ≤ 24) : okM (.list es) ∧ waysD (.list es) = true := by
  refine ⟨⟨l, okMs_of fun d hd => (h d hd).1⟩, ?_⟩
  show (true && es.all wayD) = true
  rw [Bool.true_and, List.all_eq_true]
  exact fun e he => (h e he).2
/-- a loose statement stands where tuples do, and its own lists -/
theorem rows_to {H H2 : Hp} {b : Addr} (k : ∀ t us, H t = some (.tup us) → H2 t = some (.tup us)) : ∀ {us : List V} {ds : List PyData}, DqAll H b us ds → (∀ e ∈ ds, noL (fz e)) → (∀ c l, V.ref c ∈ us → H c = some (.lst l) → H2 c = some (.lst l)) → DqAll H2 b us ds
  | _, _, .nil, _, _ => .nil
  | v :: us, d :: ds, .cons h t, n, g => by
    refine .cons ?_ (rows_to k t (fun e he => n e (List.mem_cons_of_mem _ he)) fun c l hc => g c l (List.mem_cons_of_mem _ hc))
    have nd := n d List.mem_cons_self
    cases h with
    | non => exact .non
    | bl x => exact .bl x
    | int i => exact .int i
    | str x => exact .str x
    | tup e m h => exact .tup (k _ _ e) m (DqAll.tups k h nd)
    | lst e m1 m2 h => exact .lst (g _ _ List.mem_cons_self e) m1 m2 (DqAll.tups k h nd)
    | dct e m h1 h2 => exact nd.elim
theorem loose_to {H H2 : Hp} {b p : Addr} {us : List V} {d' : PyData} (h : Dq H b (.ref p) d') (ep : H p = some (.tup us)) (hn : noL (frozenD d')) (k : ∀ t us, H t = some (.tup us) → H2 t = some (.tup us)) (g : ∀ c l, V.ref c ∈ us → H c = some (.lst l) → H2 c = some (.lst l)) :
    Dq H2 b (.ref p) d' ∧ ∃ ds, d' = .tuple ds ∧ DqAll H2 b us ds := by
  cases h with
  | @tup _ xs ds e n ha =>
    obtain rfl : us = xs := by rw [ep] at e; cases e; rfl
    have hm : ∀ e ∈ ds, noL (fz e) := fun e he => by
      have hn : noLs (ds.map fz) := hn
      have all : ∀ {l : List PyData}, noLs l → ∀ x ∈ l, noL x := fun {l} => by
        induction l with
        | nil => exact fun _ x hx => by cases hx
        | cons y l ih => exact fun h x hx => (List.mem_cons.mp hx).elim (fun z => z ▸ h.1) (ih h.2 x)
      exact all hn _ (List.mem_map.mpr ⟨e, he, rfl⟩)
    have hA := rows_to k ha hm g
    exact ⟨.tup (k _ _ e) n hA, ds, rfl, hA⟩
  | lst e _ _ _ => rw [ep] at e; cases e
  | dct e _ _ _ => rw [ep] at e; cases e
/-! ### while the handed lists are spoilt -/
structure SpB (Ga Ge G7 Gm : Hp) (D kn pl : Addr) (ts : List Addr) : Prop where
  t4 : Same Ga Ge
  m7 : ∀ c o, G7 c = some o → Gm c = some o
  kn : Ge kn ≠ none
  pl : Ge pl ≠ none
  tt : ∀ t ∈ ts, Ge t = none ∧ t ≠ D ∧ ∃ l, G7 t = some (.lst l)
structure Spo (Ga Ge G7 Gm : Hp) (D kn pl : Addr) (ts : List Addr) (ks : List (Str × Str)) (zs : List Str) (H : Hp) : Prop where
  fr : Fr Ga G7 Gm H
  eD : H D = some (.lst (ts.map V.ref))
  ek : H kn = some (.dK (kinV ks))
  ep : H pl = some (.lst (zs.map V.str))
  lo : ∀ t ∈ ts, Lo Ge G7 H D ts t
section
variable {Ga Ge G7 Gm H : Hp} {D kn pl : Addr} {ts : List Addr} {ks : List (Str × Str)} {zs : List Str}
theorem El.new {v : V} {a : Addr} {o : HO} (h : El Ge G7 H D ts v) (n : H a = none) : El Ge G7 (upd H a o) D ts v := h.step (fun c w e _ => by rw [upd_ne (ne_of_none e n)]; exact e) fun c l l7 e e7 _ _ nt => ⟨⟨l, by rw [upd_ne (ne_of_none e n)]; exact e⟩, ⟨l7, e7⟩, nt⟩
theorem Lo.new {t a : Addr} {o : HO} (h : Lo Ge G7 H D ts t) (n : H a = none) : Lo Ge G7 (upd H a o) D ts t := h.step (fun c w e _ => by rw [upd_ne (ne_of_none e n)]; exact e) (fun c l l7 e e7 _ _ nt => ⟨⟨l, by rw [upd_ne (ne_of_none e n)]; exact e⟩, ⟨l7, e7⟩, nt⟩) fun l e => by rw [upd_ne (ne_of_none e n)]; exact e
theorem Spo.new {a : Addr} {o : HO} (h : Spo Ga Ge G7 Gm D kn pl ts ks zs H) (n : H a = none) : Spo Ga Ge G7 Gm D kn pl ts ks zs (upd H a o) :=
  ⟨h.fr.out (h.fr.gone n), by rw [upd_ne (ne_of_none h.eD n)]; exact h.eD, by rw [upd_ne (ne_of_none h.ek n)]; exact h.ek, by rw [upd_ne (ne_of_none h.ep n)]; exact h.ep, fun t ht => (h.lo t ht).new n⟩
theorem Spo.clear {c : Addr} {l l7 l2 : List V} (h : Spo Ga Ge G7 Gm D kn pl ts ks zs H) (B : SpB Ga Ge G7 Gm D kn pl ts) (e : H c = some (.lst l)) (e7 : G7 c = some (.lst l7)) (n : Ge c = none) (nD : c ≠ D) (nt : c ∉ ts) : Spo Ga Ge G7 Gm D kn pl ts ks zs (upd H c (.lst l2)) := by
  have gone : Ga c = none := by
    cases z : Ga c with
    | none => rfl
    | some o => rw [B.t4 _ _ z] at n; cases n
  have ck : kn ≠ c := fun z => B.kn (z ▸ n)
  have cp : pl ≠ c := fun z => B.pl (z ▸ n)
  refine ⟨h.fr.put gone (by rw [e7]; exact nofun) (B.m7 _ _ e7) nofun, by rw [upd_ne nD.symm]; exact h.eD, by rw [upd_ne ck]; exact h.ek, by rw [upd_ne cp]; exact h.ep, fun t ht => (h.lo t ht).step (fun c2 o e2 no => ?_) (fun c2 m m7 e2 g7 _ _ nt2 => ⟨?_, ⟨m7, g7⟩, nt2⟩) fun m e2 => ?_⟩
  · have : c2 ≠ c := fun z => by
      rw [z, e] at e2
      cases e2
      exact no _ rfl
    rw [upd_ne this]
    exact e2
  · by_cases z : c2 = c
    · rw [z]
      exact ⟨_, upd_same⟩
    · exact ⟨m, by rw [upd_ne z]; exact e2⟩
  · have : t ≠ c := fun z => nt (z ▸ ht)
    rw [upd_ne this]
    exact e2
theorem Spo.way {t u : Addr} {i j : Int} {p : V} (h : Spo Ga Ge G7 Gm D kn pl ts ks zs H) (B : SpB Ga Ge G7 Gm D kn pl ts) (ht : t ∈ ts) (e : H t = some (.lst [.int i, .int j, p])) (n : H u = none) : Spo Ga Ge G7 Gm D kn pl ts ks zs (upd (upd H u (.tup [.str "skip"])) t (.lst [.int i, .int j, .ref u])) := by
  have S := h.new (o := .tup [.str "skip"]) n
  have eu : (upd H u (.tup [.str "skip"])) u = some (.tup [.str "skip"]) := upd_same
  have et : (upd H u (.tup [.str "skip"])) t = some (.lst [.int i, .int j, p]) := by rw [upd_ne (ne_of_none e n)]; exact e
  generalize upd H u (.tup [.str "skip"]) = H1 at S eu et ⊢
  obtain ⟨g1, tD, l7, e7⟩ := B.tt t ht
  have gone : Ga t = none := by
    cases z : Ga t with
    | none => rfl
    | some o => rw [B.t4 _ _ z] at g1; cases g1
  have ck : kn ≠ t := fun z => B.kn (z ▸ g1)
  have cp : pl ≠ t := fun z => B.pl (z ▸ g1)
  have ut : u ≠ t := fun z => by
    rw [z, et] at eu
    cases eu
  refine ⟨S.fr.put gone (by rw [e7]; exact nofun) (B.m7 _ _ e7) nofun, by rw [upd_ne tD.symm]; exact S.eD, by rw [upd_ne ck]; exact S.ek, by rw [upd_ne cp]; exact S.ep, fun t2 ht2 => ?_⟩
  by_cases z : t2 = t
  · subst z
    exact ⟨i, j, u, [.str "skip"], upd_same, by rw [upd_ne ut]; exact eu, by show 1 ≤ 60; decide, fun v hv => by
      obtain rfl := List.mem_singleton.mp hv
      exact .flat (d := .str "skip") (fun _ _ => .str _) rfl⟩
  · refine (S.lo t2 ht2).step (fun c2 o e2 no => ?_) (fun c2 m m7 e2 g7 _ _ nt2 => ⟨⟨m, ?_⟩, ⟨m7, g7⟩, nt2⟩) fun m e2 => ?_
    · have : c2 ≠ t := fun z => by
        rw [z, et] at e2
        cases e2
        exact no _ rfl
      rw [upd_ne this]
      exact e2
    · have : c2 ≠ t := fun z => nt2 (z ▸ ht)
      rw [upd_ne this]
      exact e2
    · rw [upd_ne z]
      exact e2
theorem Spo.res {c : Addr} {l l7 l2 : List V} (h : Spo Ga Ge G7 Gm D kn pl ts ks zs H) (B : SpB Ga Ge G7 Gm D kn pl ts) (e : H c = some (.lst l)) (e7 : G7 c = some (.lst l7)) (gone : Ga c = none) (ck : kn ≠ c) (cp : pl ≠ c) (nD : c ≠ D) (nt : c ∉ ts) : Spo Ga Ge G7 Gm D kn pl ts ks zs (upd H c (.lst l2)) := by
  refine ⟨h.fr.put gone (by rw [e7]; exact nofun) (B.m7 _ _ e7) nofun, by rw [upd_ne nD.symm]; exact h.eD, by rw [upd_ne ck]; exact h.ek, by rw [upd_ne cp]; exact h.ep, fun t ht => (h.lo t ht).step (fun c2 o e2 no => ?_) (fun c2 m m7 e2 g7 _ _ nt2 => ⟨?_, ⟨m7, g7⟩, nt2⟩) fun m e2 => ?_⟩
  · have : c2 ≠ c := fun z => by
      rw [z, e] at e2
      cases e2
      exact no _ rfl
    rw [upd_ne this]
    exact e2
  · by_cases z : c2 = c
    · rw [z]
      exact ⟨_, upd_same⟩
    · exact ⟨m, by rw [upd_ne z]; exact e2⟩
  · have : t ≠ c := fun z => nt (z ▸ ht)
    rw [upd_ne this]
    exact e2
theorem Fr.bag {H' : Hp} {b c : Addr} (h : Fr Ga G7 Gm H') (B : BagAt Gm b c) (gb : Ga b ≠ none) (gc : Ga c ≠ none) : BagAt H' b c := by
  obtain ⟨cs, p, s, i, B⟩ := id B
  exact ⟨cs, p, s, i, h.fr _ _ B.at_ (.inl gb), h.fr _ _ B.cells (.inl gc), B.ne, B.p0, B.s0, B.cs0⟩
theorem BagAt.some {H : Hp} {b c : Addr} (B : BagAt H b c) : H b ≠ none ∧ H c ≠ none := by
  obtain ⟨cs, p, s, i, B⟩ := B
  exact ⟨by rw [B.at_]; exact nofun, by rw [B.cells]; exact nofun⟩
end
end Fv


set_option Elab.async false
set_option linter.all false
set_option maxRecDepth 100000
set_option maxHeartbeats 8000000
namespace Fv
open PySem PySem.Spec PyProof.Rows L2
/-! ### the law -/
abbrev sLaw : Stmt := top 62
def spLaw (K : PySem.W.Frag) : Sp := fun vs H Q _ => ∃ (a : Addr) (ns : List Int), vs = [.ref a] ∧ SqL K H a (ns.map V.int) ∧ ns.length ≤ 63 ∧ ∀ H', Q (.bl true) H'
section
variable {P : Program} {w : World} {K : PySem.W.Frag} {mg : Str → Option Value} {base : Heap} {C CW CN CP CK CY : Addr}
abbrev nLw : List Str := ["_law_script", "_law_bag_here", "_law_turn", "_law_heads", "_law_head_here", "_law_kinds_here", "_law_ways_here", "_law_params", "_law_results", "_law_way", "_law_made", "_law_part_here", "_law_again", "_law_told", "_law_one"]
theorem scLw : FnScope nLw ["_law_script"] (defScope sLaw) := ⟨rfl, rfl, rfl, by decide +kernel, rfl, by decide +kernel, by decide +kernel⟩
theorem lko {kd pp rr wv : Addr} {n : Int} : (flds5 kd pp rr n wv).lookup ("out" : Str) = none := by rfl
theorem ok_law {f fB fH fY fL fR iF fn fu fl fw fo : Addr} {fd fdB fdH fdY fdL fdR fdI fdn fdu fdl fdw fdo : FuncData} (F : Fun K "law" "law" sLaw f fd) (T : ProcC K C)
    (GB : FnOk P w K mg base CX0 1 fB fdB ["_law_script"] (spBag K)) (bB : Binds K fdB ["_law_script"] []) (mB : mg "_law_bag" = some (.ref fB)) (kB : PySem.W.keepIn K (.ref fB) = true)
    (GH : FnOk P w K mg base CX0 4 fH fdH ["_law_bag_here"] spHead) (bH : Binds K fdH ["_law_bag_here"] []) (mH : mg "_law_head" = some (.ref fH)) (kH : PySem.W.keepIn K (.ref fH) = true)
    (GY : FnOk P w K mg base CX0 5 fY fdY ["_law_bag_here", "_law_heads", "_law_name", "_law_most"] spWaysL) (bY : Binds K fdY ["_law_bag_here", "_law_heads", "_law_name", "_law_most"] []) (mY : mg "_law_ways" = some (.ref fY)) (kY : PySem.W.keepIn K (.ref fY) = true)
    (GL : FnOk P w K mg base CX0 2 fL fdL ["_law_bag_here", "_law_statement_here"] spLoose) (bL : Binds K fdL ["_law_bag_here", "_law_statement_here"] []) (mL : mg "_law_loose" = some (.ref fL)) (kL : PySem.W.keepIn K (.ref fL) = true)
    (GR : FnG P w K mg base 5 fR fdR ["_law_made", "_law_head_here"] (spRight C)) (bR : BindG fdR ["_law_made", "_law_head_here"]) (mR : mg "_law_right" = some (.ref fR)) (kR : PySem.W.keepIn K (.ref fR) = true)
    (MK : Mk K C iF) (GF : FnOk P w K mg base (L2.CX P w) 8 iF fdI ["self", "names", "params", "results", "size", "ways"] (spProc C CW CN CP CK)) (bF : Binds K fdI ["self", "names", "params", "results", "size", "ways"] []) (gC : mg "Procedure" = some (.ref C))
    (Mn : Meth K C "names" fn) (Gn : FnOk P w K mg base CX0 1 fn fdn ["self"] (spPn C)) (bn : Binds K fdn ["self"] [])
    (Mu : Meth K C "uppers" fu) (Gu : FnOk P w K mg base CX0 1 fu fdu ["self"] (spBut C "low")) (bu : Binds K fdu ["self"] [])
    (Ml : Meth K C "lowers" fl) (Gl_ : FnOk P w K mg base CX0 1 fl fdl ["self"] (spBut C "high")) (bl_ : Binds K fdl ["self"] [])
    (Mw : Meth K C "ways" fw) (Gw : FnOk P w K mg base CX0 1 fw fdw ["self"] (spPw C)) (bw : Binds K fdw ["self"] [])
    (Mo : Meth K C "out" fo) (Go : FnOk P w K mg base CX0 3 fo fdo ["self", "place"] (fun vs H Q _ => spOutA C CY vs H Q E0)) (bo : Binds K fdo ["self", "place"] [])
    (mr : mg "range" = none) (mLi : mg "list" = none) (md : mg "dict" = none) (mq : mg "isinstance" = none) : FnG P w K mg base 10 f fd ["_law_script"] (spLaw K) := by
  refine okG F scLw (fun vs H Q E h => ?_) (fun cdv A outer s H vs Q E hg hr h => ?_)
  · obtain ⟨a, ns, rfl, _⟩ := h
    rfl
  · obtain ⟨a, ns, rfl, hS, hl, q⟩ := h
    have hr1 : Room 1 _ := hr.mono (by decide)
    have hr2 : Room 2 _ := hr.mono (by decide)
    have hr3 : Room 3 _ := hr.mono (by decide)
    have hr4 : Room 4 _ := hr.mono (by decide)
    have hr5 : Room 5 _ := hr.mono (by decide)
    have hu := hu_of hr
    refine ⟨_, pss_cons (ps_set (i := 1) scLw.nd rfl (.inr rfl) (pe_call GB hr1 (by rfl) mB kB bB .nil pass0 (pa_cons (pv 0) pa_nil)))
      (pss_cons (ps_for PassesOwn.never rfl (pi_range1 (by rfl) mr (pa_cons pe_int pa_nil)) (pg_name (i := 2) scLw.nd rfl (.inl rfl))
        (pss_cons (ps_set (i := 3) scLw.nd rfl (.inl rfl) (pe_disp (pps_cons pe_str (pe_call GH hr4 (by rfl) mH kH bH .nil pass0 (pa_cons (pv 1) pa_nil)) (pps_cons pe_str (pe_call GH hr4 (by rfl) mH kH bH .nil pass0 (pa_cons (pv 1) pa_nil)) pps_nil)) (by rfl) (by rfl) (fun z => by cases z) (by decide)))
        (pss_cons (ps_set (i := 4) scLw.nd rfl (.inl rfl) (pe_dget hu (pv 3) pe_str (fun _ _ => rfl)))
        (pss_cons (ps_asg (pe_call GY hr5 (by rfl) mY kY bY .nil pass0 (pa_cons (pv 1) (pa_cons (pv 3) (pa_cons pe_str (pa_cons pe_int pa_nil))))) (pg_sub (pv 4) pe_str (set_dict hu)))
        (pss_cons (ps_par (i := 5) (j := 6) (by rfl) scLw.nd rfl rfl (by decide) rfl rfl (pa_cons (pe_callTy call_dictD (by rfl) md boot_dict (pa_cons (pe_dget hu (pv 4) pe_str (fun _ _ => rfl)) pa_nil)) (pa_cons (pe_callTy (T := "list") (r := rListN) call_listN (by rfl) mLi boot_list (pa_cons (pe_dget hu (pv 4) pe_str (fun _ _ => rfl)) pa_nil)) pa_nil)) (by rfl))
        (pss_cons (ps_par (i := 7) (j := 8) (by rfl) scLw.nd rfl rfl (by decide) rfl rfl (pa_cons (pe_callTy (T := "list") (r := rListN) call_listN (by rfl) mLi boot_list (pa_cons (pe_dget hu (pv 4) pe_str (fun _ _ => rfl)) pa_nil)) (pa_cons (pe_callTy (T := "list") (r := rListN) call_listN (by rfl) mLi boot_list (pa_cons (pe_dget hu (pv 4) pe_str (fun _ _ => rfl)) pa_nil)) pa_nil)) (by rfl))
        (pss_cons (ps_setLcB (i := 6) (own := [("_law_way", 9)]) (g := gName 9) (tt := tYes) (by rfl) scLw.nd rfl rfl (sw_true rfl rfl rfl (by decide +kernel)) (pi_list (pv 6)) (blkOk_by (N := nLw) (sc := defScope sLaw) (by decide +kernel))
            (fun _ _ _ _ _ => pg_name (i := 9) scLw.nd rfl (.inl rfl)) (fun _ _ _ _ _ => pts_nil)
            (fun _ _ _ _ _ => pe_lstB (pa_cons (pe_ix (r := rIxT K) ix_tup (pv 9) pe_int (fun _ _ => rfl)) (pa_cons (pe_ix (r := rIxT K) ix_tup (pv 9) pe_int (fun _ _ => rfl)) (pa_cons (pe_call GL (by exact hr2) (by rfl) mL kL bL .nil pass0 (pa_cons (pv 1) (pa_cons (pe_ix (r := rIxT K) ix_tup (pv 9) pe_int (fun _ _ => rfl)) pa_nil))) pa_nil)))))
        (pss_cons (ps_set (i := 10) scLw.nd rfl (.inl rfl) (pe_makeS MK GF hr (by rfl) gC bF (E := fun _ _ _ _ => False) (fun σ => passAt takes0 σ) (pa_cons (pv 5) (pa_cons (pv 7) (pa_cons (pv 8) (pa_cons (pe_dget hu (pv 4) pe_str (fun _ _ => rfl)) (pa_cons (pv 6) pa_nil)))))))
        (pss_cons (ps_expr (pe_bm PySem.F.plainAttrs_list PySem.F.slot_list_append PySem.F.type_list_append mt_append (pv 8) (pa_cons pe_str pa_nil)))
        (pss_cons (ps_for PassesOwn.never rfl (pi_list (pv 6)) (pg_name (i := 9) scLw.nd rfl (.inl rfl))
          (pss_cons (ps_for PassesOwn.never rfl (pi_list (pe_lc (own := [("_law_one", 14)]) (g := gName 14) rfl scLw.nd (pi_tup (pe_ix (r := rIxL K) ix_list (pv 9) pe_int (fun _ _ => rfl))) (blkOk_by (N := nLw) (sc := defScope sLaw) (by decide +kernel))
              (fun _ _ _ _ _ => pg_name (i := 14) scLw.nd rfl (.inl rfl))
              (fun _ _ _ _ _ => pts_one (pt_val (pe_callB (r := rIsi K) call_isi (by rfl) mq (by decide +kernel) (pa_cons (pv 14) (pa_cons (pe_bltn (v := .ty "list") (by rfl) mLi boot_list rfl) pa_nil))))) (fun _ _ _ _ _ => pv 14))) (pg_name (i := 11) scLw.nd rfl (.inl rfl))
            (pss_one (ps_expr (pe_bm0 PySem.F.plainAttrs_list PySem.F.slot_list_clear PySem.F.type_list_clear mt_clear (pv 11)))))
          (pss_one (ps_asg (pe_tup (pa_cons pe_str pa_nil)) (pg_sub (pv 9) pe_int set_list)))))
        (pss_cons (ps_expr (pe_bm PySem.F.plainAttrs_list PySem.F.slot_list_append PySem.F.type_list_append mt_append (pv 6) (pa_cons (pe_tup (pa_cons pe_int (pa_cons pe_int (pa_cons (pe_tup (pa_cons pe_str pa_nil)) pa_nil)))) pa_nil)))
        (pss_cons (ps_dput hu (pv 5) pe_str pe_str rfl)
        (pss_cons (ps_expr (pe_bm PySem.F.plainAttrs_list PySem.F.slot_list_append PySem.F.type_list_append mt_append (pv 7) (pa_cons pe_str pa_nil)))
        (pss_one (ps_for PassesOwn.never rfl (pi_range1 (by rfl) mr (pa_cons pe_int pa_nil)) (pg_name (i := 12) scLw.nd rfl (.inl rfl))
          (pss_cons (ps_if (pt_not (pt_val (pe_callG GR hg hr5 (by rfl) mR kR bR (pa_cons (pv 10) (pa_cons (pv 4) pa_nil))))) pss_dead pss_nil)
          (pss_one (ps_for PassesOwn.never rfl (pi_tup (pe_tup (pa_cons (pe_meth0 (pv 10) T.cl Mn Gn hr1 bn .nil pass0) (pa_cons (pe_meth0 (pv 10) T.cl Mu Gu hr1 bu .nil pass0) (pa_cons (pe_meth0 (pv 10) T.cl Ml Gl_ hr1 bl_ .nil pass0) (pa_cons (pe_meth0 (pv 10) T.cl Mw Gw hr1 bw .nil pass0) (pa_cons (pe_meth (pv 10) T.cl Mo Go hr3 bo .nil pass0 (pa_cons pe_int pa_nil)) pa_nil))))))) (pg_name (i := 13) scLw.nd rfl (.inl rfl))
            (pss_one (ps_expr (pe_bm PySem.F.plainAttrs_list PySem.F.slot_list_append PySem.F.type_list_append mt_append (pv 13) (pa_cons pe_str pa_nil))))))))))))))))))))))
      (pss_one (ps_ret pe_bl))), ?_⟩
    rw [show L2.start nLw [V.ref a] = [some (.ref a), none, none, none, none, none, none, none, none, none, none, none, none, none, none] from rfl]
    refine ⟨_, rfl, a, ns, rfl, hS, hl, fun b H1 B1 s1 => ?_⟩
    simp only [gName, List.set_cons_zero, List.set_cons_succ]
    refine ⟨3, rfl, by decide, by decide, ?_⟩
    refine for_range (lo := 0) (n := (3 : Int).toNat) (fun i σ H' => ∃ y2 y3 y4 y5 y6 y7 y8 y9 y10 y11 y12 y13 y14 : Option V, σ = [some (.ref a), some (.ref b), y2, y3, y4, y5, y6, y7, y8, y9, y10, y11, y12, y13, y14] ∧ Bag H' b)
      ⟨_, _, _, _, _, _, _, _, _, _, _, _, _, rfl, B1⟩ ?_ ?_
    · rintro i1 σ G hi ⟨y2, y3, y4, y5, y6, y7, y8, y9, y10, y11, y12, y13, y14, rfl, BG⟩
      simp only [gName, List.set_cons_zero, List.set_cons_succ]
      refine fun hs nhs => ?_
      have jh : Keep b G (upd G hs (.dK [])) := Keep.new nhs
      have Bh := BG.new (o := .dK []) nhs
      have ehs := (upd_same : (upd G hs (.dK [])) hs = some (.dK []))
      have hsb : hs ≠ b := by
        obtain ⟨o, e⟩ := Bag.at_b BG
        exact (ne_of_none e nhs).symm
      generalize upd G hs (.dK []) = G1 at jh Bh ehs ⊢
      refine ⟨_, rfl, b, rfl, Bh, fun o1 a1 p1 r1 w1 n1 ks zs rs G2 no1 na1 h1 B2 j2 => ?_⟩
      refine ⟨_, rfl, b, rfl, B2, fun o2 a2 p2 r2 w2 n2 ks2 zs2 rs2 G3 no2 na2 h2 B3 j3 => ⟨(j2.trans j3) _ _ hsb ehs, headsV o1 o2, rfl, by show 2 ≤ 15; decide, ?_⟩⟩
      rw [heads_merge]
      have hs1 : o1 ≠ hs := (ne_of_none ehs no1).symm
      have hfill : ∀ c o, c ≠ b → c ≠ hs → G3 c = some o → (upd G3 hs (.dK (headsV o1 o2))) c = some o := fun c o _ n e => by
        rw [upd_ne n]
        exact e
      have dk_ne : ∀ {c : Addr} {o : HO}, G3 c = some o → (∀ kvs, o ≠ .dK kvs) → c ≠ hs := fun {c o} e h z => by
        rw [z, (j2.trans j3) _ _ hsb ehs] at e
        cases e
        exact h _ rfl
      have h13 := h1.kp j3
      have h1F : HeadOk (upd G3 hs (.dK (headsV o1 o2))) b o1 a1 p1 r1 w1 n1 ks zs rs := by
        have ah : a1 ≠ hs := (ne_of_none ehs na1).symm
        exact { h13 with oo := hfill _ _ h13.ob hs1 h13.oo, aa := hfill _ _ h13.ab ah h13.aa, hp := hfill _ _ h13.pb (dk_ne h13.hp nofun) h13.hp, hr := hfill _ _ h13.rb (dk_ne h13.hr nofun) h13.hr, ww := hfill _ _ h13.wb (dk_ne h13.ww nofun) h13.ww }
      have h2F : HeadOk (upd G3 hs (.dK (headsV o1 o2))) b o2 a2 p2 r2 w2 n2 ks2 zs2 rs2 := by
        have ah : a2 ≠ hs := (ne_of_none (j2 _ _ hsb ehs) na2).symm
        have hs2 : o2 ≠ hs := (ne_of_none (j2 _ _ hsb ehs) no2).symm
        exact { h2 with oo := hfill _ _ h2.ob hs2 h2.oo, aa := hfill _ _ h2.ab ah h2.aa, hp := hfill _ _ h2.pb (dk_ne h2.hp nofun) h2.hp, hr := hfill _ _ h2.rb (dk_ne h2.hr nofun) h2.hr, ww := hfill _ _ h2.wb (dk_ne h2.ww nofun) h2.ww }
      have o1a : o1 ≠ a1 := fun z => by
        have e := h1F.oo
        have ea := h1F.aa
        rw [← z] at ea
        have e2 := congrArg List.length (HO.dK.inj (Option.some.inj (e.symm.trans ea)))
        unfold kinV head5 at e2
        rw [List.length_map] at e2
        have := h1F.kl
        simp at e2
        omega
      have ehs4 := (upd_same : (upd G3 hs (.dK (headsV o1 o2))) hs = some (.dK (headsV o1 o2)))
      have B4 : Bag (upd G3 hs (.dK (headsV o1 o2))) b := by
        obtain ⟨c3, B3c'⟩ := B3
        have B3c : BagAt G3 b c3 := B3c'
        have hc : hs ≠ c3 := fun z => by
          obtain ⟨cs, p, q1, i1, B⟩ := B3c'
          have e := B.cells
          rw [← z, (j2.trans j3) _ _ hsb ehs] at e
          cases e
        exact BagAt.bag (B3c.put hsb hc)
      generalize upd G3 hs (.dK (headsV o1 o2)) = G4 at h1F h2F ehs4 B4 ⊢
      clear hfill dk_ne h13 h1 h2 j2 j3 no1 no2 na1 na2 ehs nhs jh Bh B2 B3 BG
      simp only [gName, List.set_cons_zero, List.set_cons_succ]
      refine ⟨_, rfl, hs, .ref o1, rfl, heads_a o1 o2 ▸ DGet.k (k := Sum.inr "a") ehs4, ?_⟩
      simp only [gName, List.set_cons_zero, List.set_cons_succ]
      refine ⟨_, rfl, _, rfl, b, hs, o1, o2, a1, a2, p1, p2, r1, r2, w1, w2, n1, n2, 5, ks, ks2, zs, zs2, rs, rs2, rfl, B4, hsb, ehs4, by decide, by decide, h1F, h2F, fun pw yw dw G5 npw pwb epw dqw wIn dwl B5 j5 => ?_⟩
      have h5 := h1F.kp j5
      refine ⟨_, rfl, o1, _, rfl, DPut.k (k := Sum.inr "ways") h5.oo (by show 5 < sizeLine; decide), ?_⟩
      rw [head5_put]
      obtain ⟨c5, B5'⟩ := B5
      have B5c : BagAt G5 b c5 := B5'
      clear B5'
      have o1c : o1 ≠ c5 := fun z => by
        obtain ⟨cs, p, q1, i1, B⟩ := id B5c
        have e := B.cells
        rw [← z, h5.oo] at e
        cases e
      have B6 := B5c.put (o := .dK (head5 a1 p1 r1 n1 pw)) h5.ob o1c
      have e6 := (upd_same : (upd G5 o1 (.dK (head5 a1 p1 r1 n1 pw))) o1 = some (.dK (head5 a1 p1 r1 n1 pw)))
      have ne1 : ∀ {c : Addr} {o : HO}, G5 c = some o → (∀ kvs, o ≠ .dK kvs) → c ≠ o1 := fun {c o} e h z => by
        rw [z, h5.oo] at e
        cases e
        exact h _ rfl
      have aa6 : (upd G5 o1 (.dK (head5 a1 p1 r1 n1 pw))) a1 = some (.dK (kinV ks)) := by rw [upd_ne o1a.symm]; exact h5.aa
      have hp6 : (upd G5 o1 (.dK (head5 a1 p1 r1 n1 pw))) p1 = some (.tup (zs.map V.str)) := by rw [upd_ne (ne1 h5.hp nofun)]; exact h5.hp
      have hr6 : (upd G5 o1 (.dK (head5 a1 p1 r1 n1 pw))) r1 = some (.tup (rs.map V.str)) := by rw [upd_ne (ne1 h5.hr nofun)]; exact h5.hr
      have pw6 : (upd G5 o1 (.dK (head5 a1 p1 r1 n1 pw))) pw = some (.lst yw) := by rw [upd_ne (ne1 epw nofun)]; exact epw
      have nol := ways_nol wIn
      have dq6 : DqAll (upd G5 o1 (.dK (head5 a1 p1 r1 n1 pw))) b yw dw := dqw.tups (fun t us e => by
        have e5 := del_sub _ _ e
        rw [upd_ne (ne1 e5 nofun)]
        exact e5) nol
      generalize upd G5 o1 (.dK (head5 a1 p1 r1 n1 pw)) = Ga at B6 e6 aa6 hp6 hr6 pw6 dq6 ⊢
      have hok := h1F.ok
      have hkl := h1F.kl
      have hzl := h1F.zl
      have hrl := h1F.rl
      have hzin := h1F.zin
      have hrin := h1F.rin
      have hzn := h1F.zn
      have hrn := h1F.rn
      have hn1 := h1F.n1
      have hn4 := h1F.n4
      have hzq := h1F.zq
      have a1b := h1F.ab
      have o1b := h1F.ob
      have p1b := h1F.pb
      have r1b := h1F.rb
      clear ne1 o1c B5c h5 j5 dqw epw npw h2F ehs4 hsb B4 h1F
      obtain ⟨kk1, kp1, kr1, kn1, kw1⟩ := head5_k a1 p1 r1 n1 pw
      -- the handed ones
      refine ⟨_, rfl, o1, _, rfl, kk1 ▸ DGet.k (k := Sum.inr "kinds") e6, a1, kinV ks, rfl, .inl aa6, fun kn nkn => ?_⟩
      have t1 := same_upd (o := .dK (kinV ks)) nkn
      have ekn : (upd Ga kn (.dK (kinV ks))) kn = some (.dK (kinV ks)) := upd_same
      generalize upd Ga kn (.dK (kinV ks)) = Gb at t1 ekn ⊢
      refine ⟨_, rfl, o1, _, rfl, kw1 ▸ DGet.k (k := Sum.inr "ways") (t1 _ _ e6), pw, yw, rfl, .inl (t1 _ _ pw6), fun w0 nw0 ww0 => ⟨_, _, rfl, ?_⟩⟩
      have u2 := same_upd (o := .lst yw) nw0
      have t2 := t1.trans u2
      have ekn := u2 _ _ ekn
      have ew0 : (upd Gb w0 (.lst yw)) w0 = some (.lst yw) := upd_same
      generalize upd Gb w0 (.lst yw) = Gc at t2 ekn ew0 ⊢
      simp only [gName, List.set_cons_zero, List.set_cons_succ]
      refine ⟨_, rfl, o1, _, rfl, kp1 ▸ DGet.k (k := Sum.inr "params") (t2 _ _ e6), p1, _, rfl, .inr (t2 _ _ hp6), fun pl npl wpl => ?_⟩
      have u3 := same_upd (o := .lst (zs.map V.str)) npl
      have t3 := t2.trans u3
      have ekn := u3 _ _ ekn
      have ew0 := u3 _ _ ew0
      have epl : (upd Gc pl (.lst (zs.map V.str))) pl = some (.lst (zs.map V.str)) := upd_same
      generalize upd Gc pl (.lst (zs.map V.str)) = Gd at t3 ekn ew0 epl ⊢
      refine ⟨_, rfl, o1, _, rfl, kr1 ▸ DGet.k (k := Sum.inr "results") (t3 _ _ e6), r1, _, rfl, .inr (t3 _ _ hr6), fun rl nrl wrl => ⟨_, _, rfl, ?_⟩⟩
      have plrl : pl ≠ rl := ne_of_none epl nrl
      have u4 := same_upd (o := .lst (rs.map V.str)) nrl
      have t4 := t3.trans u4
      have ekn := u4 _ _ ekn
      have ew0 := u4 _ _ ew0
      have epl := u4 _ _ epl
      have erl : (upd Gd rl (.lst (rs.map V.str))) rl = some (.lst (rs.map V.str)) := upd_same
      have gone : ∀ {H2 H3 : Hp} {c : Addr}, Same H2 H3 → H3 c = none → H2 c = none := fun {H2 H3 c} s n => by
        cases e : H2 c with
        | none => rfl
        | some o => rw [s _ _ e] at n; cases n
      have nw0 := gone t1 nw0
      have npl := gone t2 npl
      have nrl := gone t3 nrl
      generalize upd Gd rl (.lst (rs.map V.str)) = Ge at t4 ekn ew0 epl erl ⊢
      clear u2 u3 u4 t1 t2 t3
      simp only [gName, List.set_cons_zero, List.set_cons_succ]
      refine ⟨_, rfl, w0, rfl, ⟨_, SqL.of ew0⟩, fun D nD wD => ?_⟩
      have Bge := B6.same t4
      obtain ⟨Db, Dc⟩ := Bge.out nD
      have w0b := (B6.out nw0).1
      have knb := (B6.out nkn).1
      have plb := (B6.out npl).1
      have rlb := (B6.out nrl).1
      refine lc_it (walk_list (K := K) (a := w0) (xs := yw)) (fun i H' => BagAt H' b c5 ∧ (∀ c o, c ≠ b → Ge c = some o → H' c = some o) ∧ ∃ (ts : List Addr) (es : List PyData), H' D = some (.lst (ts.map V.ref)) ∧ DqAll (del H' D) b (ts.map V.ref) es ∧ es.map wayF = dw.take i ∧ (∀ e ∈ es, okM e ∧ wayD e = true) ∧ ∀ t ∈ ts, t ≠ b ∧ t ≠ D ∧ Ge t = none ∧ Lo Ge H' H' D ts t)
        ⟨Bge.put Db Dc, fun c o _ e => by rw [upd_ne (ne_of_none e nD)]; exact e, [], [], upd_same, .nil, rfl, fun e he => (by cases he), fun t ht => (by cases ht)⟩ (fun i H' _ h => SqL.of (h.2.1 _ _ w0b ew0)) ?_ ?_
      · rintro i x H0 H' hi ⟨B', k', ts, es, e', ya, em, ok, ht⟩ ⟨rfl, hx⟩
        obtain ⟨dx, hdi, hdx⟩ := dq6.at_ hx
        have hwi := wIn dx (List.mem_of_getElem? hdi)
        obtain ⟨i0, j0, d, rfl, _, _, _, _, ho, hst, hfz, _, _⟩ := id hwi
        cases hdx with
        | @tup ae xe _ ea nab ha =>
        obtain ⟨u1, u2, u3, rfl⟩ := three_of ha.len
        obtain ⟨_, _, _, ee, g5, g6, g7⟩ := ha.three
        cases ee
        cases g5
        cases g6
        have ea' := k' _ _ nab (t4 _ _ ea)
        have g7' := g7.mono fun c o n e => k' c o n (t4 c o e)
        have tl : ts.length = i := by
          have h1 := ya.len
          have h2 := congrArg List.length em
          rw [List.length_map] at h1
          rw [List.length_map, List.length_take] at h2
          have := (List.getElem?_eq_some_iff.mp hdi).1
          omega
        refine ⟨rfl, _, rfl, ae, _, 0, _, rfl, rfl, SqT.of ea', rfl, _, rfl, ae, _, 1, _, rfl, rfl, SqT.of ea', rfl, _, rfl, _, rfl, ae, _, 2, _, rfl, rfl, SqT.of ea', rfl, b, u3, d, rfl, BagAt.bag B', g7', ho, hst, hfz, fun p us d' H2 np ep hin hq ho' hst' hfz' _ k2 g2 => ⟨by show 3 ≤ sizeLine; decide, fun t nt mt => ?_⟩⟩
        have B2 := g2 _ B'
        obtain ⟨B3, tb, tc⟩ := BagAt.new (o := .lst [.int i0, .int j0, .ref p]) B2 nt
        have eD2 := k2 _ _ Db e'
        have tD : t ≠ D := (ne_of_none eD2 nt).symm
        have gt : Ge t = none := by
          cases z : Ge t with
          | none => rfl
          | some o => rw [k2 _ _ tb (k' _ _ tb z)] at nt; cases nt
        have lD : ∀ {o : HO}, H2 D = some o → ∃ l, o = .lst l := fun {o} h => by
          rw [eD2] at h
          cases h
          exact ⟨_, rfl⟩
        have hin' : ∀ c l, V.ref c ∈ us → H2 c = some (.lst l) → c ≠ D ∧ Ge c = none ∧ c ∉ ts ∧ c ≠ t := fun c l hc e => by
          have n := hin c l hc e
          have cb : c ≠ b := fun z => by
            obtain ⟨bs, hbs⟩ := Bag.lst (BagAt.bag B')
            rw [z, hbs] at n
            cases n
          refine ⟨(ne_of_none e' n).symm, ?_, fun hm => ?_, fun z => ?_⟩
          · cases z : Ge c with
            | none => rfl
            | some o => rw [k' _ _ cb z] at n; cases n
          · obtain ⟨_, _, _, _, _, _, _, h, _⟩ := ht c hm
            rw [h] at n
            cases n
          · rw [z, nt] at e
            cases e
        obtain ⟨hqD, ds', rfl, hqA⟩ := loose_to (H2 := del H2 D) hq ep (by rw [hfz']; exact st_noL hst hfz) (fun c us e => by
          have : c ≠ D := fun z => by
            rw [z, eD2] at e
            cases e
          rw [del_ne this]
          exact e) (fun c l hc e => by
          rw [del_ne (hin' c l hc e).1]
          exact e)
        have stand : ∀ c o, c ≠ b → c ≠ D → H' c = some o → (upd (upd H2 t (.lst [.int i0, .int j0, .ref p])) D (.lst (ts.map V.ref ++ [.ref t]))) c = some o := fun c o n1 n2 e => by
          have e2 := k2 _ _ n1 e
          rw [upd_ne n2, upd_ne (ne_of_none e2 nt)]
          exact e2
        have pD : p ≠ D := (ne_of_none e' np).symm
        have eF : ∀ c o, c ≠ D → H2 c = some o → (upd (upd H2 t (.lst [.int i0, .int j0, .ref p])) D (.lst (ts.map V.ref ++ [.ref t]))) c = some o := fun c o n2 e2 => by
          rw [upd_ne n2, upd_ne (ne_of_none e2 nt)]
          exact e2
        have etF : (upd (upd H2 t (.lst [.int i0, .int j0, .ref p])) D (.lst (ts.map V.ref ++ [.ref t]))) t = some (.lst [.int i0, .int j0, .ref p]) := by
          rw [upd_ne tD]
          exact upd_same
        have lw := loose_way hwi hst' hfz'
        have subD : ∀ c o, c ≠ b → del H2 D c = some o → del (upd H2 t (.lst [.int i0, .int j0, .ref p])) D c = some o := fun c o _ e => by
          have nc : c ≠ D := fun z => by
            rw [z, del_same] at e
            cases e
          have e2 := del_sub _ _ e
          rw [del_ne nc, upd_ne (ne_of_none e2 nt)]
          exact e2
        refine ⟨ts.map V.ref, ?_, ?_, B3.put Db Dc, fun c o n e => stand c o n (ne_of_none e nD) (k' c o n e), ts ++ [t], es ++ [.list [.int i0, .int j0, .tuple ds']], ?_, ?_, ?_, ?_, ?_⟩
        · rw [upd_ne tD.symm]
          exact eD2
        · rw [List.length_map]
          have := (List.getElem?_eq_some_iff.mp hdi).1
          exact small60 (by omega)
        · rw [List.map_append]
          exact upd_same
        · rw [del_upd, List.map_append]
          refine DqAll.snoc ?_ (ya.mono fun c o n e => ?_)
          · refine .lst (xs := [.int i0, .int j0, .ref p]) ?_ tb mt (.cons (.int _) (.cons (.int _) (.cons (hqD.mono subD) .nil)))
            rw [del_ne tD]
            exact upd_same
          · have nc : c ≠ D := fun z => by
              rw [z, del_same] at e
              cases e
            refine subD c o n ?_
            rw [del_ne nc]
            exact k2 _ _ n (del_sub _ _ e)
        · rw [List.map_append, em, List.take_add_one, hdi]
          show _ ++ [wayF _] = _
          rw [lw.2.2]
          rfl
        · intro e he
          rcases List.mem_append.mp he with he | he
          · exact ok e he
          · obtain rfl := List.mem_singleton.mp he
            exact ⟨lw.1, lw.2.1⟩
        · intro t2 ht2
          rcases List.mem_append.mp ht2 with h | h
          · obtain ⟨h1, h2, h3, h4⟩ := ht t2 h
            have nonl : ∀ c o, H' c = some o → (∀ l, o ≠ .lst l) → c ≠ b ∧ c ≠ D := fun c o e no => by
              refine ⟨fun z => ?_, fun z => ?_⟩
              · obtain ⟨bs, hbs⟩ := Bag.lst (BagAt.bag B')
                rw [z, hbs] at e
                cases e
                exact no _ rfl
              · rw [z, e'] at e
                cases e
                exact no _ rfl
            refine ⟨h1, h2, h3, h4.step (fun c o e no => stand c o (nonl c o e no).1 (nonl c o e no).2 e) (fun c l l7 e _ n nD' nts => ?_) fun l e => stand _ _ h1 h2 e⟩
            have cb : c ≠ b := fun z => by
              obtain ⟨bs, hbs⟩ := Bag.lst (BagAt.bag Bge)
              rw [z, hbs] at n
              cases n
            refine ⟨⟨l, stand c _ cb nD' e⟩, ⟨l, stand c _ cb nD' e⟩, fun hm => (List.mem_append.mp hm).elim nts fun hm => ?_⟩
            have := k2 _ _ cb e
            rw [List.mem_singleton.mp hm, nt] at this
            cases this
          · obtain rfl := List.mem_singleton.mp h
            refine ⟨tb, tD, gt, i0, j0, p, us, etF, eF _ _ pD ep, ?_, fun v hv => ?_⟩
            · have := hqA.len
              have h60 : ds'.length ≤ 60 := ho'.1
              omega
            · obtain ⟨m, hm⟩ := List.getElem?_of_mem hv
              obtain ⟨dv, _, hdv⟩ := hqA.get hm
              refine El.of hdv (fun c o _ e => ?_) fun c l ev e => ?_
              · have nc : c ≠ D := fun z => by
                  rw [z, del_same] at e
                  cases e
                exact ⟨eF _ _ nc (del_sub _ _ e), nc⟩
              · subst ev
                cases hdv with
                | lst e1 _ _ _ =>
                  have h := hin' c _ hv (del_sub _ _ e1)
                  exact ⟨h.2.1, fun hm => (List.mem_append.mp hm).elim h.2.2.1 fun z => h.2.2.2 (List.mem_singleton.mp z)⟩
                | tup e1 _ _ =>
                  have nc : c ≠ D := fun z => by
                    rw [z, del_same] at e1
                    cases e1
                  rw [eF _ _ nc (del_sub _ _ e1)] at e
                  cases e
                | dct e1 _ _ _ =>
                  have nc : c ≠ D := fun z => by
                    rw [z, del_same] at e1
                    cases e1
                  rw [eF _ _ nc (del_sub _ _ e1)] at e
                  cases e
      rintro H7 ⟨B7, k7, ts, es, eD, ya, em, ok, ht⟩
      rw [show yw.length = dw.length from dq6.len, List.take_length] at em
      simp only [gName, List.set_cons_zero, List.set_cons_succ]
      have ekn7 := k7 _ _ knb ekn
      have epl7 := k7 _ _ plb epl
      have erl7 := k7 _ _ rlb erl
      have e67 := k7 _ _ o1b (t4 _ _ e6)
      -- it is made
      refine ⟨_, rfl, _, rfl, _, rfl, _, rfl, o1, _, rfl, kn1 ▸ DGet.k (k := Sum.inr "size") e67, _, rfl, fun x dx nx ndx nxd wx => ?_⟩
      have s8 : Same H7 (upd (upd H7 dx (.own x)) x (.ins C dx [])) := (same_upd ndx).trans (same_upd (by rw [upd_ne nxd.symm]; exact nx))
      have ex8 : (upd (upd H7 dx (.own x)) x (.ins C dx [])) x = some (.ins C dx []) := upd_same
      generalize upd (upd H7 dx (.own x)) x (.ins C dx []) = G8 at s8 ex8 ⊢
      have ekn8 := s8 _ _ ekn7
      have epl8 := s8 _ _ epl7
      have erl8 := s8 _ _ erl7
      have eD8 := s8 _ _ eD
      have zok : ∀ z ∈ zs, NmOk z := fun z hz => by
        obtain ⟨q, hq, e⟩ := List.mem_map.mp (hzin z hz)
        exact e ▸ hok.nm q hq
      have rok : ∀ z ∈ rs, NmOk z := fun z hz => by
        obtain ⟨q, hq, e⟩ := List.mem_map.mp (hrin z hz)
        exact e ▸ hok.nm q hq
      have esl : es.length ≤ 24 := by
        have := congrArg List.length em
        rw [List.length_map] at this
        omega
      have hall := loose_all ok esl
      have hD8 : Dq G8 x (.ref D) (.list es) := .lst eD8 (ne_of_none eD nx) wD (ya.away (fun c o e => s8 c o (del_sub c o e)) (del_none nx))
      have emd : (itemsD (.list es)).map wayF = dw := em
      have FV : FiveV G8 x (.ref kn) (.ref pl) (.ref rl) (.int n1) (.ref D) ks zs rs n1 (.list es) :=
        { v0 := ⟨kn, rfl, ne_of_none ekn7 nx, ekn8⟩, kn := hok.nd, kl := by omega, v1 := ⟨pl, rfl, ne_of_none epl7 nx, .inl epl8⟩, v2 := ⟨rl, rfl, ne_of_none erl7 nx, .inl erl8⟩, zl := by omega, rl := by omega, v3 := rfl, v4 := hD8, o4 := hall.1, w4 := hall.2 }
      refine ⟨x, dx, .ref kn, .ref pl, .ref rl, .int n1, .ref D, .dict (ks.map fun p => (.str p.1, .str p.2)), true, true, true, true, rfl, ex8, .inr ⟨kn, kinV ks, _, rfl, rfl, ekn8, ne_of_none ekn7 nx, by unfold kinV; rw [List.length_map]; omega, kv_kin hok.nm hok.kd⟩,
        arg_names epl8 (ne_of_none epl7 nx) zok hzn (by omega), arg_names erl8 (ne_of_none erl7 nx) rok hrn (by omega), .inl ⟨.int n1, .int n1, True.intro, (decide_eq_true hn1).symm⟩, .inl ⟨.list es, hD8.x, hall.1.ok, hall.2.symm⟩, fun m hm => ?_, fun _ => ⟨ks, zs, rs, n1, .list es, FV, fun z hz => ?_, fun _ z hz => ?_, fun _ _ z hz => ?_, fun _ _ _ Gm kd pp rr wv xs sX nkd nwv PW => ⟨rfl, ?_⟩⟩⟩
      · have h : false ∈ [kindsD (.dict (ks.map fun p => (.str p.1, .str p.2))), true, true, true, true] := List.mem_of_getElem? hm.1
        rw [kinds_d hok] at h
        simp at h
      · rw [emd, miss_none hzin hrin wIn] at hz
        cases hz
      · rw [emd, place_none wIn] at hz
        cases hz
      · rw [emd, bad_none wIn] at hz
        cases hz
      rw [emd] at PW
      have m7 : ∀ c o, H7 c = some o → Gm c = some o := fun c o e => sX c o (ne_of_none e nx) (s8 _ _ e)
      have nkd7 : H7 kd = none := gone s8 nkd
      have nwv7 : H7 wv = none := gone s8 nwv
      have toGm : ∀ c o, c ≠ b → Ga c = some o → Gm c = some o := fun c o n e => m7 _ _ (k7 _ _ n (t4 _ _ e))
      have pwb' : pw ≠ b := pwb
      have HW : HeadW Gm x o1 a1 p1 r1 pw n1 ks zs rs yw dw :=
        ⟨toGm _ _ o1b e6, toGm _ _ a1b aa6, hok, hkl, toGm _ _ p1b hp6, toGm _ _ r1b hr6, toGm _ _ pwb pw6, (dq6.mono toGm).offI PW.hx⟩
      have SB : SpB Ga Ge H7 Gm D kn pl ts := ⟨t4, m7, by rw [ekn]; exact nofun, by rw [epl]; exact nofun, fun t h => by
        obtain ⟨_, h2, h3, _, _, _, _, h4, _⟩ := ht t h
        exact ⟨h3, h2, _, h4⟩⟩
      have S0 : Spo Ga Ge H7 Gm D kn pl ts ks zs Gm := ⟨.refl, m7 _ _ eD, m7 _ _ ekn7, m7 _ _ epl7, fun t h => (ht t h).2.2.2.step (fun c o e _ => m7 _ _ e) (fun c l l7 e e7 _ _ nt => ⟨⟨l, m7 _ _ e⟩, ⟨l7, e7⟩, nt⟩) fun l e => m7 _ _ e⟩
      have erlm := m7 _ _ erl7
      have eDm := m7 _ _ eD
      have eknm := m7 _ _ ekn7
      have eplm := m7 _ _ epl7
      have nDa : Ga D = none := gone t4 nD
      have nkn7 : H7 kn ≠ none := by rw [ekn7]; exact nofun
      have npl7 : H7 pl ≠ none := by rw [epl7]; exact nofun
      have nrl7 : H7 rl ≠ none := by rw [erl7]; exact nofun
      have nD7 : H7 D ≠ none := by rw [eD]; exact nofun
      have o1a' : Ga o1 ≠ none := by rw [e6]; exact nofun
      have a1a' : Ga a1 ≠ none := by rw [aa6]; exact nofun
      have pwa' : Ga pw ≠ none := by rw [pw6]; exact nofun
      have Bm : BagAt Gm b c5 := B7.same m7
      obtain ⟨gb, gc⟩ := B6.some
      have tsl : ts.length ≤ 24 := by
        have := ya.len
        rw [List.length_map] at this
        omega
      clear FV hD8 hall ekn8 epl8 erl8 eD8 s8 ex8 sX ya ok em emd esl ht B7 nkd nwv dq6 B6 Bge
      simp only [gName, List.set_cons_zero, List.set_cons_succ]
      -- results
      refine ⟨_, rfl, .inl ⟨rfl, _, SqL.of erlm⟩, rl, _, _, rfl, rfl, erlm, by rw [List.length_map]; exact small60 (by omega), ?_⟩
      have rlD : rl ≠ D := ne_of_none erl nD
      have knD : kn ≠ D := ne_of_none ekn nD
      have plD : pl ≠ D := ne_of_none epl nD
      have knrl : kn ≠ rl := fun z => by
        rw [z, erl] at ekn
        cases ekn
      have S1 := S0.res (l2 := rs.map V.str ++ [.str "zzzzzzzz"]) SB erlm erl7 nrl knrl plrl rlD fun h => by
        have := (SB.tt rl h).1
        rw [erl] at this
        cases this
      generalize upd Gm rl (.lst (rs.map V.str ++ [.str "zzzzzzzz"])) = Gr at S1 ⊢
      refine ⟨_, rfl, D, rfl, ⟨_, SqL.of S1.eD⟩, ?_⟩
      refine for_list (K := K) (a := D) (xs := ts.map V.ref) (fun _ σ H' => ∃ y9 y11 y14 : Option V, σ = [some (.ref a), some (.ref b), some (.int (0 + ↑i1)), some (.ref hs), some (.ref o1), some (.ref kn), some (.ref D), some (.ref pl), some (.ref rl), y9, some (.ref x), y11, y12, y13, y14] ∧ Spo Ga Ge H7 Gm D kn pl ts ks zs H')
        ⟨_, _, _, rfl, S1⟩ (fun _ _ _ _ h => by
          obtain ⟨_, _, _, _, S⟩ := h
          exact SqL.of S.eD) ?_ ?_
      · rintro k v σ H' hv ⟨y9', y11', y14', rfl, S⟩
        obtain ⟨t, ht, rfl⟩ := List.mem_map.mp (List.mem_of_getElem? hv)
        simp only [gName, List.set_cons_zero, List.set_cons_succ]
        obtain ⟨i, j, p, us, et, ep, ul, he⟩ := S.lo t ht
        refine ⟨_, rfl, t, _, 2, _, rfl, rfl, SqL.of et, rfl, p, rfl, ⟨us, SqT.of ep⟩, fun L nL => ?_⟩
        refine lc_tup (K := K) (a := p) (xs := us) (fun m H2 => ∃ ms : List Addr, H2 = upd H' L (.lst (ms.map V.ref)) ∧ ms.length ≤ m ∧ ∀ c ∈ ms, ∃ l l7, H' c = some (.lst l) ∧ H7 c = some (.lst l7) ∧ Ge c = none ∧ c ≠ D ∧ c ∉ ts)
          ⟨[], rfl, Nat.le_refl 0, fun c h => (by cases h)⟩ (fun i H2 _ h => by
            obtain ⟨ms, rfl, _⟩ := h
            exact SqT.of (by rw [upd_ne (ne_of_none ep nL)]; exact ep)) ?_ ?_
        · rintro m v H2 hvm ⟨ms, rfl, ml, hm⟩
          obtain ⟨ty, r, hty, hk, hr⟩ := ((he v (List.mem_of_getElem? hvm)).new (o := .lst (ms.map V.ref)) nL).ty (K := K)
          refine ⟨rfl, _, rfl, _, _, _, _, _, rfl, .ty "list", hty, hk, _, rfl, ?_⟩
          cases r with
          | false => exact iteF ⟨ms, rfl, by omega, hm⟩
          | true =>
            obtain ⟨c, l, l7, rfl, e, e7, g1, g2, g3, g4⟩ := hr rfl
            have cL : c ≠ L := fun z => S.fr.ex c (by rw [m7 _ _ e7]; exact nofun) (by rw [z]; exact nL)
            rw [upd_ne cL] at e
            have hml : m < us.length := (List.getElem?_eq_some_iff.mp hvm).1
            refine iteT ⟨_, rfl, ms.map V.ref, upd_same, by rw [List.length_map]; exact small60 (by omega), ms ++ [c], ?_, ?_, fun c2 h2 => ?_⟩
            · rw [upd_upd, List.map_append]
              rfl
            · rw [List.length_append]
              show _ + 1 ≤ _
              omega
            · rcases List.mem_append.mp h2 with h2 | h2
              · exact hm c2 h2
              · obtain rfl := List.mem_singleton.mp h2
                exact ⟨l, l7, e, e7, g1, g2, g3⟩
        · rintro H2 ⟨ms, rfl, ml, hm⟩
          have SL := S.new (o := .lst (ms.map V.ref)) nL
          refine ⟨L, rfl, ⟨_, SqL.of upd_same⟩, ?_⟩
          refine for_list (K := K) (a := L) (xs := ms.map V.ref) (fun _ σ H2 => ∃ y11 y14 : Option V, σ = [some (.ref a), some (.ref b), some (.int (0 + ↑i1)), some (.ref hs), some (.ref o1), some (.ref kn), some (.ref D), some (.ref pl), some (.ref rl), some (.ref t), some (.ref x), y11, y12, y13, y14] ∧ Spo Ga Ge H7 Gm D kn pl ts ks zs H2 ∧ H2 L = some (.lst (ms.map V.ref)) ∧ ∀ c ∈ ms, ∃ l, H2 c = some (.lst l))
            ⟨_, _, rfl, SL, upd_same, fun c hc => by
              obtain ⟨l, _, e, _⟩ := hm c hc
              exact ⟨l, by rw [upd_ne (ne_of_none e nL)]; exact e⟩⟩ (fun _ _ _ _ h => by
              obtain ⟨_, _, _, _, e, _⟩ := h
              exact SqL.of e) ?_ ?_
          · rintro m v σ H2 hv2 ⟨y11', y14', rfl, S2, eL, hl⟩
            obtain ⟨c, hc, rfl⟩ := List.mem_map.mp (List.mem_of_getElem? hv2)
            simp only [gName, List.set_cons_zero, List.set_cons_succ]
            obtain ⟨l0, l7, e0, e7, g1, g2, g3⟩ := hm c hc
            obtain ⟨l, e⟩ := hl c hc
            refine ⟨_, rfl, .inl ⟨rfl, _, SqL.of e⟩, c, _, rfl, rfl, e, ?_⟩
            refine ⟨_, _, rfl, S2.clear SB e e7 g1 g2 g3, ?_, fun c2 h2 => ?_⟩
            · rw [upd_ne (ne_of_none e0 nL).symm]
              exact eL
            · by_cases z : c2 = c
              · rw [z]
                exact ⟨_, upd_same⟩
              · obtain ⟨l2, e2⟩ := hl c2 h2
                exact ⟨l2, by rw [upd_ne z]; exact e2⟩
          · rintro σ H2 ⟨y11', y14', rfl, S2, eL, hl⟩
            obtain ⟨i2, j2, p2, us2, et2, _⟩ := S2.lo t ht
            refine ⟨by show 1 ≤ sizeLine; decide, fun u nu => ⟨_, rfl, t, [.int i2, .int j2, .ref p2], 2, 2, rfl, rfl, ?_, rfl, ?_⟩⟩
            · rw [upd_ne (ne_of_none et2 nu)]
              exact et2
            · exact ⟨_, _, _, rfl, S2.way SB ht et2 nu⟩
      rintro σ H' ⟨y9', y11', y14', rfl, S⟩
      refine ⟨_, rfl, .inl ⟨rfl, _, SqL.of S.eD⟩, by show 1 ≤ sizeLine; decide, fun u1 nu1 => ⟨by show 3 ≤ sizeLine; decide, fun u2 nu2 => ?_⟩⟩
      have SS := (S.new (o := .tup [.str "skip"]) nu1).new (o := .tup [.int 0, .int 0, .ref u1]) nu2
      generalize upd (upd H' u1 (.tup [.str "skip"])) u2 (.tup [.int 0, .int 0, .ref u1]) = Gs at SS ⊢
      refine ⟨D, _, _, rfl, rfl, SS.eD, by rw [List.length_map]; exact small60 (by omega), ?_⟩
      have F1 := SS.fr.put (o := .lst (ts.map V.ref ++ [.ref u2])) nDa nD7 eDm nofun
      have ek1 : (upd Gs D (.lst (ts.map V.ref ++ [.ref u2]))) kn = some (.dK (kinV ks)) := by rw [upd_ne knD]; exact SS.ek
      have ep1 : (upd Gs D (.lst (ts.map V.ref ++ [.ref u2]))) pl = some (.lst (zs.map V.str)) := by rw [upd_ne plD]; exact SS.ep
      generalize upd Gs D (.lst (ts.map V.ref ++ [.ref u2])) = Gt at F1 ek1 ep1 ⊢
      have plkn : pl ≠ kn := fun z => by
        rw [z, ek1] at ep1
        cases ep1
      refine ⟨_, rfl, kn, _, rfl, DPut.k (k := Sum.inr "zzzzzzzz") ek1 (by unfold kinV; rw [List.length_map]; exact small60 (by omega)), ?_⟩
      have F2 := F1.put (o := .dK (putK (kinV ks) (Sum.inr "zzzzzzzz") (.str "low"))) nkn nkn7 eknm nofun
      have ep2 : (upd Gt kn (.dK (putK (kinV ks) (Sum.inr "zzzzzzzz") (.str "low")))) pl = some (.lst (zs.map V.str)) := by rw [upd_ne plkn]; exact ep1
      generalize upd Gt kn (.dK (putK (kinV ks) (Sum.inr "zzzzzzzz") (.str "low"))) = Gu at F2 ep2 ⊢
      refine ⟨_, rfl, .inl ⟨rfl, _, SqL.of ep2⟩, pl, _, _, rfl, rfl, ep2, by rw [List.length_map]; exact small60 (by omega), ?_⟩
      have F3 := F2.put (o := .lst (zs.map V.str ++ [.str "zzzzzzzz"])) npl npl7 eplm nofun
      generalize upd Gu pl (.lst (zs.map V.str ++ [.str "zzzzzzzz"])) = Gv at F3 ⊢
      clear F1 F2 SS S S0 S1 ek1 ep1 ep2
      refine ⟨3, rfl, by decide, by decide, ?_⟩
      refine for_range (lo := 0) (n := (3 : Int).toNat) (fun _ σ H' => ∃ y11 y12 y13 y14 : Option V, σ = [some (.ref a), some (.ref b), some (.int (0 + ↑i1)), some (.ref hs), some (.ref o1), some (.ref kn), some (.ref D), some (.ref pl), some (.ref rl), y9', some (.ref x), y11, y12, y13, y14] ∧ Fr Ga H7 Gm H')
        ⟨_, _, _, _, rfl, F3⟩ ?_ ?_
      · rintro k σ H' hk ⟨y11', y12', y13', y14', rfl, F⟩
        simp only [gName, List.set_cons_zero, List.set_cons_succ]
        have PWx := F.made PW nx nkd7 nwv7 nol
        have HWx := F.head HW o1a' a1a' pwa' nol
        refine ⟨_, rfl, _, rfl, x, dx, kd, pp, rr, wv, xs, o1, a1, p1, r1, pw, n1, ks, zs, rs, yw, dw, rfl, PWx, HWx, hzl, hrl, zok, rok, hn1, hn4, wIn, dwl, fun h1 h2 => hzq ((sortL_perm _).mem_iff.mp h1) ((sortL_perm _).mem_iff.mp h2), fun H2 s2 => ?_⟩
        refine ⟨_, rfl, iteF ?_⟩
        have Px : ∀ {H3 : Hp}, Same H' H3 → ProcW C H3 x dx kd pp rr wv xs (kinS ks) zs rs n1 dw := fun {H3} s => (F.same s).made PW nx nkd7 nwv7 nol
        have okS := kinS_ok hok
        have kSl := kinS_len ks
        have outL : ∀ {H3 : Hp} {c : Addr}, Same H' H3 → H3 c = none → Gm c = none := fun {H3 c} s n => (F.same s).gone n
        refine ⟨_, rfl, x, dx, _, rfl, (Px s2).hx, lkn, x, dx, kinS ks, zs, rs, n1, dw, rfl, (Px s2).at, fun H3 l1 s3 m1 e1 => ?_⟩
        have s3 := s2.trans s3
        refine ⟨_, rfl, x, dx, _, rfl, (Px s3).hx, lku, x, dx, kinS ks, zs, rs, n1, dw, rfl, (Px s3).at, okS.nd, by omega, fun H4 l2 s4 m2 _ e2 => ?_⟩
        have t4' := s4
        have s4 := s3.trans s4
        refine ⟨_, rfl, x, dx, _, rfl, (Px s4).hx, lkl, x, dx, kinS ks, zs, rs, n1, dw, rfl, (Px s4).at, okS.nd, by omega, fun H5 l3 s5 m3 _ e3 => ?_⟩
        have t5' := s5
        have s5 := s4.trans s5
        refine ⟨_, rfl, x, dx, _, rfl, (Px s5).hx, lkw, x, dx, kinS ks, zs, rs, n1, dw, rfl, (Px s5).at, fun H6 l4 ys4 s6 m4 _ e4 q4 => ?_⟩
        have t6' := s6
        have s6 := s5.trans s6
        refine ⟨_, rfl, x, dx, _, rfl, (Px s6).hx, lko, x, dx, kd, pp, rr, wv, xs, kinS ks, zs, rs, n1, dw, 0, rfl, Px s6, ways_f wIn, by omega, fun _ _ H8 l5 s8 m5 _ e5 => ?_, fun hbad => absurd hbad (by omega)⟩
        refine ⟨by show 5 ≤ sizeLine; decide, fun T nT => ⟨T, rfl, ⟨_, SqT.of upd_same⟩, ?_⟩⟩
        have wT := same_upd (o := .tup [.ref l1, .ref l2, .ref l3, .ref l4, .ref l5]) nT
        have eT : (upd H8 T (.tup [.ref l1, .ref l2, .ref l3, .ref l4, .ref l5])) T = some (.tup [.ref l1, .ref l2, .ref l3, .ref l4, .ref l5]) := upd_same
        generalize upd H8 T (.tup [.ref l1, .ref l2, .ref l3, .ref l4, .ref l5]) = H9 at wT eT ⊢
        have s89 := (s6.trans s8).trans wT
        have g1 := outL (s2) (c := l1) m1
        have hq4 := q4.len
        have bl : ∀ (z : Str), (butK (kinS ks) z).length ≤ 60 := fun z => by
          unfold butK
          rw [List.length_cons, List.length_map]
          have := List.length_filter_le (fun p : Str × Str => !decide (p.2 = z)) (kinS ks)
          omega
        have ol : (outI dw 0 dw.length).length ≤ 60 := by
          unfold outI
          refine Nat.le_trans (List.length_filterMap_le _ _) ?_
          rw [List.length_range]
          omega
        have all : ∀ l ∈ [l1, l2, l3, l4, l5], Gm l = none ∧ ∃ ys, H9 l = some (.lst ys) ∧ ys.length ≤ 60 + 0 := by
          intro l hl
          simp only [List.mem_cons, List.not_mem_nil, or_false] at hl
          rcases hl with rfl | rfl | rfl | rfl | rfl
          · exact ⟨g1, _, wT _ _ (s8 _ _ (t6' _ _ (t5' _ _ (t4' _ _ e1)))), by rw [List.length_map, List.length_map]; omega⟩
          · exact ⟨outL s3 m2, _, wT _ _ (s8 _ _ (t6' _ _ (t5' _ _ e2))), by rw [List.length_map]; exact bl _⟩
          · exact ⟨outL s4 m3, _, wT _ _ (s8 _ _ (t6' _ _ e3)), by rw [List.length_map]; exact bl _⟩
          · exact ⟨outL s5 m4, _, wT _ _ (s8 _ _ e4), by omega⟩
          · exact ⟨outL s6 m5, _, wT _ _ e5, by rw [List.length_map]; exact ol⟩
        refine for_tup (K := K) (a := T) (xs := [.ref l1, .ref l2, .ref l3, .ref l4, .ref l5]) (fun i σ H2 => ∃ y13 : Option V, σ = [some (.ref a), some (.ref b), some (.int (0 + ↑i1)), some (.ref hs), some (.ref o1), some (.ref kn), some (.ref D), some (.ref pl), some (.ref rl), y9', some (.ref x), y11', some (.int (0 + ↑k)), y13, y14'] ∧ Fr Ga H7 Gm H2 ∧ H2 T = some (.tup [.ref l1, .ref l2, .ref l3, .ref l4, .ref l5]) ∧ ∀ l ∈ [l1, l2, l3, l4, l5], Gm l = none ∧ ∃ ys, H2 l = some (.lst ys) ∧ ys.length ≤ 60 + i)
          ⟨_, rfl, F.same s89, eT, all⟩ (fun _ _ _ _ h => by
            obtain ⟨_, _, _, e, _⟩ := h
            exact SqT.of e) ?_ ?_
        · rintro i v σ H2 hv ⟨y13'', rfl, F2, eT2, hl⟩
          have hi : i < 5 := (List.getElem?_eq_some_iff.mp hv).1
          obtain ⟨l, hlm, rfl⟩ : ∃ l, l ∈ [l1, l2, l3, l4, l5] ∧ v = V.ref l := by
            have := List.mem_of_getElem? hv
            obtain ⟨l, h1, h2⟩ := List.mem_map.mp (show v ∈ [l1, l2, l3, l4, l5].map V.ref from this)
            exact ⟨l, h1, h2.symm⟩
          simp only [gName, List.set_cons_zero, List.set_cons_succ]
          obtain ⟨gl, ys, el, yl⟩ := hl l hlm
          have lT : T ≠ l := fun z => by
            rw [← z, eT2] at el
            cases el
          refine ⟨_, rfl, .inl ⟨rfl, _, SqL.of el⟩, l, _, _, rfl, rfl, el, small1000 (by omega), ?_⟩
          refine ⟨_, rfl, F2.out gl, by rw [upd_ne lT]; exact eT2, fun l6 h6 => ?_⟩
          by_cases z : l6 = l
          · rw [z]
            exact ⟨gl, _, upd_same, by rw [List.length_append]; show _ + 1 ≤ _; omega⟩
          · obtain ⟨g6, ys6, e6, y6⟩ := hl l6 h6
            exact ⟨g6, ys6, by rw [upd_ne z]; exact e6, by omega⟩
        · rintro σ H2 ⟨y13'', rfl, F2, _, _⟩
          exact ⟨_, _, _, _, rfl, F2⟩
      · rintro σ H' ⟨y11', y12', y13', y14', rfl, F⟩
        exact ⟨_, _, _, _, _, _, _, _, _, _, _, _, _, rfl, BagAt.bag (F.bag Bm gb gc)⟩
    · rintro σ G ⟨_, _, _, _, _, _, _, _, _, _, _, _, _, rfl, _⟩
      exact q G
end
end Fv


set_option Elab.async false
set_option linter.all false
set_option maxRecDepth 100000
set_option maxHeartbeats 4000000
namespace Fv
open PySem PySem.Spec PyProof.Rows L2
/-- what the written part says of the __init__ of an own error -/
structure IniF (K : PySem.W.Frag) (C f : Addr) (qual : Str) (st : Stmt) : Prop where
  ox : OexC K C
  fi : PySem.W.findIn K (.ref C) "__init__" = some (some (.ref f))
  tI : PySem.W.typeIn K (.ref f) = some (.type "function")
  fn : ∃ fd, Fun K "__init__" qual st f fd
def errM (C A : Addr) : List Value := [.ref C, .ref A, .type "ValueError", .type "Exception", .type "BaseException", .type "object"]
theorem err_no {C A D : Addr} (n1 : C ≠ D) (n2 : A ≠ D) : (errM C A).contains (.ref D) = false := by
  rw [← Bool.not_eq_true, List.contains_iff_mem]
  unfold errM
  simp only [List.mem_cons, List.not_mem_nil, or_false, Value.ref.injEq, reduceCtorEq]
  exact fun h => h.elim (fun e => n1 e.symm) fun e => n2 e.symm
theorem Mro.kit2 {K : PySem.W.Frag} {C A D : Addr} {m : List Value} (h : Mro K C (errM C A)) (hD : Mro K D m) (ht : PySem.W.typeIn K (.ref D) = some (.type "type")) (n1 : C ≠ D) (n2 : A ≠ D) : PySem.W.kitOne K (.ref C) (.ref D) = some false := by
  unfold PySem.W.kitOne
  have n : ((Value.ref C : Value) == .ref D) = false := by
    rw [beq_eq_false_iff_ne]
    exact fun e => n1 (Value.ref.inj e)
  rw [n, if_neg (by decide)]
  exact (h.cls2 hD ht).trans (congrArg some (err_no n1 n2))
theorem Mro.exm2 {K : PySem.W.Frag} {C A : Addr} {b0 : Value} {m : List Value} (h : Mro K C (errM C A)) (hA : Mro K A (b0 :: m)) (hb : (b0 :: m).contains (.type "BaseException") = true) (ht : PySem.W.typeIn K (.ref A) = some (.type "type")) : PySem.W.exmOne K (.ref C) (.ref A) = some true := by
  unfold PySem.W.exmOne
  rw [hA.sub, hb, if_pos (by rfl), h.cls2 hA ht]
  congr 1
  rw [List.contains_iff_mem]
  simp
theorem scNoWay : FnScope ["self", "index"] ["self", "index"] (defScope (inClass (top 7) 0)) := ⟨rfl, rfl, rfl, by decide +kernel, rfl, by decide +kernel, by decide +kernel⟩
theorem own_NoWay {P : Program} {w : World} {K : PySem.W.Frag} {mg : Str → Option Value} {base : Heap} {f C : Addr} {fd : FuncData} (F : Fun K "__init__" "NoWay.__init__" (inClass (top 7) 0) f fd) (O : OexC K C) (no : PySem.W.findIn K (.ref C) "index" = some none) (gC : mg "NoWay" = some (.ref C)) (iC : PySem.W.findIn K (.ref C) "__init__" = some (some (.ref f))) (tI : PySem.W.typeIn K (.ref f) = some (.type "function")) : Own1 P w K mg base "NoWay" "index" C := by
  refine ⟨O, gC, f, fd, ["self", "index"], iC, tI, F.ok scNoWay (fun vs H Q E h => ?_) (fun cdv A outer s H vs Q E hr h => ?_), F.binds fun _ _ _ _ _ _ us hl => match us, hl with | [_, _], _ => rfl⟩
  · obtain ⟨a, y, rfl, _⟩ := h
    rfl
  · obtain ⟨a, y, rfl, ha, q⟩ := h
    exact ⟨_, pss_one (ps_ost (pv 0) (pv 1)), _, rfl, _, rfl, a, C, rfl, O, no, .inl ⟨ha, q⟩⟩
theorem all_mk {l : PySem.W.OpenLaw} {w : World} {K : PySem.W.Frag} {h : Heap} {mg : Str → Option Value} {fa : Addr} (X : K.In h) (G : h.Ns mainGlobals mg) (hfa : mg "law" = some (.ref fa))
    {f0 f1 f2 f3 f4 f5 f6 f7 f8 f9 f10 f11 f12 f13 f14 f15 f16 f17 f18 f19 f20 f21 f22 f23 f24 f25 f26 f27 f28 f29 f30 f31 f32 f33 f34 f35 f36 f37 f38 f39 f40 f41 f42 mg0 mg1 mg2 mg3 mg4 mg5 mg6 mg7 mg8 mg9 mg10 mg11 C AE CW CN CK CP CY jW jN jK jP jY aP aK aW aPp aPr aPs : Addr} {oK : Obj} {tL tN : Tok}
    {od0 an0 od1 an1 od2 an2 od3 an3 od4 an4 od5 an5 od6 an6 od7 an7 od8 an8 od9 an9 od10 an10 od11 an11 od12 an12 od13 an13 od14 an14 od15 an15 od16 an16 od17 an17 od18 an18 od19 an19 od20 an20 od21 an21 od22 an22 od23 an23 od24 an24 od25 an25 od26 an26 od27 an27 od28 an28 od29 an29 od30 an30 od31 an31 od32 an32 od33 an33 od34 an34 od35 an35 od36 an36 od37 an37 od38 an38 od39 an39 od40 an40 od41 an41 od42 an42 mpd0 mpn0 mpd1 mpn1 mpd2 mpn2 mpd3 mpn3 mpd4 mpn4 mpd5 mpn5 mpd6 mpn6 mpd7 mpn7 mpd8 mpn8 mpd9 mpn9 mpd10 mpn10 mpd11 mpn11 : Option Addr} {sl0 sl1 sl2 sl3 sl4 sl5 sl6 sl7 sl8 sl9 sl10 sl11 sl12 sl13 sl14 sl15 sl16 sl17 sl18 sl19 sl20 sl21 sl22 sl23 sl24 sl25 sl26 sl27 sl28 sl29 sl30 sl31 sl32 sl33 sl34 sl35 sl36 sl37 sl38 sl39 sl40 sl41 sl42 mps0 mps1 mps2 mps3 mps4 mps5 mps6 mps7 mps8 mps9 mps10 mps11 : Array (Option Value)} {oc0 kV0 dc0 pm0 cd0 ct0 oc1 kV1 dc1 pm1 cd1 ct1 oc2 kV2 dc2 pm2 cd2 ct2 oc3 kV3 dc3 pm3 cd3 ct3 oc4 kV4 dc4 pm4 cd4 ct4 oc5 kV5 dc5 pm5 cd5 ct5 oc6 kV6 dc6 pm6 cd6 ct6 oc7 kV7 dc7 pm7 cd7 ct7 oc8 kV8 dc8 pm8 cd8 ct8 oc9 kV9 dc9 pm9 cd9 ct9 oc10 kV10 dc10 pm10 cd10 ct10 oc11 kV11 dc11 pm11 cd11 ct11 oc12 kV12 dc12 pm12 cd12 ct12 oc13 kV13 dc13 pm13 cd13 ct13 oc14 kV14 dc14 pm14 cd14 ct14 oc15 kV15 dc15 pm15 cd15 ct15 oc16 kV16 dc16 pm16 cd16 ct16 oc17 kV17 dc17 pm17 cd17 ct17 oc18 kV18 dc18 pm18 cd18 ct18 oc19 kV19 dc19 pm19 cd19 ct19 oc20 kV20 dc20 pm20 cd20 ct20 oc21 kV21 dc21 pm21 cd21 ct21 oc22 kV22 dc22 pm22 cd22 ct22 oc23 kV23 dc23 pm23 cd23 ct23 oc24 kV24 dc24 pm24 cd24 ct24 oc25 kV25 dc25 pm25 cd25 ct25 oc26 kV26 dc26 pm26 cd26 ct26 oc27 kV27 dc27 pm27 cd27 ct27 oc28 kV28 dc28 pm28 cd28 ct28 oc29 kV29 dc29 pm29 cd29 ct29 oc30 kV30 dc30 pm30 cd30 ct30 oc31 kV31 dc31 pm31 cd31 ct31 oc32 kV32 dc32 pm32 cd32 ct32 oc33 kV33 dc33 pm33 cd33 ct33 oc34 kV34 dc34 pm34 cd34 ct34 oc35 kV35 dc35 pm35 cd35 ct35 oc36 kV36 dc36 pm36 cd36 ct36 oc37 kV37 dc37 pm37 cd37 ct37 oc38 kV38 dc38 pm38 cd38 ct38 oc39 kV39 dc39 pm39 cd39 ct39 oc40 kV40 dc40 pm40 cd40 ct40 oc41 kV41 dc41 pm41 cd41 ct41 oc42 kV42 dc42 pm42 cd42 ct42 mqc0 mqV0 mqd0 mqm0 mqe0 mqt0 mqc1 mqV1 mqd1 mqm1 mqe1 mqt1 mqc2 mqV2 mqd2 mqm2 mqe2 mqt2 mqc3 mqV3 mqd3 mqm3 mqe3 mqt3 mqc4 mqV4 mqd4 mqm4 mqe4 mqt4 mqc5 mqV5 mqd5 mqm5 mqe5 mqt5 mqc6 mqV6 mqd6 mqm6 mqe6 mqt6 mqc7 mqV7 mqd7 mqm7 mqe7 mqt7 mqc8 mqV8 mqd8 mqm8 mqe8 mqt8 mqc9 mqV9 mqd9 mqm9 mqe9 mqt9 mqc10 mqV10 mqd10 mqm10 mqe10 mqt10 mqc11 mqV11 mqd11 mqm11 mqe11 mqt11 : Value}
    (eF : PySem.W.nsIn K mainGlobals "Procedure" = some (some (.ref C)))
    (tC : Cls K C)
    (tM : Mro K C [.ref C, .type "object"])
    (tH : PySem.W.findIn K (.ref C) "__class__" = some (some (.builtin "object.__class__")))
    (hn : PySem.W.specialIn K (.builtin "object.__class__") "__get__" = some (some (.builtin "getset_descriptor.__get__")))
    (hk : PySem.W.takesIn K (.builtin "object.__class__") = some true)
    (y0 : PySem.W.findIn K (.ref C) "_kinds" = some none)
    (y1 : PySem.W.findIn K (.ref C) "_params" = some none)
    (y2 : PySem.W.findIn K (.ref C) "_results" = some none)
    (y3 : PySem.W.findIn K (.ref C) "_size" = some none)
    (y4 : PySem.W.findIn K (.ref C) "_ways" = some none)
    (mk : Mk K C mg0)
    (mM1 : PropOf K C "params" aPp mg1)
    (mM2 : PropOf K C "results" aPr mg2)
    (mM3 : PropOf K C "size" aPs mg3)
    (lenE : PySem.W.findIn K (.ref C) "__len__" = some (some (.ref mg11)))
    (lenT : PySem.W.typeIn K (.ref mg11) = some (.type "function"))
    (mM4 : Meth K C "names" mg4)
    (mM5 : Meth K C "kind" mg5)
    (mM6 : Meth K C "uppers" mg6)
    (mM7 : Meth K C "lowers" mg7)
    (mM8 : Meth K C "ways" mg8)
    (mM9 : Meth K C "way" mg9)
    (mM10 : Meth K C "out" mg10)
    (ml0 : K.lookup mg0 = some ⟨mqc0, mpd0, .func (PySem.W.fnOf "__init__" "Procedure.__init__" (defArgs sPInit) (defBody sPInit) (defScope sPInit) .none mqV0 mqd0 mqm0 mpn0 mqe0 mqt0), mps0⟩)
    (mc0 : PySem.W.codeIn K mqe0 "Procedure.__init__" = true)
    (mk0 : PySem.W.keepIn K (.ref mg0) = true)
    (ml1 : K.lookup mg1 = some ⟨mqc1, mpd1, .func (PySem.W.fnOf "params" "Procedure.params" (defArgs sPp) (defBody sPp) (defScope sPp) .none mqV1 mqd1 mqm1 mpn1 mqe1 mqt1), mps1⟩)
    (mc1 : PySem.W.codeIn K mqe1 "Procedure.params" = true)
    (mk1 : PySem.W.keepIn K (.ref mg1) = true)
    (ml2 : K.lookup mg2 = some ⟨mqc2, mpd2, .func (PySem.W.fnOf "results" "Procedure.results" (defArgs sPr) (defBody sPr) (defScope sPr) .none mqV2 mqd2 mqm2 mpn2 mqe2 mqt2), mps2⟩)
    (mc2 : PySem.W.codeIn K mqe2 "Procedure.results" = true)
    (mk2 : PySem.W.keepIn K (.ref mg2) = true)
    (ml3 : K.lookup mg3 = some ⟨mqc3, mpd3, .func (PySem.W.fnOf "size" "Procedure.size" (defArgs sPs) (defBody sPs) (defScope sPs) .none mqV3 mqd3 mqm3 mpn3 mqe3 mqt3), mps3⟩)
    (mc3 : PySem.W.codeIn K mqe3 "Procedure.size" = true)
    (mk3 : PySem.W.keepIn K (.ref mg3) = true)
    (ml4 : K.lookup mg4 = some ⟨mqc4, mpd4, .func (PySem.W.fnOf "names" "Procedure.names" (defArgs sPn) (defBody sPn) (defScope sPn) .none mqV4 mqd4 mqm4 mpn4 mqe4 mqt4), mps4⟩)
    (mc4 : PySem.W.codeIn K mqe4 "Procedure.names" = true)
    (mk4 : PySem.W.keepIn K (.ref mg4) = true)
    (ml5 : K.lookup mg5 = some ⟨mqc5, mpd5, .func (PySem.W.fnOf "kind" "Procedure.kind" (defArgs sPk) (defBody sPk) (defScope sPk) .none mqV5 mqd5 mqm5 mpn5 mqe5 mqt5), mps5⟩)
    (mc5 : PySem.W.codeIn K mqe5 "Procedure.kind" = true)
    (mk5 : PySem.W.keepIn K (.ref mg5) = true)
    (ml6 : K.lookup mg6 = some ⟨mqc6, mpd6, .func (PySem.W.fnOf "uppers" "Procedure.uppers" (defArgs sPu) (defBody sPu) (defScope sPu) .none mqV6 mqd6 mqm6 mpn6 mqe6 mqt6), mps6⟩)
    (mc6 : PySem.W.codeIn K mqe6 "Procedure.uppers" = true)
    (mk6 : PySem.W.keepIn K (.ref mg6) = true)
    (ml7 : K.lookup mg7 = some ⟨mqc7, mpd7, .func (PySem.W.fnOf "lowers" "Procedure.lowers" (defArgs sPl) (defBody sPl) (defScope sPl) .none mqV7 mqd7 mqm7 mpn7 mqe7 mqt7), mps7⟩)
    (mc7 : PySem.W.codeIn K mqe7 "Procedure.lowers" = true)
    (mk7 : PySem.W.keepIn K (.ref mg7) = true)
    (ml8 : K.lookup mg8 = some ⟨mqc8, mpd8, .func (PySem.W.fnOf "ways" "Procedure.ways" (defArgs sPw) (defBody sPw) (defScope sPw) .none mqV8 mqd8 mqm8 mpn8 mqe8 mqt8), mps8⟩)
    (mc8 : PySem.W.codeIn K mqe8 "Procedure.ways" = true)
    (mk8 : PySem.W.keepIn K (.ref mg8) = true)
    (ml9 : K.lookup mg9 = some ⟨mqc9, mpd9, .func (PySem.W.fnOf "way" "Procedure.way" (defArgs sPy) (defBody sPy) (defScope sPy) .none mqV9 mqd9 mqm9 mpn9 mqe9 mqt9), mps9⟩)
    (mc9 : PySem.W.codeIn K mqe9 "Procedure.way" = true)
    (mk9 : PySem.W.keepIn K (.ref mg9) = true)
    (ml10 : K.lookup mg10 = some ⟨mqc10, mpd10, .func (PySem.W.fnOf "out" "Procedure.out" (defArgs sPo) (defBody sPo) (defScope sPo) .none mqV10 mqd10 mqm10 mpn10 mqe10 mqt10), mps10⟩)
    (mc10 : PySem.W.codeIn K mqe10 "Procedure.out" = true)
    (mk10 : PySem.W.keepIn K (.ref mg10) = true)
    (ml11 : K.lookup mg11 = some ⟨mqc11, mpd11, .func (PySem.W.fnOf "__len__" "Procedure.__len__" (defArgs sPlen) (defBody sPlen) (defScope sPlen) .none mqV11 mqd11 mqm11 mpn11 mqe11 mqt11), mps11⟩)
    (mc11 : PySem.W.codeIn K mqe11 "Procedure.__len__" = true)
    (mk11 : PySem.W.keepIn K (.ref mg11) = true)
    (eA : PySem.W.nsIn K mainGlobals "ApartError" = some (some (.ref AE)))
    (eW : PySem.W.nsIn K mainGlobals "Wrong" = some (some (.ref CW)))
    (eN : PySem.W.nsIn K mainGlobals "NoName" = some (some (.ref CN)))
    (eK : PySem.W.nsIn K mainGlobals "BadKind" = some (some (.ref CK)))
    (eP : PySem.W.nsIn K mainGlobals "NoPlace" = some (some (.ref CP)))
    (eY : PySem.W.nsIn K mainGlobals "NoWay" = some (some (.ref CY)))
    (aeM : Mro K AE [.ref AE, .type "ValueError", .type "Exception", .type "BaseException", .type "object"])
    (aeT : PySem.W.typeIn K (.ref AE) = some (.type "type"))
    (xW : ExcC K CW)
    (nW : PySem.W.findIn K (.ref CW) "place" = some none)
    (mW : Mro K CW (errM CW AE))
    (iW : IniF K CW jW "Wrong.__init__" (inClass (top 3) 0))
    (xN : ExcC K CN)
    (nN : PySem.W.findIn K (.ref CN) "name" = some none)
    (mN : Mro K CN (errM CN AE))
    (iN : IniF K CN jN "NoName.__init__" (inClass (top 4) 0))
    (xK : ExcC K CK)
    (nK : PySem.W.findIn K (.ref CK) "name" = some none)
    (mK : Mro K CK (errM CK AE))
    (iK : IniF K CK jK "BadKind.__init__" (inClass (top 5) 0))
    (xP : ExcC K CP)
    (nP : PySem.W.findIn K (.ref CP) "place" = some none)
    (mP : Mro K CP (errM CP AE))
    (iP : IniF K CP jP "NoPlace.__init__" (inClass (top 6) 0))
    (xY : ExcC K CY)
    (nY : PySem.W.findIn K (.ref CY) "index" = some none)
    (mY : Mro K CY (errM CY AE))
    (iY : IniF K CY jY "NoWay.__init__" (inClass (top 7) 0))
    (dYN : CY ≠ CN)
    (dPN : CP ≠ CN)
    (dPY : CP ≠ CY)
    (dAN : AE ≠ CN)
    (dAY : AE ≠ CY)
    (cL : PySem.W.nsIn K mainGlobals "LETTERS" = some (some (.str abc tL)))
    (cN : PySem.W.nsIn K mainGlobals "LONGEST_NAME" = some (some (.int 8 tN)))
    (cP : PySem.W.nsIn K mainGlobals "PARTS" = some (some (.ref aP)))
    (cK : PySem.W.nsIn K mainGlobals "KINDS" = some (some (.ref aK)))
    (lK : K.lookup aK = some oK)
    (tK : oK.cls = .type "tuple")
    (vK : ∃ (t1 t2 t3 : Tok) (n : Nat), oK.data = .seq #[.str "plain" t1, .str "high" t2, .str "low" t3] n)
    (cW : PySem.W.nsIn K mainGlobals "WANTED" = some (some (.ref aW)))
    (wD : WantD K w aW)
    (p0 : KDct K w aP "set" (.int 1))
    (p1 : KDct K w aP "most" (.int 2))
    (p2 : KDct K w aP "least" (.int 2))
    (p3 : KDct K w aP "call" (.int 2))
    (a0 : PySem.W.nsIn K mainGlobals "is_integer" = some (some (.ref f0)))
    (l0 : K.lookup f0 = some ⟨oc0, od0, .func (PySem.W.fnOf "is_integer" "is_integer" (defArgs sIsInt) (defBody sIsInt) (defScope sIsInt) .none kV0 dc0 pm0 an0 cd0 ct0), sl0⟩)
    (c0 : PySem.W.codeIn K cd0 "is_integer" = true)
    (k0 : PySem.W.keepIn K (.ref f0) = true)
    (a1 : PySem.W.nsIn K mainGlobals "is_name" = some (some (.ref f1)))
    (l1 : K.lookup f1 = some ⟨oc1, od1, .func (PySem.W.fnOf "is_name" "is_name" (defArgs sIsName) (defBody sIsName) (defScope sIsName) .none kV1 dc1 pm1 an1 cd1 ct1), sl1⟩)
    (c1 : PySem.W.codeIn K cd1 "is_name" = true)
    (k1 : PySem.W.keepIn K (.ref f1) = true)
    (a2 : PySem.W.nsIn K mainGlobals "is_source" = some (some (.ref f2)))
    (l2 : K.lookup f2 = some ⟨oc2, od2, .func (PySem.W.fnOf "is_source" "is_source" (defArgs sIsSource) (defBody sIsSource) (defScope sIsSource) .none kV2 dc2 pm2 an2 cd2 ct2), sl2⟩)
    (c2 : PySem.W.codeIn K cd2 "is_source" = true)
    (k2 : PySem.W.keepIn K (.ref f2) = true)
    (a3 : PySem.W.nsIn K mainGlobals "is_row" = some (some (.ref f3)))
    (l3 : K.lookup f3 = some ⟨oc3, od3, .func (PySem.W.fnOf "is_row" "is_row" (defArgs sIsRow) (defBody sIsRow) (defScope sIsRow) .none kV3 dc3 pm3 an3 cd3 ct3), sl3⟩)
    (c3 : PySem.W.codeIn K cd3 "is_row" = true)
    (k3 : PySem.W.keepIn K (.ref f3) = true)
    (a4 : PySem.W.nsIn K mainGlobals "is_kind" = some (some (.ref f4)))
    (l4 : K.lookup f4 = some ⟨oc4, od4, .func (PySem.W.fnOf "is_kind" "is_kind" (defArgs sIsKind) (defBody sIsKind) (defScope sIsKind) .none kV4 dc4 pm4 an4 cd4 ct4), sl4⟩)
    (c4 : PySem.W.codeIn K cd4 "is_kind" = true)
    (k4 : PySem.W.keepIn K (.ref f4) = true)
    (a5 : PySem.W.nsIn K mainGlobals "fits" = some (some (.ref f5)))
    (l5 : K.lookup f5 = some ⟨oc5, od5, .func (PySem.W.fnOf "fits" "fits" (defArgs sFits) (defBody sFits) (defScope sFits) .none kV5 dc5 pm5 an5 cd5 ct5), sl5⟩)
    (c5 : PySem.W.codeIn K cd5 "fits" = true)
    (k5 : PySem.W.keepIn K (.ref f5) = true)
    (a6 : PySem.W.nsIn K mainGlobals "check_arguments" = some (some (.ref f6)))
    (l6 : K.lookup f6 = some ⟨oc6, od6, .func (PySem.W.fnOf "check_arguments" "check_arguments" (defArgs sChk) (defBody sChk) (defScope sChk) .none kV6 dc6 pm6 an6 cd6 ct6), sl6⟩)
    (c6 : PySem.W.codeIn K cd6 "check_arguments" = true)
    (k6 : PySem.W.keepIn K (.ref f6) = true)
    (a7 : PySem.W.nsIn K mainGlobals "are_names" = some (some (.ref f7)))
    (l7 : K.lookup f7 = some ⟨oc7, od7, .func (PySem.W.fnOf "are_names" "are_names" (defArgs sAreNames) (defBody sAreNames) (defScope sAreNames) .none kV7 dc7 pm7 an7 cd7 ct7), sl7⟩)
    (c7 : PySem.W.codeIn K cd7 "are_names" = true)
    (k7 : PySem.W.keepIn K (.ref f7) = true)
    (a8 : PySem.W.nsIn K mainGlobals "is_statement" = some (some (.ref f8)))
    (l8 : K.lookup f8 = some ⟨oc8, od8, .func (PySem.W.fnOf "is_statement" "is_statement" (defArgs sIsSt) (defBody sIsSt) (defScope sIsSt) .none kV8 dc8 pm8 an8 cd8 ct8), sl8⟩)
    (c8 : PySem.W.codeIn K cd8 "is_statement" = true)
    (k8 : PySem.W.keepIn K (.ref f8) = true)
    (a9 : PySem.W.nsIn K mainGlobals "frozen" = some (some (.ref f9)))
    (l9 : K.lookup f9 = some ⟨oc9, od9, .func (PySem.W.fnOf "frozen" "frozen" (defArgs sFrozen) (defBody sFrozen) (defScope sFrozen) .none kV9 dc9 pm9 an9 cd9 ct9), sl9⟩)
    (c9 : PySem.W.codeIn K cd9 "frozen" = true)
    (k9 : PySem.W.keepIn K (.ref f9) = true)
    (a10 : PySem.W.nsIn K mainGlobals "sets" = some (some (.ref f10)))
    (l10 : K.lookup f10 = some ⟨oc10, od10, .func (PySem.W.fnOf "sets" "sets" (defArgs sSets) (defBody sSets) (defScope sSets) .none kV10 dc10 pm10 an10 cd10 ct10), sl10⟩)
    (c10 : PySem.W.codeIn K cd10 "sets" = true)
    (k10 : PySem.W.keepIn K (.ref f10) = true)
    (a11 : PySem.W.nsIn K mainGlobals "reads" = some (some (.ref f11)))
    (l11 : K.lookup f11 = some ⟨oc11, od11, .func (PySem.W.fnOf "reads" "reads" (defArgs sReads) (defBody sReads) (defScope sReads) .none kV11 dc11 pm11 an11 cd11 ct11), sl11⟩)
    (c11 : PySem.W.codeIn K cd11 "reads" = true)
    (k11 : PySem.W.keepIn K (.ref f11) = true)
    (a12 : PySem.W.nsIn K mainGlobals "_parts" = some (some (.ref f12)))
    (l12 : K.lookup f12 = some ⟨oc12, od12, .func (PySem.W.fnOf "_parts" "_parts" (defArgs sParts) (defBody sParts) (defScope sParts) .none kV12 dc12 pm12 an12 cd12 ct12), sl12⟩)
    (c12 : PySem.W.codeIn K cd12 "_parts" = true)
    (k12 : PySem.W.keepIn K (.ref f12) = true)
    (a13 : PySem.W.nsIn K mainGlobals "_are_settings" = some (some (.ref f13)))
    (l13 : K.lookup f13 = some ⟨oc13, od13, .func (PySem.W.fnOf "_are_settings" "_are_settings" (defArgs sAreSettings) (defBody sAreSettings) (defScope sAreSettings) .none kV13 dc13 pm13 an13 cd13 ct13), sl13⟩)
    (c13 : PySem.W.codeIn K cd13 "_are_settings" = true)
    (k13 : PySem.W.keepIn K (.ref f13) = true)
    (a14 : PySem.W.nsIn K mainGlobals "_is_setting" = some (some (.ref f14)))
    (l14 : K.lookup f14 = some ⟨oc14, od14, .func (PySem.W.fnOf "_is_setting" "_is_setting" (defArgs sIsSetting) (defBody sIsSetting) (defScope sIsSetting) .none kV14 dc14 pm14 an14 cd14 ct14), sl14⟩)
    (c14 : PySem.W.codeIn K cd14 "_is_setting" = true)
    (k14 : PySem.W.keepIn K (.ref f14) = true)
    (a15 : PySem.W.nsIn K mainGlobals "_are_parts" = some (some (.ref f15)))
    (l15 : K.lookup f15 = some ⟨oc15, od15, .func (PySem.W.fnOf "_are_parts" "_are_parts" (defArgs sAreParts) (defBody sAreParts) (defScope sAreParts) .none kV15 dc15 pm15 an15 cd15 ct15), sl15⟩)
    (c15 : PySem.W.codeIn K cd15 "_are_parts" = true)
    (k15 : PySem.W.keepIn K (.ref f15) = true)
    (a16 : PySem.W.nsIn K mainGlobals "_is_part" = some (some (.ref f16)))
    (l16 : K.lookup f16 = some ⟨oc16, od16, .func (PySem.W.fnOf "_is_part" "_is_part" (defArgs sIsPart) (defBody sIsPart) (defScope sIsPart) .none kV16 dc16 pm16 an16 cd16 ct16), sl16⟩)
    (c16 : PySem.W.codeIn K cd16 "_is_part" = true)
    (k16 : PySem.W.keepIn K (.ref f16) = true)
    (a17 : PySem.W.nsIn K mainGlobals "_are_kinds" = some (some (.ref f17)))
    (l17 : K.lookup f17 = some ⟨oc17, od17, .func (PySem.W.fnOf "_are_kinds" "_are_kinds" (defArgs sAreKinds) (defBody sAreKinds) (defScope sAreKinds) .none kV17 dc17 pm17 an17 cd17 ct17), sl17⟩)
    (c17 : PySem.W.codeIn K cd17 "_are_kinds" = true)
    (k17 : PySem.W.keepIn K (.ref f17) = true)
    (a18 : PySem.W.nsIn K mainGlobals "_are_ways" = some (some (.ref f18)))
    (l18 : K.lookup f18 = some ⟨oc18, od18, .func (PySem.W.fnOf "_are_ways" "_are_ways" (defArgs sAreWays) (defBody sAreWays) (defScope sAreWays) .none kV18 dc18 pm18 an18 cd18 ct18), sl18⟩)
    (c18 : PySem.W.codeIn K cd18 "_are_ways" = true)
    (k18 : PySem.W.keepIn K (.ref f18) = true)
    (a19 : PySem.W.nsIn K mainGlobals "_is_way" = some (some (.ref f19)))
    (l19 : K.lookup f19 = some ⟨oc19, od19, .func (PySem.W.fnOf "_is_way" "_is_way" (defArgs sIsWay) (defBody sIsWay) (defScope sIsWay) .none kV19 dc19 pm19 an19 cd19 ct19), sl19⟩)
    (c19 : PySem.W.codeIn K cd19 "_is_way" = true)
    (k19 : PySem.W.keepIn K (.ref f19) = true)
    (a20 : PySem.W.nsIn K mainGlobals "_is_place" = some (some (.ref f20)))
    (l20 : K.lookup f20 = some ⟨oc20, od20, .func (PySem.W.fnOf "_is_place" "_is_place" (defArgs sIsPlace) (defBody sIsPlace) (defScope sIsPlace) .none kV20 dc20 pm20 an20 cd20 ct20), sl20⟩)
    (c20 : PySem.W.codeIn K cd20 "_is_place" = true)
    (k20 : PySem.W.keepIn K (.ref f20) = true)
    (a21 : PySem.W.nsIn K mainGlobals "_check_names" = some (some (.ref f21)))
    (l21 : K.lookup f21 = some ⟨oc21, od21, .func (PySem.W.fnOf "_check_names" "_check_names" (defArgs sChkN) (defBody sChkN) (defScope sChkN) .none kV21 dc21 pm21 an21 cd21 ct21), sl21⟩)
    (c21 : PySem.W.codeIn K cd21 "_check_names" = true)
    (k21 : PySem.W.keepIn K (.ref f21) = true)
    (a22 : PySem.W.nsIn K mainGlobals "_check_places" = some (some (.ref f22)))
    (l22 : K.lookup f22 = some ⟨oc22, od22, .func (PySem.W.fnOf "_check_places" "_check_places" (defArgs sChkP) (defBody sChkP) (defScope sChkP) .none kV22 dc22 pm22 an22 cd22 ct22), sl22⟩)
    (c22 : PySem.W.codeIn K cd22 "_check_places" = true)
    (k22 : PySem.W.keepIn K (.ref f22) = true)
    (a23 : PySem.W.nsIn K mainGlobals "_check_kinds" = some (some (.ref f23)))
    (l23 : K.lookup f23 = some ⟨oc23, od23, .func (PySem.W.fnOf "_check_kinds" "_check_kinds" (defArgs sChkK) (defBody sChkK) (defScope sChkK) .none kV23 dc23 pm23 an23 cd23 ct23), sl23⟩)
    (c23 : PySem.W.codeIn K cd23 "_check_kinds" = true)
    (k23 : PySem.W.keepIn K (.ref f23) = true)
    (a24 : PySem.W.nsIn K mainGlobals "_flows" = some (some (.ref f24)))
    (l24 : K.lookup f24 = some ⟨oc24, od24, .func (PySem.W.fnOf "_flows" "_flows" (defArgs sFlows) (defBody sFlows) (defScope sFlows) .none kV24 dc24 pm24 an24 cd24 ct24), sl24⟩)
    (c24 : PySem.W.codeIn K cd24 "_flows" = true)
    (k24 : PySem.W.keepIn K (.ref f24) = true)
    (a25 : PySem.W.nsIn K mainGlobals "_law_bag" = some (some (.ref f25)))
    (l25 : K.lookup f25 = some ⟨oc25, od25, .func (PySem.W.fnOf "_law_bag" "_law_bag" (defArgs sBag) (defBody sBag) (defScope sBag) .none kV25 dc25 pm25 an25 cd25 ct25), sl25⟩)
    (c25 : PySem.W.codeIn K cd25 "_law_bag" = true)
    (k25 : PySem.W.keepIn K (.ref f25) = true)
    (a26 : PySem.W.nsIn K mainGlobals "_law_take" = some (some (.ref f26)))
    (l26 : K.lookup f26 = some ⟨oc26, od26, .func (PySem.W.fnOf "_law_take" "_law_take" (defArgs sTake) (defBody sTake) (defScope sTake) .none kV26 dc26 pm26 an26 cd26 ct26), sl26⟩)
    (c26 : PySem.W.codeIn K cd26 "_law_take" = true)
    (k26 : PySem.W.keepIn K (.ref f26) = true)
    (a27 : PySem.W.nsIn K mainGlobals "_law_alike" = some (some (.ref f27)))
    (l27 : K.lookup f27 = some ⟨oc27, od27, .func (PySem.W.fnOf "_law_alike" "_law_alike" (defArgs sAlike) (defBody sAlike) (defScope sAlike) .none kV27 dc27 pm27 an27 cd27 ct27), sl27⟩)
    (c27 : PySem.W.codeIn K cd27 "_law_alike" = true)
    (k27 : PySem.W.keepIn K (.ref f27) = true)
    (a28 : PySem.W.nsIn K mainGlobals "_law_mixed" = some (some (.ref f28)))
    (l28 : K.lookup f28 = some ⟨oc28, od28, .func (PySem.W.fnOf "_law_mixed" "_law_mixed" (defArgs sMixed) (defBody sMixed) (defScope sMixed) .none kV28 dc28 pm28 an28 cd28 ct28), sl28⟩)
    (c28 : PySem.W.codeIn K cd28 "_law_mixed" = true)
    (k28 : PySem.W.keepIn K (.ref f28) = true)
    (a29 : PySem.W.nsIn K mainGlobals "_law_names" = some (some (.ref f29)))
    (l29 : K.lookup f29 = some ⟨oc29, od29, .func (PySem.W.fnOf "_law_names" "_law_names" (defArgs sNames) (defBody sNames) (defScope sNames) .none kV29 dc29 pm29 an29 cd29 ct29), sl29⟩)
    (c29 : PySem.W.codeIn K cd29 "_law_names" = true)
    (k29 : PySem.W.keepIn K (.ref f29) = true)
    (a30 : PySem.W.nsIn K mainGlobals "_law_number" = some (some (.ref f30)))
    (l30 : K.lookup f30 = some ⟨oc30, od30, .func (PySem.W.fnOf "_law_number" "_law_number" (defArgs sNumber) (defBody sNumber) (defScope sNumber) .none kV30 dc30 pm30 an30 cd30 ct30), sl30⟩)
    (c30 : PySem.W.codeIn K cd30 "_law_number" = true)
    (k30 : PySem.W.keepIn K (.ref f30) = true)
    (a31 : PySem.W.nsIn K mainGlobals "_law_kinds" = some (some (.ref f31)))
    (l31 : K.lookup f31 = some ⟨oc31, od31, .func (PySem.W.fnOf "_law_kinds" "_law_kinds" (defArgs sKinds) (defBody sKinds) (defScope sKinds) .none kV31 dc31 pm31 an31 cd31 ct31), sl31⟩)
    (c31 : PySem.W.codeIn K cd31 "_law_kinds" = true)
    (k31 : PySem.W.keepIn K (.ref f31) = true)
    (a32 : PySem.W.nsIn K mainGlobals "_law_part" = some (some (.ref f32)))
    (l32 : K.lookup f32 = some ⟨oc32, od32, .func (PySem.W.fnOf "_law_part" "_law_part" (defArgs sPart) (defBody sPart) (defScope sPart) .none kV32 dc32 pm32 an32 cd32 ct32), sl32⟩)
    (c32 : PySem.W.codeIn K cd32 "_law_part" = true)
    (k32 : PySem.W.keepIn K (.ref f32) = true)
    (a33 : PySem.W.nsIn K mainGlobals "_law_statement" = some (some (.ref f33)))
    (l33 : K.lookup f33 = some ⟨oc33, od33, .func (PySem.W.fnOf "_law_statement" "_law_statement" (defArgs sSt) (defBody sSt) (defScope sSt) .none kV33 dc33 pm33 an33 cd33 ct33), sl33⟩)
    (c33 : PySem.W.codeIn K cd33 "_law_statement" = true)
    (k33 : PySem.W.keepIn K (.ref f33) = true)
    (a34 : PySem.W.nsIn K mainGlobals "_law_call" = some (some (.ref f34)))
    (l34 : K.lookup f34 = some ⟨oc34, od34, .func (PySem.W.fnOf "_law_call" "_law_call" (defArgs sCall) (defBody sCall) (defScope sCall) .none kV34 dc34 pm34 an34 cd34 ct34), sl34⟩)
    (c34 : PySem.W.codeIn K cd34 "_law_call" = true)
    (k34 : PySem.W.keepIn K (.ref f34) = true)
    (a35 : PySem.W.nsIn K mainGlobals "_law_head" = some (some (.ref f35)))
    (l35 : K.lookup f35 = some ⟨oc35, od35, .func (PySem.W.fnOf "_law_head" "_law_head" (defArgs sHead) (defBody sHead) (defScope sHead) .none kV35 dc35 pm35 an35 cd35 ct35), sl35⟩)
    (c35 : PySem.W.codeIn K cd35 "_law_head" = true)
    (k35 : PySem.W.keepIn K (.ref f35) = true)
    (a36 : PySem.W.nsIn K mainGlobals "_law_ways" = some (some (.ref f36)))
    (l36 : K.lookup f36 = some ⟨oc36, od36, .func (PySem.W.fnOf "_law_ways" "_law_ways" (defArgs sWays) (defBody sWays) (defScope sWays) .none kV36 dc36 pm36 an36 cd36 ct36), sl36⟩)
    (c36 : PySem.W.codeIn K cd36 "_law_ways" = true)
    (k36 : PySem.W.keepIn K (.ref f36) = true)
    (a37 : PySem.W.nsIn K mainGlobals "_law_five" = some (some (.ref f37)))
    (l37 : K.lookup f37 = some ⟨oc37, od37, .func (PySem.W.fnOf "_law_five" "_law_five" (defArgs sFive) (defBody sFive) (defScope sFive) .none kV37 dc37 pm37 an37 cd37 ct37), sl37⟩)
    (c37 : PySem.W.codeIn K cd37 "_law_five" = true)
    (k37 : PySem.W.keepIn K (.ref f37) = true)
    (a38 : PySem.W.nsIn K mainGlobals "_law_due_five" = some (some (.ref f38)))
    (l38 : K.lookup f38 = some ⟨oc38, od38, .func (PySem.W.fnOf "_law_due_five" "_law_due_five" (defArgs sDueFive) (defBody sDueFive) (defScope sDueFive) .none kV38 dc38 pm38 an38 cd38 ct38), sl38⟩)
    (c38 : PySem.W.codeIn K cd38 "_law_due_five" = true)
    (k38 : PySem.W.keepIn K (.ref f38) = true)
    (a39 : PySem.W.nsIn K mainGlobals "_law_loose" = some (some (.ref f39)))
    (l39 : K.lookup f39 = some ⟨oc39, od39, .func (PySem.W.fnOf "_law_loose" "_law_loose" (defArgs sLoose) (defBody sLoose) (defScope sLoose) .none kV39 dc39 pm39 an39 cd39 ct39), sl39⟩)
    (c39 : PySem.W.codeIn K cd39 "_law_loose" = true)
    (k39 : PySem.W.keepIn K (.ref f39) = true)
    (a40 : PySem.W.nsIn K mainGlobals "_law_asked" = some (some (.ref f40)))
    (l40 : K.lookup f40 = some ⟨oc40, od40, .func (PySem.W.fnOf "_law_asked" "_law_asked" (defArgs sAsked) (defBody sAsked) (defScope sAsked) .none kV40 dc40 pm40 an40 cd40 ct40), sl40⟩)
    (c40 : PySem.W.codeIn K cd40 "_law_asked" = true)
    (k40 : PySem.W.keepIn K (.ref f40) = true)
    (a41 : PySem.W.nsIn K mainGlobals "_law_right" = some (some (.ref f41)))
    (l41 : K.lookup f41 = some ⟨oc41, od41, .func (PySem.W.fnOf "_law_right" "_law_right" (defArgs sRight) (defBody sRight) (defScope sRight) .none kV41 dc41 pm41 an41 cd41 ct41), sl41⟩)
    (c41 : PySem.W.codeIn K cd41 "_law_right" = true)
    (k41 : PySem.W.keepIn K (.ref f41) = true)
    (a42 : PySem.W.nsIn K mainGlobals "law" = some (some (.ref f42)))
    (l42 : K.lookup f42 = some ⟨oc42, od42, .func (PySem.W.fnOf "law" "law" (defArgs sLaw) (defBody sLaw) (defScope sLaw) .none kV42 dc42 pm42 an42 cd42 ct42), sl42⟩)
    (c42 : PySem.W.codeIn K cd42 "law" = true)
    (k42 : PySem.W.keepIn K (.ref f42) = true)
    (z0 : PySem.W.nsIn K mainGlobals "abs" = some none)
    (z1 : PySem.W.nsIn K mainGlobals "int" = some none)
    (z2 : PySem.W.nsIn K mainGlobals "len" = some none)
    (z3 : PySem.W.nsIn K mainGlobals "isinstance" = some none)
    (z4 : PySem.W.nsIn K mainGlobals "bool" = some none)
    (z5 : PySem.W.nsIn K mainGlobals "str" = some none)
    (z6 : PySem.W.nsIn K mainGlobals "all" = some none)
    (z7 : PySem.W.nsIn K mainGlobals "range" = some none)
    (z8 : PySem.W.nsIn K mainGlobals "repr" = some none)
    (z9 : PySem.W.nsIn K mainGlobals "list" = some none)
    (z10 : PySem.W.nsIn K mainGlobals "tuple" = some none)
    (z11 : PySem.W.nsIn K mainGlobals "dict" = some none)
    (z12 : PySem.W.nsIn K mainGlobals "sorted" = some none)
    (z13 : PySem.W.nsIn K mainGlobals "enumerate" = some none) :
    ∃ fd : FuncData, (∀ (s : Shared) (v : Value), BindsTo s fd ⟨[v], []⟩ [("_law_script", v)]) ∧ ∀ base : Heap, K.In base → base.Ns mainGlobals mg → FnG l.prog w K mg base 10 fa fd ["_law_script"] (spLaw K) := by
  have e := hfa.symm.trans (PySem.W.mg_of X G a42)
  cases e
  have F0 := fun_mk (st := sIsInt) l0 c0 k0
  have b0 := F0.binds (ps := ["thing"]) fun _ _ _ _ _ _ us hl => match us, hl with | [_], _ => rfl
  have F1 := fun_mk (st := sIsName) l1 c1 k1
  have b1 := F1.binds (ps := ["thing"]) fun _ _ _ _ _ _ us hl => match us, hl with | [_], _ => rfl
  have F2 := fun_mk (st := sIsSource) l2 c2 k2
  have b2 := F2.binds (ps := ["thing"]) fun _ _ _ _ _ _ us hl => match us, hl with | [_], _ => rfl
  have F3 := fun_mk (st := sIsRow) l3 c3 k3
  have b3 := F3.binds (ps := ["thing"]) fun _ _ _ _ _ _ us hl => match us, hl with | [_], _ => rfl
  have F4 := fun_mk (st := sIsKind) l4 c4 k4
  have b4 := F4.binds (ps := ["thing"]) fun _ _ _ _ _ _ us hl => match us, hl with | [_], _ => rfl
  have F5 := fun_mk (st := sFits) l5 c5 k5
  have b5 := F5.binds (ps := ["part", "kind"]) fun _ _ _ _ _ _ us hl => match us, hl with | [_, _], _ => rfl
  have F6 := fun_mk (st := sChk) l6 c6 k6
  have b6 := F6.binds (ps := ["rights"]) fun _ _ _ _ _ _ us hl => match us, hl with | [_], _ => rfl
  have F7 := fun_mk (st := sAreNames) l7 c7 k7
  have b7 := F7.binds (ps := ["thing"]) fun _ _ _ _ _ _ us hl => match us, hl with | [_], _ => rfl
  have F8 := fun_mk (st := sIsSt) l8 c8 k8
  have b8 := F8.binds (ps := ["thing"]) fun _ _ _ _ _ _ us hl => match us, hl with | [_], _ => rfl
  have F9 := fun_mk (st := sFrozen) l9 c9 k9
  have b9 := F9.binds (ps := ["statement"]) fun _ _ _ _ _ _ us hl => match us, hl with | [_], _ => rfl
  have F10 := fun_mk (st := sSets) l10 c10 k10
  have b10 := F10.binds (ps := ["statement"]) fun _ _ _ _ _ _ us hl => match us, hl with | [_], _ => rfl
  have F11 := fun_mk (st := sReads) l11 c11 k11
  have b11 := F11.binds (ps := ["statement"]) fun _ _ _ _ _ _ us hl => match us, hl with | [_], _ => rfl
  have F12 := fun_mk (st := sParts) l12 c12 k12
  have b12 := F12.binds (ps := ["statement"]) fun _ _ _ _ _ _ us hl => match us, hl with | [_], _ => rfl
  have F13 := fun_mk (st := sAreSettings) l13 c13 k13
  have b13 := F13.binds (ps := ["thing"]) fun _ _ _ _ _ _ us hl => match us, hl with | [_], _ => rfl
  have F14 := fun_mk (st := sIsSetting) l14 c14 k14
  have b14 := F14.binds (ps := ["thing"]) fun _ _ _ _ _ _ us hl => match us, hl with | [_], _ => rfl
  have F15 := fun_mk (st := sAreParts) l15 c15 k15
  have b15 := F15.binds (ps := ["thing"]) fun _ _ _ _ _ _ us hl => match us, hl with | [_], _ => rfl
  have F16 := fun_mk (st := sIsPart) l16 c16 k16
  have b16 := F16.binds (ps := ["thing"]) fun _ _ _ _ _ _ us hl => match us, hl with | [_], _ => rfl
  have F17 := fun_mk (st := sAreKinds) l17 c17 k17
  have b17 := F17.binds (ps := ["thing"]) fun _ _ _ _ _ _ us hl => match us, hl with | [_], _ => rfl
  have F18 := fun_mk (st := sAreWays) l18 c18 k18
  have b18 := F18.binds (ps := ["thing"]) fun _ _ _ _ _ _ us hl => match us, hl with | [_], _ => rfl
  have F19 := fun_mk (st := sIsWay) l19 c19 k19
  have b19 := F19.binds (ps := ["thing"]) fun _ _ _ _ _ _ us hl => match us, hl with | [_], _ => rfl
  have F20 := fun_mk (st := sIsPlace) l20 c20 k20
  have b20 := F20.binds (ps := ["thing"]) fun _ _ _ _ _ _ us hl => match us, hl with | [_], _ => rfl
  have F21 := fun_mk (st := sChkN) l21 c21 k21
  have b21 := F21.binds (ps := ["kinds", "ends", "ways"]) fun _ _ _ _ _ _ us hl => match us, hl with | [_, _, _], _ => rfl
  have F22 := fun_mk (st := sChkP) l22 c22 k22
  have b22 := F22.binds (ps := ["size", "ways"]) fun _ _ _ _ _ _ us hl => match us, hl with | [_, _], _ => rfl
  have F23 := fun_mk (st := sChkK) l23 c23 k23
  have b23 := F23.binds (ps := ["kinds", "ways"]) fun _ _ _ _ _ _ us hl => match us, hl with | [_, _], _ => rfl
  have F24 := fun_mk (st := sFlows) l24 c24 k24
  have b24 := F24.binds (ps := ["statement"]) fun _ _ _ _ _ _ us hl => match us, hl with | [_], _ => rfl
  have F25 := fun_mk (st := sBag) l25 c25 k25
  have b25 := F25.binds (ps := ["_law_script"]) fun _ _ _ _ _ _ us hl => match us, hl with | [_], _ => rfl
  have F26 := fun_mk (st := sTake) l26 c26 k26
  have b26 := F26.binds (ps := ["_law_bag_here", "_law_many"]) fun _ _ _ _ _ _ us hl => match us, hl with | [_, _], _ => rfl
  have F27 := fun_mk (st := sAlike) l27 c27 k27
  have b27 := bindG_of F27 (ps := ["_law_found", "_law_due"]) fun _ _ _ _ _ _ us hl => match us, hl with | [_, _], _ => rfl
  have F28 := fun_mk (st := sMixed) l28 c28 k28
  have b28 := F28.binds (ps := ["_law_bag_here", "_law_things"]) fun _ _ _ _ _ _ us hl => match us, hl with | [_, _], _ => rfl
  have F29 := fun_mk (st := sNames) l29 c29 k29
  have b29 := F29.binds (ps := ["_law_bag_here", "_law_many"]) fun _ _ _ _ _ _ us hl => match us, hl with | [_, _], _ => rfl
  have F30 := fun_mk (st := sNumber) l30 c30 k30
  have b30 := F30.binds (ps := ["_law_bag_here"]) fun _ _ _ _ _ _ us hl => match us, hl with | [_], _ => rfl
  have F31 := fun_mk (st := sKinds) l31 c31 k31
  have b31 := F31.binds (ps := ["_law_bag_here", "_law_names_here"]) fun _ _ _ _ _ _ us hl => match us, hl with | [_, _], _ => rfl
  have F32 := fun_mk (st := sPart) l32 c32 k32
  have b32 := F32.binds (ps := ["_law_bag_here", "_law_kinds_here", "_law_kind"]) fun _ _ _ _ _ _ us hl => match us, hl with | [_, _, _], _ => rfl
  have F33 := fun_mk (st := sSt) l33 c33 k33
  have b33 := F33.binds (ps := ["_law_bag_here", "_law_kinds_here"]) fun _ _ _ _ _ _ us hl => match us, hl with | [_, _], _ => rfl
  have F34 := fun_mk (st := sCall) l34 c34 k34
  have b34 := F34.binds (ps := ["_law_bag_here", "_law_kinds_here", "_law_name", "_law_other"]) fun _ _ _ _ _ _ us hl => match us, hl with | [_, _, _, _], _ => rfl
  have F35 := fun_mk (st := sHead) l35 c35 k35
  have b35 := F35.binds (ps := ["_law_bag_here"]) fun _ _ _ _ _ _ us hl => match us, hl with | [_], _ => rfl
  have F36 := fun_mk (st := sWays) l36 c36 k36
  have b36 := F36.binds (ps := ["_law_bag_here", "_law_heads", "_law_name", "_law_most"]) fun _ _ _ _ _ _ us hl => match us, hl with | [_, _, _, _], _ => rfl
  have F37 := fun_mk (st := sFive) l37 c37 k37
  have b37 := F37.binds (ps := ["_law_made"]) fun _ _ _ _ _ _ us hl => match us, hl with | [_], _ => rfl
  have F38 := fun_mk (st := sDueFive) l38 c38 k38
  have b38 := F38.binds (ps := ["_law_head_here"]) fun _ _ _ _ _ _ us hl => match us, hl with | [_], _ => rfl
  have F39 := fun_mk (st := sLoose) l39 c39 k39
  have b39 := F39.binds (ps := ["_law_bag_here", "_law_statement_here"]) fun _ _ _ _ _ _ us hl => match us, hl with | [_, _], _ => rfl
  have F40 := fun_mk (st := sAsked) l40 c40 k40
  have b40 := F40.binds (ps := ["_law_made", "_law_style", "_law_value"]) fun _ _ _ _ _ _ us hl => match us, hl with | [_, _, _], _ => rfl
  have F41 := fun_mk (st := sRight) l41 c41 k41
  have b41 := bindG_of F41 (ps := ["_law_made", "_law_head_here"]) fun _ _ _ _ _ _ us hl => match us, hl with | [_, _], _ => rfl
  have F42 := fun_mk (st := sLaw) l42 c42 k42
  have mF0 := fun_mk (st := sPInit) ml0 mc0 mk0
  have mb0 := mF0.binds (ps := ["self", "names", "params", "results", "size", "ways"]) fun _ _ _ _ _ _ us hl => match us, hl with | [_, _, _, _, _, _], _ => rfl
  have mF1 := fun_mk (st := sPp) ml1 mc1 mk1
  have mb1 := mF1.binds (ps := ["self"]) fun _ _ _ _ _ _ us hl => match us, hl with | [_], _ => rfl
  have mF2 := fun_mk (st := sPr) ml2 mc2 mk2
  have mb2 := mF2.binds (ps := ["self"]) fun _ _ _ _ _ _ us hl => match us, hl with | [_], _ => rfl
  have mF3 := fun_mk (st := sPs) ml3 mc3 mk3
  have mb3 := mF3.binds (ps := ["self"]) fun _ _ _ _ _ _ us hl => match us, hl with | [_], _ => rfl
  have mF4 := fun_mk (st := sPn) ml4 mc4 mk4
  have mb4 := mF4.binds (ps := ["self"]) fun _ _ _ _ _ _ us hl => match us, hl with | [_], _ => rfl
  have mF5 := fun_mk (st := sPk) ml5 mc5 mk5
  have mb5 := mF5.binds (ps := ["self", "source"]) fun _ _ _ _ _ _ us hl => match us, hl with | [_, _], _ => rfl
  have mF6 := fun_mk (st := sPu) ml6 mc6 mk6
  have mb6 := mF6.binds (ps := ["self"]) fun _ _ _ _ _ _ us hl => match us, hl with | [_], _ => rfl
  have mF7 := fun_mk (st := sPl) ml7 mc7 mk7
  have mb7 := mF7.binds (ps := ["self"]) fun _ _ _ _ _ _ us hl => match us, hl with | [_], _ => rfl
  have mF8 := fun_mk (st := sPw) ml8 mc8 mk8
  have mb8 := mF8.binds (ps := ["self"]) fun _ _ _ _ _ _ us hl => match us, hl with | [_], _ => rfl
  have mF9 := fun_mk (st := sPy) ml9 mc9 mk9
  have mb9 := mF9.binds (ps := ["self", "index"]) fun _ _ _ _ _ _ us hl => match us, hl with | [_, _], _ => rfl
  have mF10 := fun_mk (st := sPo) ml10 mc10 mk10
  have mb10 := mF10.binds (ps := ["self", "place"]) fun _ _ _ _ _ _ us hl => match us, hl with | [_, _], _ => rfl
  have mF11 := fun_mk (st := sPlen) ml11 mc11 mk11
  have mb11 := mF11.binds (ps := ["self"]) fun _ _ _ _ _ _ us hl => match us, hl with | [_], _ => rfl
  have pP : ∀ z : Str, z = "most" ∨ z = "least" ∨ z = "call" → KDct K w aP z (.int 2) := fun z hz => by
    rcases hz with rfl | rfl | rfl
    · exact p1
    · exact p2
    · exact p3
  obtain ⟨t1, t2, t3, nuK, vK⟩ := vK
  have hKi : ∀ H, SqT K H aK kindsV := fun H => .inr ⟨oK, _, nuK, lK, tK, vK, by show 3 ≤ sizeLine; decide, .cons ⟨_, rfl⟩ (.cons ⟨_, rfl⟩ (.cons ⟨_, rfl⟩ .nil))⟩
  have hoI : PySem.W.mroIn K C (.type "object") = some true := (tM.sub _).trans (by
    congr 1)
  have tF : KFn K C := ⟨tC, tH, hn, hk, hoI, tM.kit (by decide +kernel), tM.kit (by decide +kernel), tM.kit (by decide +kernel), tM.kit (by decide +kernel), tM.kit (by decide +kernel)⟩
  have kD : PySem.W.kitOne K (.ref C) (.type "dict") = some false := tM.kit (by decide +kernel)
  have tG : ProcC K C := ⟨tC, y0, y1, y2, y3, y4⟩
  obtain ⟨fdW, FEW⟩ := iW.fn
  obtain ⟨fdN, FEN⟩ := iN.fn
  obtain ⟨fdK, FEK⟩ := iK.fn
  obtain ⟨fdP, FEP⟩ := iP.fn
  obtain ⟨fdY, FEY⟩ := iY.fn
  have E3 : Errs3 K mg CN CY CP AE := ⟨PySem.W.mg_of X G eA, PySem.W.mg_of X G eN, PySem.W.mg_of X G eY, PySem.W.mg_of X G eP, xN, xY, xP, nN, nY, nP, mN.exm2 aeM (by rfl) aeT, mY.exm2 aeM (by rfl) aeT, mP.exm2 aeM (by rfl) aeT, kit_self, mY.kit2 mN iN.ox.tyC dYN dAN, kit_self, mP.kit2 mN iN.ox.tyC dPN dAN, mP.kit2 mY iY.ox.tyC dPY dAY, kit_self⟩
  refine ⟨PySem.W.fnOf "law" "law" (defArgs sLaw) (defBody sLaw) (defScope sLaw) .none kV42 dc42 pm42 an42 cd42 ct42, fun s v => .of_eq rfl, fun base _ _ => ?_⟩
  have OW := own_Wrong (P := l.prog) (w := w) (base := base) FEW iW.ox nW (PySem.W.mg_of X G eW) iW.fi iW.tI
  have ON := own_NoName (P := l.prog) (w := w) (base := base) FEN iN.ox nN (PySem.W.mg_of X G eN) iN.fi iN.tI
  have OK := own_BadKind (P := l.prog) (w := w) (base := base) FEK iK.ox nK (PySem.W.mg_of X G eK) iK.fi iK.tI
  have OP := own_NoPlace (P := l.prog) (w := w) (base := base) FEP iP.ox nP (PySem.W.mg_of X G eP) iP.fi iP.tI
  have OY := own_NoWay (P := l.prog) (w := w) (base := base) FEY iY.ox nY (PySem.W.mg_of X G eY) iY.fi iY.tI
  have G0 := ok_isint (P := l.prog) (w := w) (base := base) tF F0 (PySem.W.mg_none_of X G z3) (PySem.W.mg_none_of X G z1) (PySem.W.mg_none_of X G z4)
  have G1 := ok_isname (P := l.prog) (w := w) (base := base) tF F1 (PySem.W.mg_none_of X G z3) (PySem.W.mg_none_of X G z5) (PySem.W.mg_none_of X G z2) (PySem.W.mg_none_of X G z6) (PySem.W.mg_of X G cL) (PySem.W.mg_of X G cN)
  have G2 := ok_issource (P := l.prog) (w := w) (base := base) tF F2 G1 b1 (PySem.W.mg_of X G a1) k1 (PySem.W.mg_none_of X G z3) (PySem.W.mg_none_of X G z5) (PySem.W.mg_none_of X G z2)
  have G3 := ok_isrow (P := l.prog) (w := w) (base := base) tF F3 (PySem.W.mg_none_of X G z3) (PySem.W.mg_none_of X G z9) (PySem.W.mg_none_of X G z10)
  have G4 := ok_iskind (P := l.prog) (w := w) (base := base) tF F4 (PySem.W.mg_of X G cK) hKi (PySem.W.mg_none_of X G z3) (PySem.W.mg_none_of X G z5)
  have G5 := ok_fits (P := l.prog) (w := w) (base := base) (mg := mg) F5
  have G6 := ok_chkA (P := l.prog) (w := w) (base := base) F6 OW (PySem.W.mg_none_of X G z13)
  have G7 := ok_arenames (P := l.prog) (w := w) (base := base) F7 G3 b3 (PySem.W.mg_of X G a3) k3 G1 b1 (PySem.W.mg_of X G a1) k1 (PySem.W.mg_none_of X G z6) (PySem.W.mg_none_of X G z2)
  have G16 := ok_ispart (P := l.prog) (w := w) (base := base) tF F16 G2 b2 (PySem.W.mg_of X G a2) k2 G0 b0 (PySem.W.mg_of X G a0) k0 (PySem.W.mg_none_of X G z3) (PySem.W.mg_none_of X G z10) (PySem.W.mg_none_of X G z2)
  have G14 := ok_issetting (P := l.prog) (w := w) (base := base) tF F14 G1 b1 (PySem.W.mg_of X G a1) k1 G2 b2 (PySem.W.mg_of X G a2) k2 G0 b0 (PySem.W.mg_of X G a0) k0 (PySem.W.mg_none_of X G z3) (PySem.W.mg_none_of X G z10) (PySem.W.mg_none_of X G z2)
  have G15 := ok_areparts (P := l.prog) (w := w) (base := base) F15 G3 b3 (PySem.W.mg_of X G a3) k3 G16 b16 (PySem.W.mg_of X G a16) k16 (PySem.W.mg_none_of X G z6)
  have G13 := ok_aresettings (P := l.prog) (w := w) (base := base) F13 G3 b3 (PySem.W.mg_of X G a3) k3 G14 b14 (PySem.W.mg_of X G a14) k14 (PySem.W.mg_none_of X G z6) (PySem.W.mg_none_of X G z2)
  have G8 := ok_isst (P := l.prog) (w := w) (base := base) tF F8 G1 b1 (PySem.W.mg_of X G a1) k1 G15 b15 (PySem.W.mg_of X G a15) k15 G13 b13 (PySem.W.mg_of X G a13) k13 G7 b7 (PySem.W.mg_of X G a7) k7 (PySem.W.mg_none_of X G z3) (PySem.W.mg_none_of X G z10) (PySem.W.mg_none_of X G z5) (PySem.W.mg_none_of X G z2)
  have G9 := ok_frozen (P := l.prog) (w := w) (base := base) F9 G3 b3 (PySem.W.mg_of X G a3) k3 (PySem.W.mg_none_of X G z10)
  have G10 := ok_sets (P := l.prog) (w := w) (base := base) F10 (PySem.W.mg_none_of X G z12)
  have G12 := ok_parts (P := l.prog) (w := w) (base := base) (C := C) F12 (PySem.W.mg_of X G cP) p0 pP (PySem.W.mg_none_of X G z10)
  have G11 := ok_reads (P := l.prog) (w := w) (base := base) F11 G12 b12 (PySem.W.mg_of X G a12) k12 (PySem.W.mg_none_of X G z12)
  have G17 := ok_arekinds (P := l.prog) (w := w) (base := base) tF kD F17 G1 b1 (PySem.W.mg_of X G a1) k1 G4 b4 (PySem.W.mg_of X G a4) k4 (PySem.W.mg_none_of X G z3) (PySem.W.mg_none_of X G z11) (PySem.W.mg_none_of X G z6)
  have G20 := ok_isplace (P := l.prog) (w := w) (base := base) F20 G0 b0 (PySem.W.mg_of X G a0) k0
  have G19 := ok_isway (P := l.prog) (w := w) (base := base) F19 G3 b3 (PySem.W.mg_of X G a3) k3 G20 b20 (PySem.W.mg_of X G a20) k20 G8 b8 (PySem.W.mg_of X G a8) k8 (PySem.W.mg_none_of X G z2)
  have G18 := ok_areways (P := l.prog) (w := w) (base := base) F18 G3 b3 (PySem.W.mg_of X G a3) k3 G19 b19 (PySem.W.mg_of X G a19) k19 (PySem.W.mg_none_of X G z6)
  have G21 := ok_chknames (P := l.prog) (w := w) (base := base) F21 ON G10 b10 (PySem.W.mg_of X G a10) k10 G11 b11 (PySem.W.mg_of X G a11) k11 (PySem.W.mg_none_of X G z12)
  have G22 := ok_places (P := l.prog) (w := w) (base := base) F22 OP
  have G24 := ok_flows (P := l.prog) (w := w) (base := base) F24 (PySem.W.mg_of X G cW) wD
  have G23 := ok_chkkinds (P := l.prog) (w := w) (base := base) F23 OK (PySem.W.mg_of X G cW) wD G24 b24 (PySem.W.mg_of X G a24) k24 G5 b5 (PySem.W.mg_of X G a5) k5
  have GRn := no_isrow (P := l.prog) (w := w) (base := base) F3 (PySem.W.mg_none_of X G z3) (PySem.W.mg_none_of X G z9) (PySem.W.mg_none_of X G z10)
  have GIn := orN G0 (no_isint (P := l.prog) (w := w) (base := base) F0 (PySem.W.mg_none_of X G z3) (PySem.W.mg_none_of X G z1) (PySem.W.mg_none_of X G z4))
  have GNn := orN G7 (no_arenames (P := l.prog) (w := w) (base := base) F7 GRn b3 (PySem.W.mg_of X G a3) k3 G1 b1 (PySem.W.mg_of X G a1) k1 (PySem.W.mg_none_of X G z6) (PySem.W.mg_none_of X G z2))
  have GWn := orN G18 (no_areways (P := l.prog) (w := w) (base := base) F18 GRn b3 (PySem.W.mg_of X G a3) k3 G19 b19 (PySem.W.mg_of X G a19) k19 (PySem.W.mg_none_of X G z6))
  have MG0 := ok_pinit (P := l.prog) (w := w) (base := base) mF0 tG G6 b6 (PySem.W.mg_of X G a6) k6 G17 b17 (PySem.W.mg_of X G a17) k17 GNn b7 (PySem.W.mg_of X G a7) k7 GIn b0 (PySem.W.mg_of X G a0) k0 GWn b18 (PySem.W.mg_of X G a18) k18 G9 b9 (PySem.W.mg_of X G a9) k9 G21 b21 (PySem.W.mg_of X G a21) k21 G22 b22 (PySem.W.mg_of X G a22) k22 G23 b23 (PySem.W.mg_of X G a23) k23 (PySem.W.mg_none_of X G z12) (PySem.W.mg_none_of X G z10)
  have MGp := ok_pp (P := l.prog) (w := w) (base := base) (mg := mg) tG mF1
  have MGr := ok_pr (P := l.prog) (w := w) (base := base) (mg := mg) tG mF2
  have MGs := ok_ps (P := l.prog) (w := w) (base := base) (mg := mg) tG mF3
  have MGn := ok_pn (P := l.prog) (w := w) (base := base) tG mF4 (PySem.W.mg_none_of X G z9)
  have MGk := ok_pk (P := l.prog) (w := w) (base := base) tG mF5 G1 b1 (PySem.W.mg_of X G a1) k1
  have MGkA := ok_kindA (P := l.prog) (w := w) (base := base) tG mF5 ON G1 b1 (PySem.W.mg_of X G a1) k1
  have MGu := ok_uppers (P := l.prog) (w := w) (base := base) (mg := mg) tG mF6
  have MGl := ok_lowers (P := l.prog) (w := w) (base := base) (mg := mg) tG mF7
  have MGw := ok_pw (P := l.prog) (w := w) (base := base) tG mF8 (PySem.W.mg_none_of X G z9)
  have MGy := ok_way (P := l.prog) (w := w) (base := base) tG mF9 OY (PySem.W.mg_none_of X G z2)
  have MGo := ok_out (P := l.prog) (w := w) (base := base) tG mF10 OP (PySem.W.mg_none_of X G z13)
  have MGL := ok_plen (P := l.prog) (w := w) (base := base) tG mF11 (PySem.W.mg_none_of X G z2)
  have G25 := ok_bag (P := l.prog) (w := w) (base := base) F25 (PySem.W.mg_none_of X G z0)
  have G26 := ok_take (P := l.prog) (w := w) (base := base) F26 (PySem.W.mg_none_of X G z1) (PySem.W.mg_none_of X G z2)
  have G27 := ok_alike (P := l.prog) (w := w) (base := base) F27 (PySem.W.mg_none_of X G z8)
  have G28 := ok_mixed (P := l.prog) (w := w) (base := base) F28 G26 b26 (PySem.W.mg_of X G a26) k26 (PySem.W.mg_none_of X G z2)
  have G29 := ok_names (P := l.prog) (w := w) (base := base) F29 G26 b26 (PySem.W.mg_of X G a26) k26 (PySem.W.mg_none_of X G z7) (PySem.W.mg_none_of X G z2) (PySem.W.mg_none_of X G z1)
  have G30 := ok_number (P := l.prog) (w := w) (base := base) F30 G26 b26 (PySem.W.mg_of X G a26) k26 (PySem.W.mg_none_of X G z1)
  have G31 := ok_kinds (P := l.prog) (w := w) (base := base) F31 G26 b26 (PySem.W.mg_of X G a26) k26
  have G32 := ok_part (P := l.prog) (w := w) (base := base) F32 G26 b26 (PySem.W.mg_of X G a26) k26 G30 b30 (PySem.W.mg_of X G a30) k30 (PySem.W.mg_none_of X G z12) (PySem.W.mg_none_of X G z2)
  have G33 := ok_st (P := l.prog) (w := w) (base := base) F33 G26 b26 (PySem.W.mg_of X G a26) k26 G32 b32 (PySem.W.mg_of X G a32) k32 G28 b28 (PySem.W.mg_of X G a28) k28 (PySem.W.mg_none_of X G z12) (PySem.W.mg_none_of X G z2) (PySem.W.mg_none_of X G z7) (PySem.W.mg_none_of X G z10)
  have G34 := ok_call2 (P := l.prog) (w := w) (base := base) (fT := f26) (fdT := fdW) F34 G32 b32 (PySem.W.mg_of X G a32) k32 G28 b28 (PySem.W.mg_of X G a28) k28 (PySem.W.mg_none_of X G z12) (PySem.W.mg_none_of X G z10)
  have G35 := ok_head (P := l.prog) (w := w) (base := base) F35 G26 b26 (PySem.W.mg_of X G a26) k26 G29 b29 (PySem.W.mg_of X G a29) k29 G31 b31 (PySem.W.mg_of X G a31) k31 G28 b28 (PySem.W.mg_of X G a28) k28 (PySem.W.mg_none_of X G z12) (PySem.W.mg_none_of X G z10)
  have G36 := ok_ways (P := l.prog) (w := w) (base := base) F36 G26 b26 (PySem.W.mg_of X G a26) k26 G34 b34 (PySem.W.mg_of X G a34) k34 G33 b33 (PySem.W.mg_of X G a33) k33 (PySem.W.mg_none_of X G z12) (PySem.W.mg_none_of X G z7) (PySem.W.mg_none_of X G z2)
  have G37 := ok_five (P := l.prog) (w := w) (base := base) F37 tG mM4 MGn mb4 mM5 MGk mb5 mM8 MGw mb8 mM1 MGp mb1 mM2 MGr mb2 mM3 MGs mb3
  have G38 := ok_duefive (P := l.prog) (w := w) (base := base) F38 (PySem.W.mg_none_of X G z12) (PySem.W.mg_none_of X G z10) (PySem.W.mg_none_of X G z9)
  have G39 := ok_loose (P := l.prog) (w := w) (base := base) F39 G26 b26 (PySem.W.mg_of X G a26) k26 (PySem.W.mg_none_of X G z3) (PySem.W.mg_none_of X G z10) (PySem.W.mg_none_of X G z9)
  have G40 := ok_asked (P := l.prog) (w := w) (base := base) F40 tG E3 mM5 MGkA mb5 mM9 MGy mb9 mM10 MGo mb10 (PySem.W.mg_none_of X G z3)
  have G41 := ok_right (P := l.prog) (w := w) (base := base) F41 tG G27 b27 (PySem.W.mg_of X G a27) k27 G37 b37 (PySem.W.mg_of X G a37) k37 G38 b38 (PySem.W.mg_of X G a38) k38 G40 b40 (PySem.W.mg_of X G a40) k40 MGL mb11 lenE lenT mM6 MGu mb6 mM7 MGl mb7 (PySem.W.mg_none_of X G z12) (PySem.W.mg_none_of X G z2) (PySem.W.mg_none_of X G z7)
  exact ok_law F42 tG G25 b25 (PySem.W.mg_of X G a25) k25 G35 b35 (PySem.W.mg_of X G a35) k35 G36 b36 (PySem.W.mg_of X G a36) k36 G39 b39 (PySem.W.mg_of X G a39) k39 G41 b41 (PySem.W.mg_of X G a41) k41 mk MG0 mb0 (PySem.W.mg_of X G eF) mM4 MGn mb4 mM6 MGu mb6 mM7 MGl mb7 mM8 MGw mb8 mM10 (fn_calm MGo) mb10 (PySem.W.mg_none_of X G z7) (PySem.W.mg_none_of X G z9) (PySem.W.mg_none_of X G z11) (PySem.W.mg_none_of X G z3)
end Fv


set_option Elab.async false
open PySem PySem.W PyProof.Rows
set_option maxRecDepth 100000 in
set_option maxHeartbeats 0 in
theorem PySem.Challenge.cw_farapart_k23_procedures_told_holds : PySem.Challenge.rw_farapart_k23_procedures_told.Holds := by
  w_on; o_law; k_head; (case hw => w_witness2)
  k_fill
  refine Fv.walk_G (l := PySem.Challenge.rw_farapart_k23_procedures_told) (n := 63) (k := 10) (x := "_law_script") (sp := Fv.spLaw) rfl (by decide) rfl ⟨rfl, by decide, by decide⟩ (fun w h Y => PySem.W.kIn_of Y) ?F (fun K H a ns hl _ hS => ⟨a, ns, rfl, hS, hl, fun _ => rfl⟩)
  case F =>
    intro w mg fa h KX G hmg
    refine' Fv.all_mk KX G hmg ?eF ?tC ?tM ?tH ?hn ?hk ?y0 ?y1 ?y2 ?y3 ?y4 ?mk ?mM1 ?mM2 ?mM3 ?lenE ?lenT ?mM4 ?mM5 ?mM6 ?mM7 ?mM8 ?mM9 ?mM10 ?ml0 ?mc0 ?mk0 ?ml1 ?mc1 ?mk1 ?ml2 ?mc2 ?mk2 ?ml3 ?mc3 ?mk3 ?ml4 ?mc4 ?mk4 ?ml5 ?mc5 ?mk5 ?ml6 ?mc6 ?mk6 ?ml7 ?mc7 ?mk7 ?ml8 ?mc8 ?mk8 ?ml9 ?mc9 ?mk9 ?ml10 ?mc10 ?mk10 ?ml11 ?mc11 ?mk11 ?eA ?eW ?eN ?eK ?eP ?eY ?aeM ?aeT ?xW ?nW ?mW ?iW ?xN ?nN ?mN ?iN ?xK ?nK ?mK ?iK ?xP ?nP ?mP ?iP ?xY ?nY ?mY ?iY ?dYN ?dPN ?dPY ?dAN ?dAY ?cL ?cN ?cP ?cK ?lK ?tK ?vK ?cW ?wD ?p0 ?p1 ?p2 ?p3 ?a0 ?l0 ?c0 ?k0 ?a1 ?l1 ?c1 ?k1 ?a2 ?l2 ?c2 ?k2 ?a3 ?l3 ?c3 ?k3 ?a4 ?l4 ?c4 ?k4 ?a5 ?l5 ?c5 ?k5 ?a6 ?l6 ?c6 ?k6 ?a7 ?l7 ?c7 ?k7 ?a8 ?l8 ?c8 ?k8 ?a9 ?l9 ?c9 ?k9 ?a10 ?l10 ?c10 ?k10 ?a11 ?l11 ?c11 ?k11 ?a12 ?l12 ?c12 ?k12 ?a13 ?l13 ?c13 ?k13 ?a14 ?l14 ?c14 ?k14 ?a15 ?l15 ?c15 ?k15 ?a16 ?l16 ?c16 ?k16 ?a17 ?l17 ?c17 ?k17 ?a18 ?l18 ?c18 ?k18 ?a19 ?l19 ?c19 ?k19 ?a20 ?l20 ?c20 ?k20 ?a21 ?l21 ?c21 ?k21 ?a22 ?l22 ?c22 ?k22 ?a23 ?l23 ?c23 ?k23 ?a24 ?l24 ?c24 ?k24 ?a25 ?l25 ?c25 ?k25 ?a26 ?l26 ?c26 ?k26 ?a27 ?l27 ?c27 ?k27 ?a28 ?l28 ?c28 ?k28 ?a29 ?l29 ?c29 ?k29 ?a30 ?l30 ?c30 ?k30 ?a31 ?l31 ?c31 ?k31 ?a32 ?l32 ?c32 ?k32 ?a33 ?l33 ?c33 ?k33 ?a34 ?l34 ?c34 ?k34 ?a35 ?l35 ?c35 ?k35 ?a36 ?l36 ?c36 ?k36 ?a37 ?l37 ?c37 ?k37 ?a38 ?l38 ?c38 ?k38 ?a39 ?l39 ?c39 ?k39 ?a40 ?l40 ?c40 ?k40 ?a41 ?l41 ?c41 ?k41 ?a42 ?l42 ?c42 ?k42 ?z0 ?z1 ?z2 ?z3 ?z4 ?z5 ?z6 ?z7 ?z8 ?z9 ?z10 ?z11 ?z12 ?z13
    (case eF => k_is)
    (case tC => exact ⟨by k_is, by k_is, by k_is, by k_is⟩)
    (case tM => exact ⟨_, by k_is, by rfl⟩)
    (case tH => k_is)
    (case hn => k_is)
    (case hk => k_is)
    (case y0 => k_is)
    (case y1 => k_is)
    (case y2 => k_is)
    (case y3 => k_is)
    (case y4 => k_is)
    (case mk => exact ⟨by k_is, by k_is, by k_is, by k_is⟩)
    (case mM1 => exact ⟨by k_is, by k_is, by k_is, ⟨_, by k_is⟩⟩)
    (case mM2 => exact ⟨by k_is, by k_is, by k_is, ⟨_, by k_is⟩⟩)
    (case mM3 => exact ⟨by k_is, by k_is, by k_is, ⟨_, by k_is⟩⟩)
    (case lenE => k_is)
    (case lenT => k_is)
    (case mM4 => exact ⟨by k_is, by k_is, by k_is⟩)
    (case mM5 => exact ⟨by k_is, by k_is, by k_is⟩)
    (case mM6 => exact ⟨by k_is, by k_is, by k_is⟩)
    (case mM7 => exact ⟨by k_is, by k_is, by k_is⟩)
    (case mM8 => exact ⟨by k_is, by k_is, by k_is⟩)
    (case mM9 => exact ⟨by k_is, by k_is, by k_is⟩)
    (case mM10 => exact ⟨by k_is, by k_is, by k_is⟩)
    (case ml0 => k_is)
    (case mc0 => k_is)
    (case mk0 => k_is)
    (case ml1 => k_is)
    (case mc1 => k_is)
    (case mk1 => k_is)
    (case ml2 => k_is)
    (case mc2 => k_is)
    (case mk2 => k_is)
    (case ml3 => k_is)
    (case mc3 => k_is)
    (case mk3 => k_is)
    (case ml4 => k_is)
    (case mc4 => k_is)
    (case mk4 => k_is)
    (case ml5 => k_is)
    (case mc5 => k_is)
    (case mk5 => k_is)
    (case ml6 => k_is)
    (case mc6 => k_is)
    (case mk6 => k_is)
    (case ml7 => k_is)
    (case mc7 => k_is)
    (case mk7 => k_is)
    (case ml8 => k_is)
    (case mc8 => k_is)
    (case mk8 => k_is)
    (case ml9 => k_is)
    (case mc9 => k_is)
    (case mk9 => k_is)
    (case ml10 => k_is)
    (case mc10 => k_is)
    (case mk10 => k_is)
    (case ml11 => k_is)
    (case mc11 => k_is)
    (case mk11 => k_is)
    (case eA => k_is)
    (case eW => k_is)
    (case eN => k_is)
    (case eK => k_is)
    (case eP => k_is)
    (case eY => k_is)
    (case aeM => exact ⟨_, by k_is, by rfl⟩)
    (case aeT => k_is)
    (case xW => exact ⟨by k_is, by k_is, by k_is, by k_is, by k_is, by k_is, by k_is, by k_is⟩)
    (case nW => k_is)
    (case mW => exact ⟨_, by k_is, by rfl⟩)
    (case iW => exact ⟨⟨⟨_, _, _, _, _, _, _, _, _, _, _, _, _, _, _, by k_is, by decide +kernel⟩, by k_is, by k_is, by k_is, by k_is⟩, by k_is, by k_is, ⟨_, L2.fun_mk (by k_is) (by k_is) (by k_is)⟩⟩)
    (case xN => exact ⟨by k_is, by k_is, by k_is, by k_is, by k_is, by k_is, by k_is, by k_is⟩)
    (case nN => k_is)
    (case mN => exact ⟨_, by k_is, by rfl⟩)
    (case iN => exact ⟨⟨⟨_, _, _, _, _, _, _, _, _, _, _, _, _, _, _, by k_is, by decide +kernel⟩, by k_is, by k_is, by k_is, by k_is⟩, by k_is, by k_is, ⟨_, L2.fun_mk (by k_is) (by k_is) (by k_is)⟩⟩)
    (case xK => exact ⟨by k_is, by k_is, by k_is, by k_is, by k_is, by k_is, by k_is, by k_is⟩)
    (case nK => k_is)
    (case mK => exact ⟨_, by k_is, by rfl⟩)
    (case iK => exact ⟨⟨⟨_, _, _, _, _, _, _, _, _, _, _, _, _, _, _, by k_is, by decide +kernel⟩, by k_is, by k_is, by k_is, by k_is⟩, by k_is, by k_is, ⟨_, L2.fun_mk (by k_is) (by k_is) (by k_is)⟩⟩)
    (case xP => exact ⟨by k_is, by k_is, by k_is, by k_is, by k_is, by k_is, by k_is, by k_is⟩)
    (case nP => k_is)
    (case mP => exact ⟨_, by k_is, by rfl⟩)
    (case iP => exact ⟨⟨⟨_, _, _, _, _, _, _, _, _, _, _, _, _, _, _, by k_is, by decide +kernel⟩, by k_is, by k_is, by k_is, by k_is⟩, by k_is, by k_is, ⟨_, L2.fun_mk (by k_is) (by k_is) (by k_is)⟩⟩)
    (case xY => exact ⟨by k_is, by k_is, by k_is, by k_is, by k_is, by k_is, by k_is, by k_is⟩)
    (case nY => k_is)
    (case mY => exact ⟨_, by k_is, by rfl⟩)
    (case iY => exact ⟨⟨⟨_, _, _, _, _, _, _, _, _, _, _, _, _, _, _, by k_is, by decide +kernel⟩, by k_is, by k_is, by k_is, by k_is⟩, by k_is, by k_is, ⟨_, L2.fun_mk (by k_is) (by k_is) (by k_is)⟩⟩)
    (case dYN => decide)
    (case dPN => decide)
    (case dPY => decide)
    (case dAN => decide)
    (case dAY => decide)
    (case cL => k_is)
    (case cN => k_is)
    (case cP => k_is)
    (case cK => k_is)
    (case lK => k_is)
    (case tK => rfl)
    (case vK => exact ⟨_, _, _, _, rfl⟩)
    (case cW => k_is)
    (case wD => exact ⟨⟨_, _, by k_is, by exact ⟨⟨_, _, rfl, rfl⟩, ⟨_, _, rfl, rfl⟩, True.intro⟩, by decide +kernel⟩, ⟨_, by k_is, ⟨_, rfl⟩⟩, ⟨_, by k_is, ⟨_, rfl⟩⟩, by k_is, by k_is, by k_is⟩)
    (case p0 => exact ⟨_, _, _, by k_is, by exact ⟨⟨_, _, rfl, rfl⟩, ⟨_, _, rfl, rfl⟩, ⟨_, _, rfl, rfl⟩, ⟨_, _, rfl, rfl⟩, True.intro⟩, by k_is, ⟨_, rfl⟩⟩)
    (case p1 => exact ⟨_, _, _, by k_is, by exact ⟨⟨_, _, rfl, rfl⟩, ⟨_, _, rfl, rfl⟩, ⟨_, _, rfl, rfl⟩, ⟨_, _, rfl, rfl⟩, True.intro⟩, by k_is, ⟨_, rfl⟩⟩)
    (case p2 => exact ⟨_, _, _, by k_is, by exact ⟨⟨_, _, rfl, rfl⟩, ⟨_, _, rfl, rfl⟩, ⟨_, _, rfl, rfl⟩, ⟨_, _, rfl, rfl⟩, True.intro⟩, by k_is, ⟨_, rfl⟩⟩)
    (case p3 => exact ⟨_, _, _, by k_is, by exact ⟨⟨_, _, rfl, rfl⟩, ⟨_, _, rfl, rfl⟩, ⟨_, _, rfl, rfl⟩, ⟨_, _, rfl, rfl⟩, True.intro⟩, by k_is, ⟨_, rfl⟩⟩)
    (case a0 => k_is)
    (case l0 => k_is)
    (case c0 => k_is)
    (case k0 => k_is)
    (case a1 => k_is)
    (case l1 => k_is)
    (case c1 => k_is)
    (case k1 => k_is)
    (case a2 => k_is)
    (case l2 => k_is)
    (case c2 => k_is)
    (case k2 => k_is)
    (case a3 => k_is)
    (case l3 => k_is)
    (case c3 => k_is)
    (case k3 => k_is)
    (case a4 => k_is)
    (case l4 => k_is)
    (case c4 => k_is)
    (case k4 => k_is)
    (case a5 => k_is)
    (case l5 => k_is)
    (case c5 => k_is)
    (case k5 => k_is)
    (case a6 => k_is)
    (case l6 => k_is)
    (case c6 => k_is)
    (case k6 => k_is)
    (case a7 => k_is)
    (case l7 => k_is)
    (case c7 => k_is)
    (case k7 => k_is)
    (case a8 => k_is)
    (case l8 => k_is)
    (case c8 => k_is)
    (case k8 => k_is)
    (case a9 => k_is)
    (case l9 => k_is)
    (case c9 => k_is)
    (case k9 => k_is)
    (case a10 => k_is)
    (case l10 => k_is)
    (case c10 => k_is)
    (case k10 => k_is)
    (case a11 => k_is)
    (case l11 => k_is)
    (case c11 => k_is)
    (case k11 => k_is)
    (case a12 => k_is)
    (case l12 => k_is)
    (case c12 => k_is)
    (case k12 => k_is)
    (case a13 => k_is)
    (case l13 => k_is)
    (case c13 => k_is)
    (case k13 => k_is)
    (case a14 => k_is)
    (case l14 => k_is)
    (case c14 => k_is)
    (case k14 => k_is)
    (case a15 => k_is)
    (case l15 => k_is)
    (case c15 => k_is)
    (case k15 => k_is)
    (case a16 => k_is)
    (case l16 => k_is)
    (case c16 => k_is)
    (case k16 => k_is)
    (case a17 => k_is)
    (case l17 => k_is)
    (case c17 => k_is)
    (case k17 => k_is)
    (case a18 => k_is)
    (case l18 => k_is)
    (case c18 => k_is)
    (case k18 => k_is)
    (case a19 => k_is)
    (case l19 => k_is)
    (case c19 => k_is)
    (case k19 => k_is)
    (case a20 => k_is)
    (case l20 => k_is)
    (case c20 => k_is)
    (case k20 => k_is)
    (case a21 => k_is)
    (case l21 => k_is)
    (case c21 => k_is)
    (case k21 => k_is)
    (case a22 => k_is)
    (case l22 => k_is)
    (case c22 => k_is)
    (case k22 => k_is)
    (case a23 => k_is)
    (case l23 => k_is)
    (case c23 => k_is)
    (case k23 => k_is)
    (case a24 => k_is)
    (case l24 => k_is)
    (case c24 => k_is)
    (case k24 => k_is)
    (case a25 => k_is)
    (case l25 => k_is)
    (case c25 => k_is)
    (case k25 => k_is)
    (case a26 => k_is)
    (case l26 => k_is)
    (case c26 => k_is)
    (case k26 => k_is)
    (case a27 => k_is)
    (case l27 => k_is)
    (case c27 => k_is)
    (case k27 => k_is)
    (case a28 => k_is)
    (case l28 => k_is)
    (case c28 => k_is)
    (case k28 => k_is)
    (case a29 => k_is)
    (case l29 => k_is)
    (case c29 => k_is)
    (case k29 => k_is)
    (case a30 => k_is)
    (case l30 => k_is)
    (case c30 => k_is)
    (case k30 => k_is)
    (case a31 => k_is)
    (case l31 => k_is)
    (case c31 => k_is)
    (case k31 => k_is)
    (case a32 => k_is)
    (case l32 => k_is)
    (case c32 => k_is)
    (case k32 => k_is)
    (case a33 => k_is)
    (case l33 => k_is)
    (case c33 => k_is)
    (case k33 => k_is)
    (case a34 => k_is)
    (case l34 => k_is)
    (case c34 => k_is)
    (case k34 => k_is)
    (case a35 => k_is)
    (case l35 => k_is)
    (case c35 => k_is)
    (case k35 => k_is)
    (case a36 => k_is)
    (case l36 => k_is)
    (case c36 => k_is)
    (case k36 => k_is)
    (case a37 => k_is)
    (case l37 => k_is)
    (case c37 => k_is)
    (case k37 => k_is)
    (case a38 => k_is)
    (case l38 => k_is)
    (case c38 => k_is)
    (case k38 => k_is)
    (case a39 => k_is)
    (case l39 => k_is)
    (case c39 => k_is)
    (case k39 => k_is)
    (case a40 => k_is)
    (case l40 => k_is)
    (case c40 => k_is)
    (case k40 => k_is)
    (case a41 => k_is)
    (case l41 => k_is)
    (case c41 => k_is)
    (case k41 => k_is)
    (case a42 => k_is)
    (case l42 => k_is)
    (case c42 => k_is)
    (case k42 => k_is)
    (case z0 => k_is)
    (case z1 => k_is)
    (case z2 => k_is)
    (case z3 => k_is)
    (case z4 => k_is)
    (case z5 => k_is)
    (case z6 => k_is)
    (case z7 => k_is)
    (case z8 => k_is)
    (case z9 => k_is)
    (case z10 => k_is)
    (case z11 => k_is)
    (case z12 => k_is)
    (case z13 => k_is)

